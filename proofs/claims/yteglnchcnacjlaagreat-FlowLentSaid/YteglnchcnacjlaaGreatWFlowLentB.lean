/- FlowLent: whatever the list. -/
import Derived.Test.YteglnchcnacjlaaGreatWFlowLentA
namespace Go.Proofs.YteglnchcnacjlaaGreat
open Go.RowKit

set_option maxRecDepth 20000 in
set_option maxHeartbeats 6400000 in
theorem flowLent_many (p : Option Addr) (c N : Nat) (x : Nat) (y z mo : Int) (w : World) (hc : N ≤ 9223372036854775807) (hN2 : ¬ N ≤ 120) :
    Calls Tryz.prog 3 #[.slice p N c, .float .f64 x, .int .i64 y, .int .i64 z, .int .i64 mo] w fun e w' => e = .returned (.bool true) ∧ Below w.heap.size w w' := by
  have HAw := hideS awake14
  have HFe := hideS fun wx => few14_any p N c wx hc
  rw [decide_eq_false hN2] at HFe
  clear hN2 hc
  go_enter Tryz.func3, Tryz.ntmps3
  go_wp2_with fail
  refine (turned (HFe.out _)).mono ?_
  rintro e w0 ⟨rfl, rfl⟩
  go_wp2_with fail
  refine (HAw.out _).mono ?_
  rintro e wa ⟨rfl, hba⟩
  have HBa := hideS hba
  clear hba
  go_wp2_with fail
  go_ret
  exact ⟨rfl, HBa.out⟩
theorem flowLent_walk (p : Option Addr) (b off c : Nat) (l : List Flw) (x : Nat) (y z mo : Int) (w : World) (hl : JSrc aF w p b off l) (hf : FitJ l) (hc : l.length ≤ 9223372036854775807) (hx : x < 18446744073709551616) (hmo : JI64 mo) (hnil : p = none → l.length = 0 ∧ c = 0) :
    Calls Tryz.prog 3 #[.slice p l.length c, .float .f64 x, .int .i64 y, .int .i64 z, .int .i64 mo] w fun e w' => e = .returned (.bool true) ∧ Below w.heap.size w w' := by
  by_cases hN : l.length ≤ 120
  · obtain ⟨M, E1, E3, E4, HT⟩ := flT_ex l x y z mo hN hf hx hmo
    exact flowLent_few p b off c _ l x y z mo M E1 E3 E4 w hl rfl hnil hN hf HT
  · exact flowLent_many p c _ x y z mo w hc hN
theorem flw_nilJ {H : Type} {enc : TypeId × Value → H} {W : World} {fuel len cap : Nat} {p : Option Addr} {x : DataW H × List MemPlace} (h : DataW.trod enc Tryz.prog W 0 (fun _ => true) true fuel 22 [.slice p len cap] = some x) (hp : p = none) : len = 0 ∧ cap = 0 := by
  rcases Go.Deep.open_slice Tryz.underlying22 h with ⟨hcs, _⟩ | ⟨a, len', cap', m, n', D, Pl, hcs, _, _, _, _, _, _⟩
  · have := (List.cons.inj hcs).1
    cases this
    exact ⟨rfl, rfl⟩
  · have := (List.cons.inj hcs).1
    subst hp
    cases this
end Go.Proofs.YteglnchcnacjlaaGreat
