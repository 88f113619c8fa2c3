/- The walk of SolvePolys: any coefficients, any ends. -/
import Derived.Test.YtoeifjnknhjchaaVAw
import Derived.Test.YtoeifjnknhjchaaVJump
import Derived.Test.YtoeifjnknhjchaaVRefD
namespace Go.Proofs.Ytoeifjnknhjchaa
open Go.RowKit

set_option maxRecDepth 20000 in
set_option maxHeartbeats 800000 in
theorem polys_great (p : Option Addr) (n c lo hi : Nat) (w : World) (hn : 20 < n) (hn2 : n ≤ 9223372036854775807) :
    Calls Try.prog 3 #[.slice p n c, .float .f64 lo, .float .f64 hi] w fun e w' => e = .returned (.bool true) ∧ Below w.heap.size w w' := by
  go_enter Try.func3, Try.ntmps3
  go_wp2_with fail
  refine (awake12 _).mono ?_
  rintro e w3 ⟨rfl, hb⟩
  have B3 := hideS hb
  clear hb
  go_wp2_with fail
  go_ret
  exact ⟨rfl, B3.out⟩

set_option maxRecDepth 20000 in
set_option maxHeartbeats 1600000 in
theorem polys_small (p : Option Addr) (b off n c lo hi : Nat) (cs : List Nat) (w : World) (hs : Src w p b off cs) (hf : FitL cs) (hl : U64 (lo : Int)) (hh : U64 (hi : Int)) (hN : cs.length = n) (hn : n ≤ 20) :
    Calls Try.prog 3 #[.slice p n c, .float .f64 lo, .float .f64 hi] w fun e w' => e = .returned (.bool true) ∧ Below w.heap.size w w' := by
  have hfew := askV_few (polyF cs) lo hi
  have hword := askV_word (polyF cs) hl hh
  rcases hV : askV (polyF cs) lo hi with ⟨X, N, E⟩
  rw [hV] at hfew hword
  have hword : U64 (X : Int) := hword
  have HIs : Hid (∀ w, Calls Try.prog 13 #[.float .f64 X, .int .u64 (X : Int)] w fun e w' => e = .returned (.bool true) ∧ w = w') := fun w => isA X X w hword hword (sameB_refl _)
  have HP := hideS (poly_any p b off c n lo hi X N E cs w hs hN (by omega) (fun x q => hornO_lt hf q) hl hh hV)
  have HB := hideS fun w1 (h1 : Below w.heap.size w w1) => bitsL_any p b off c n cs w1 (hs.below h1) hN (by omega)
  have HR := hideS fun B v w1 (hO : OwnF w1 B 28 uV v cs) => ref12Poly_any B n v cs lo hi X N E w1 hO hf hN (by omega) hl hh hV
  obtain ⟨xi, hxi⟩ : ∃ xi : Int, (X : Int) = xi := ⟨_, rfl⟩
  have HBt := hideS (bits_any lo)
  have HBh := hideS (bits_any hi)
  generalize (lo : Int) = li at *
  generalize (hi : Int) = hj at *
  rw [hxi] at HIs HR
  clear hs hf hl hh hN hV hword hxi
  go_enter Try.func3, Try.ntmps3
  go_wp2_with fail
  refine HP.out.mono ?_
  rintro e w1 ⟨rfl, hb1⟩
  have HB1 := hideS hb1
  clear hb1 HP
  go_wp2_with fail
  refine (HB.out w1 HB1.out).mono ?_
  rintro e w2 ⟨v, rfl, hO, hb2⟩
  have HO := hideS hO
  have HB2 := hideS (HB1.out.trans (hb2.mono HB1.out.size))
  clear hO hb2
  go_wp2_with fail
  refine (turned (HBt.out _)).mono ?_
  rintro e w' ⟨rfl, rfl⟩
  go_wp2_with fail
  refine (turned (HBh.out _)).mono ?_
  rintro e w' ⟨rfl, rfl⟩
  go_wp2_with fail
  refine (HR.out _ v w2 HO.out).mono ?_
  rintro r w3 ⟨⟨l1, h1, ng, a, f, rfl⟩, hb3⟩
  have HB3 : Hid (∀ o, Below w.heap.size w (w3.alloc o)) := fun o => by
    have := HB2.out.trans (hb3.mono HB2.out.size)
    exact this.alloc this.size o
  clear hb3 HR HB HO
  go_wp2_with fail
  refine (HIs.out _).mono ?_
  rintro e w' ⟨rfl, rfl⟩
  go_wp2_with fail
  refine (awake12 _).mono ?_
  rintro e w5 ⟨rfl, hb5⟩
  have HB5 := hideS ((HB3.out _).trans (hb5.mono (HB3.out _).size))
  clear hb5
  go_wp2_with fail
  go_ret
  exact ⟨rfl, HB5.out⟩
end Go.Proofs.Ytoeifjnknhjchaa
