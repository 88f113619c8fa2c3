/- The document's Print of any tree. -/
import Derived.Test.YtiiajhomdpfafaaGreatDoorDtD
import Derived.Test.YtiiajhomdpfafaaGreatDoorHbh
namespace Go.Proofs.YtiiajhomdpfafaaGreatDoor
open Go.RowKit

theorem r17Words_any {dy : Int → ByteArray} (hd : DyOk dy) (ts : List Trm) (n : Nat) (p : Option Addr) (b off c : Nat) (hn : ts.length = n) (hn2 : n ≤ 1024) (hu : ∀ i < n, TrU (ts.getD i trm0)) (hx : ∀ j < n, TxO dy ts j) :
    ∀ i : Nat, i < n → ∀ w, TDS w p b off ts → Calls Tryz.prog 23 #[.slice p n c, .int .i64 (i : Int)] w fun e w' => e = .returned (.string (WT dy ts i)) ∧ Below w.heap.size w w' := by
  intro i
  induction i using Nat.strongRecOn with
  | _ i ih =>
    intro hi w hs
    exact words_step hd ts n p b off c i hi hn hn2 (hu i hi) (fun j hj => hx j (by omega)) (fun j hj wx hwx => ih j hj (by omega) wx hwx) w hs
set_option maxRecDepth 20000 in
set_option maxHeartbeats 6400000 in
theorem r17Print_ok {dy : Int → ByteArray} (hd : DyOk dy) {ts : List Trm} {D A : Int} (hm : MesR ts D 0 A) (n : Nat) (p0 : Option Addr) (b off c : Nat) (w : World) (hs : TDS w p0 b off ts) (hn : ts.length = n) (hu : ∀ i < n, TrU (ts.getD i trm0)) (hg : n ≤ 1024 ∧ 1 ≤ n) :
    Calls Tryz.prog 13 #[.slice p0 n c] w fun e w' => e = .returned (.tuple #[.string (WT dy ts (n - 1)), .int .i64 0]) ∧ Below w.heap.size w w' := by
  have HC := hidD (r17Check_is hm n p0 b off c w hs hn hu (by omega))
  have HWd : Hid (∀ wx, Below w.heap.size w wx → Calls Tryz.prog 23 #[.slice p0 n c, .int .i64 ((n - 1 : Nat) : Int)] wx fun e w' => e = .returned (.string (WT dy ts (n - 1))) ∧ Below wx.heap.size wx w') := fun wx hb => r17Words_any hd ts n p0 b off c hn hg.1 hu (fun j hj => txO_of hd hm j (by omega)) (n - 1) (by omega) wx (hs.below hb)
  obtain ⟨j, hj⟩ : ∃ j : Nat, n - 1 = j := ⟨_, rfl⟩
  have i1 : (n : Int) - 1 = (j : Int) := by omega
  have j1 : (0 : Int) ≤ (j : Int) := by omega
  have j2 : (j : Int) ≤ 1024 := by omega
  rw [hj] at HWd ⊢
  clear hm hs hn hu hg hj
  generalize WT dy ts j = s at *
  go_enter Tryz.func13, Tryz.ntmps13
  go_wp2_with fail
  refine HC.out.mono ?_
  rintro e w1 ⟨rfl, hb⟩
  have HB := hidD hb
  clear hb HC
  go_wp2_with fail
  refine (HWd.out _ HB.out).mono ?_
  rintro e w2 ⟨rfl, hb⟩
  have HB2 := hidD (HB.out.trans (hb.mono HB.out.size))
  clear hb HWd
  go_wp2_with fail
  go_ret2
  exact ⟨rfl, HB2.out⟩
set_option maxRecDepth 20000 in
theorem r17Print_bad {ts : List Trm} {D E A : Int} (hm : MesR ts D E A) (hE : E ≠ 0) (n : Nat) (p0 : Option Addr) (b off c : Nat) (w : World) (hs : TDS w p0 b off ts) (hn : ts.length = n) (hu : ∀ i < n, TrU (ts.getD i trm0)) (hl : n ≤ 9223372036854775807) :
    Calls Tryz.prog 13 #[.slice p0 n c] w fun e w' => e = .returned (.tuple #[.string ⟨#[]⟩, .int .i64 E]) ∧ Below w.heap.size w w' := by
  have HC := hidD (r17Check_is hm n p0 b off c w hs hn hu hl)
  have h0 : (E == 0) = false := beq_eq_false_iff_ne.2 hE
  clear hm hs hn hu hl hE
  go_enter Tryz.func13, Tryz.ntmps13
  go_wp2_with fail
  refine HC.out.mono ?_
  rintro e w1 ⟨rfl, hb⟩
  have HB := hidD hb
  clear hb HC
  go_wp2_with fail
  go_ret2
  exact ⟨rfl, HB.out⟩
end Go.Proofs.YtiiajhomdpfafaaGreatDoor
