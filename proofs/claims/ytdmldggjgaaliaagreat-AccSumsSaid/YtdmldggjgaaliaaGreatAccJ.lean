/- The contracts of package acc's New, Add, Prod (of numbers), Turn, Value, Sign. -/
import Derived.Test.YtdmldggjgaaliaaGreatAccI
namespace Go.Proofs.YtdmldggjgaaliaaGreat.A
open Go.RowKit

theorem splM_bd (u : Int) : -9007199254740992 < splM u ∧ splM u < 9007199254740992 := by
  unfold splM magI
  have := szI_lo u
  split
  · split <;> split <;> omega
  · omega
theorem splE_bd (u : Int) : -1074 ≤ splE u ∧ splE u ≤ 971 := by
  unfold splE plcI
  split
  · rename_i h
    simp only [Bool.and_eq_true, splOk, decide_eq_true_eq] at h
    have := szI_lo u
    split <;> omega
  · omega
theorem st_ext {a b : St} (h : a.s = b.s) (h' : a.N = b.N) : a = b := by
  cases a; cases b; simp_all
theorem merge_num {a : St} (h : a.Ok) (M : Int) : (⟨a.s, if a.s = 0 then a.N + M else a.N⟩ : St) = a.merge ⟨0, M⟩ := by
  unfold St.merge
  have e : mt a.s 0 = a.s := by simp [mt]
  apply st_ext
  · exact e.symm
  · show (if a.s = 0 then a.N + M else a.N) = if mt a.s 0 = 0 then a.N + M else 0
    rw [e]
    by_cases h0 : a.s = 0
    · rw [if_pos h0, if_pos h0]
    · rw [if_neg h0, if_neg h0, h.n0 h0]
theorem merge_end (a : St) (t : Nat) : (⟨mt a.s t, if mt a.s t = 0 then a.N else 0⟩ : St) = a.merge ⟨t, 0⟩ := by
  unfold St.merge
  apply st_ext
  · rfl
  · show _ = if mt a.s t = 0 then a.N + 0 else 0
    rw [Int.add_zero]
theorem endN_le (u : Int) : endN u ≤ 3 := by unfold endN; split <;> (try split) <;> omega

set_option maxHeartbeats 400000 in
theorem new_any (w : World) (B : Nat) (hB : B ≤ w.heap.size) :
    Calls Tryz.prog 18 #[] w fun x w' => x = .returned (.pointer (some ⟨w.heap.size, 0, none⟩)) ∧ AccAt w' B w.heap.size (.slice none 0 0) 0 ⟨0, 0⟩ ∧ Below w.heap.size w w' := by
  have HA : Hid (AccAt (w.alloc (.cells #[.int .u8 0, .slice none 0 0] 60)) B w.heap.size (.slice none 0 0) 0 ⟨0, 0⟩) :=
    ⟨heap_alloc_new w _, hB, ⟨[], ⟨World.ownsRow_nil _ _ _ _, fun i => by simp⟩, Nat.le_refl _, sg_nil⟩, fun e => (by cases e), ⟨Nat.zero_le _, fun h => absurd rfl h⟩⟩
  go_enter Tryz.func18, Tryz.ntmps18
  go_wp2
  go_ret
  exact ⟨rfl, HA.out, (Below.refl _ _).alloc (Nat.le_refl _) _⟩

set_option maxHeartbeats 800000 in
theorem add_any (B b : Nat) (v : Value) (L : Nat) (a : St) (x : Nat) (u : Int) (w : World) (h : AccAt w B b v L a) (hB : B ≤ w.heap.size) (hu : Hid (u = x)) (hx : U64 u) (hL : L ≤ 40000) :
    Calls Tryz.prog 19 #[.pointer (some ⟨b, 0, none⟩), .float .f64 x] w fun r w' => r = .returned (.tuple #[]) ∧ ∃ v', Did w w' B b v (max L 70 + 1) (a.merge (oneS u)) v' := by
  have HS := hideS (split_as x u w hu hx)
  obtain ⟨tgt, htgt⟩ : ∃ tgt : St, a.merge (oneS u) = tgt := ⟨_, rfl⟩
  rw [htgt]
  cases hok : splOk u
  · have HE := hideS (endOf_any x u w hu hx hok)
    have HM := hideS (meet_any B b v L a (endN u) w h (endN_le u))
    have HR : Hid (tgt = ⟨mt a.s (endN u), if mt a.s (endN u) = 0 then a.N else 0⟩) := by
      show _ = _
      rw [← htgt]
      unfold oneS
      rw [hok, merge_end]; rfl
    rw [hok] at HS
    clear hu hx h hok htgt
    go_enter Tryz.func19, Tryz.ntmps19
    go_wp2_with (first | (go_at_call 34; refine (turned HS.out).mono ?_; rintro e w' ⟨rfl, rfl⟩) | (go_at_call 36; refine (turned HE.out).mono ?_; rintro e w' ⟨rfl, rfl⟩) | (go_at_call 35; refine HM.out.mono ?_; rintro e w1 ⟨rfl, v1, hd, _⟩))
    have HD := hideS hd
    clear hd
    first | go_end0 | refine bodyPost_ret (results_none rfl _ _ _) rfl ?_
    exact ⟨rfl, v1, ⟨by rw [HR.out]; exact HD.out.acc.mono (by omega), HD.out.wrote, HD.out.new⟩⟩
  · have hm := splM_bd u
    have he := splE_bd u
    obtain ⟨sh, hsh⟩ : ∃ sh : Nat, splE u + 2148 = sh := ⟨(splE u + 2148).toNat, by omega⟩
    have HP := hideS (put_any B b v L a 0 (splM u).natAbs sh (splE u) (decide (splM u < 0)) w h hB (by decide) (by omega) hsh (by omega) hL)
    have HZ := hideS (fun w => sizeOf_any (splM u) w (by omega) (by omega))
    have HR : Hid (tgt = ⟨a.s, if a.s = 0 then a.N + sI (decide (splM u < 0)) * (((0 * 18446744073709551616 + (splM u).natAbs) * 2 ^ sh : Nat) : Int) else a.N⟩) := by
      show _ = _
      rw [← htgt, merge_num h.ok]
      unfold oneS
      rw [hok]
      simp only [if_true]
      congr 2
      unfold unitI
      rw [hsh, Int.toNat_natCast, Nat.zero_mul, Nat.zero_add, Int.natCast_mul, ← Int.mul_assoc, Int.natCast_pow]
      congr 1
      unfold sI
      by_cases h0 : splM u < 0
      · simp [h0]; omega
      · simp [h0]; omega
    rw [hok] at HS
    clear hu hx h hok htgt
    generalize splM u = m at *
    generalize splE u = ee at *
    go_enter Tryz.func19, Tryz.ntmps19
    go_wp2_with (first | (go_at_call 34; refine (turned HS.out).mono ?_; rintro e w' ⟨rfl, rfl⟩) | (go_at_call 38; refine (turned (HZ.out _)).mono ?_; rintro e w' ⟨rfl, rfl⟩))
    refine HP.out.mono ?_
    rintro e w1 ⟨rfl, v1, hd⟩
    have HD := hideS hd
    clear hd
    go_wp2_with fail
    go_end0
    exact ⟨rfl, v1, by rw [HR.out]; exact HD.out⟩
end Go.Proofs.YtdmldggjgaaliaaGreat.A
