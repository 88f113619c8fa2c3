/- The contracts of expTerms and lnTerms: new rows of fixed floats. -/
import Derived.Test.YtlbpekncaikabaaFHorner
import Derived.Deep.OwnRows
namespace Go.Proofs.Ytlbpekncaikabaa
open Go.RowKit

theorem floatOf_fi (m : Int) : floatOfInt .f64 m = fi m := by
  show Ieee.double.nearest (decide (m < 0)) m.natAbs 0 = _
  unfold fi joinN
  by_cases h0 : m = 0
  · subst h0; rfl
  · rw [if_neg h0, nearest_eq _ (by omega)]
    by_cases hn : m < 0
    · simp only [hn, decide_true, if_true]; rw [word_true]
    · simp only [hn, decide_false, if_false]; rw [word_false]
theorem store_f64 (P : Program) (w : World) (a : Addr) (x : Nat) (z : Value) (h : w.cell? a = some z) (hf : w.frozen? a = false) : (store a (.float .f64 x)).run P w = .ok () (w.setCell a (.float .f64 x)) := by
  rw [run_store P w a _ _ rfl, h]; simp [hf]
theorem info_f64 : (Try.prog.info? 22).map (fun i => (i.zero, i.size, i.bytes)) = some (some (.float .f64 0), 1, 8) := by kernel_rfl

def expL : List Nat := [4607182418800017408, 4607182418800017408, 4602678819172646912, 4595172819793696085, 4586165620538955093, 4575957461383581969, 4564047942368979991, 4551452160554016794, 4537941361671905306, 4523617214285662004, 4508805057796939612, 4493156764026750180, 4477122120089393304, 4460272573143870729]
def lnL : List Nat := [4607182418800017408, 4599676419421066581, 4596373779694328218, 4594314991293244562, 4592670820000712476, 4591215111030249286, 4590207312512236308, 4589468260265693457, 4588638185040256542, 4587745830934523688, 4587023449039406616]
/-- The product ahead of round k. -/
def facN : Nat → Nat
  | 0 => 1
  | k + 1 => facN k * max k 1
theorem exp_row : ∀ k, k < 14 → floatBits .quo .f64 4607182418800017408 (fi (facN (k + 1) : Int)) = some (expL.getD k 0) := by decide +kernel
theorem ln_row : ∀ k, k < 11 → floatBits .quo .f64 4607182418800017408 (fi ((2 * k + 1 : Nat) : Int)) = some (lnL.getD k 0) := by decide +kernel
theorem fac_bd : ∀ k, k < 15 → 1 ≤ facN k ∧ facN k ≤ 6227020800 := by decide +kernel

/-- A new row, filled up to j. -/
def HalfF (w : World) (b n : Nat) (l : List Nat) (j : Nat) : Prop := w.rowIs b 22 n (fun i => .float .f64 (if i < j then l.getD i 0 else 0))
theorem halfF_made (w : World) (n : Nat) (l : List Nat) : HalfF (w.alloc (.cells (madeCells #[.float .f64 0] n) 22)) w.heap.size n l 0 :=
  (World.rowIs_made w (.float .f64 0) n 22).congr (fun i _ => by rw [if_neg (by omega)])
theorem halfF_step {w : World} {b n j x : Nat} {l : List Nat} (h : HalfF w b n l j) (hx : x = l.getD j 0) : HalfF (w.setCell ⟨b, j, none⟩ (.float .f64 x)) b n l (j + 1) := by
  refine (h.set j (.float .f64 x)).congr fun i _ => ?_
  by_cases c : i = j
  · rw [if_pos c, if_pos (by omega), hx, c]
  · rw [if_neg c]
    by_cases d : i < j
    · rw [if_pos d, if_pos (by omega)]
    · rw [if_neg d, if_neg (by omega)]
theorem halfF_src {w : World} {b n : Nat} {l : List Nat} (h : HalfF w b n l n) (hn : l.length = n) : Src w (some ⟨b, 0, none⟩) b 0 l :=
  ⟨fun _ => rfl, fun _ => h.lt, fun j hj => by
    rw [Nat.zero_add]
    have := h.cell (i := j) (by omega)
    rw [if_pos (by omega)] at this; exact this⟩

set_option maxHeartbeats 800000 in
theorem expTerms_any (w : World) :
    Calls Try.prog 27 #[] w fun e w' => e = .returned (.slice (some ⟨w.heap.size, 0, none⟩) 14 14) ∧ Src w' (some ⟨w.heap.size, 0, none⟩) w.heap.size 0 expL ∧ Below w.heap.size w w' := by
  have hmk := fun w => run_make_row' (P := Try.prog) 33 22 (.float .f64 0) 8 Try.underlying33 info_f64 rfl .i64 .i64 14 (by omega) (by omega) w
  rw [show ((14 : Nat) : Int) = 14 from rfl] at hmk
  have HO := hideS (halfF_made w 14 expL)
  go_enter Try.func27, Try.ntmps27
  go_wp2_with fail
  go_loopw [2, 5] (fun s i wr => ∃ k f : Nat, k ≤ 14 ∧ i = .int .i64 k ∧ s = .int .i64 f ∧ Hid (f = facN k) ∧ Hid (HalfF wr w.heap.size 14 expL k) ∧ Hid (Below w.heap.size w wr)) (fun _ i _ => 14 - (intOf i).toNat)
  case atStart => exact ⟨0, 1, Nat.zero_le _, rfl, rfl, rfl, HO, (Below.refl _ _).alloc (Nat.le_refl _) _⟩
  case round =>
    clear HO hmk
    obtain ⟨k, f, hk, rfl, rfl, HF, HH, HB⟩ := hrel
    by_cases hlt : k < 14
    · have hb := fac_bd k (by omega)
      have hb2 := fac_bd (k + 1) (by omega)
      rw [← HF.out] at hb
      have hdv := exp_row k hlt
      obtain ⟨f', hf'⟩ : ∃ f', facN (k + 1) = f' := ⟨_, rfl⟩
      have HF' : Hid (f' = facN (k + 1)) := hf'.symm
      rw [hf'] at hdv hb2
      have hmx : max (k : Int) 1 = ((max k 1 : Nat) : Int) := by omega
      have hml : (f : Int) * ((max k 1 : Nat) : Int) = (f' : Int) := by rw [← hf']; show _ = ((facN k * max k 1 : Nat) : Int); rw [HF.out, Int.natCast_mul]
      clear hf' HF
      generalize ((max k 1 : Nat) : Int) = mx at hmx hml
      obtain ⟨x, hx⟩ : ∃ x, expL.getD k 0 = x := ⟨_, rfl⟩
      have HX : Hid (x = expL.getD k 0) := hx.symm
      rw [hx] at hdv
      clear hx
      have hfo := floatOf_fi (f' : Int)
      have r1 := fun w => run_float_arith (P := Try.prog) w .quo 22 .f64 4607182418800017408 (fi (f' : Int)) x hdv
      clear hdv
      generalize fi (f' : Int) = y at hfo r1
      have hcz := HH.out.cell (i := k) hlt
      rw [if_neg (by omega)] at hcz
      have hfz := HH.out.frozen k
      have hst := store_f64 Try.prog wr ⟨w.heap.size, k, none⟩ x _ hcz hfz
      go_wp2_with fail
      go_roundw
      case rel => exact ⟨k + 1, f', by omega, by simp, rfl, HF', halfF_step HH.out HX.out, HB.out.setCell (Nat.le_refl _) _⟩
      case measure => simp [intOf]; omega
    · obtain rfl : k = 14 := by omega
      have HS := hideS (halfF_src HH.out (by rfl))
      go_wp2_with fail
      go_ret
      exact ⟨rfl, HS.out, HB.out⟩

set_option maxHeartbeats 800000 in
theorem lnTerms_any (w : World) :
    Calls Try.prog 44 #[] w fun e w' => e = .returned (.slice (some ⟨w.heap.size, 0, none⟩) 11 11) ∧ Src w' (some ⟨w.heap.size, 0, none⟩) w.heap.size 0 lnL ∧ Below w.heap.size w w' := by
  have hmk := fun w => run_make_row' (P := Try.prog) 33 22 (.float .f64 0) 8 Try.underlying33 info_f64 rfl .i64 .i64 11 (by omega) (by omega) w
  rw [show ((11 : Nat) : Int) = 11 from rfl] at hmk
  have HO := hideS (halfF_made w 11 lnL)
  go_enter Try.func44, Try.ntmps44
  go_wp2_with fail
  go_loopw [4] (fun i wr => ∃ k : Nat, k ≤ 11 ∧ i = .int .i64 k ∧ Hid (HalfF wr w.heap.size 11 lnL k) ∧ Hid (Below w.heap.size w wr)) (fun i _ => 11 - (intOf i).toNat)
  case atStart => exact ⟨0, Nat.zero_le _, rfl, HO, (Below.refl _ _).alloc (Nat.le_refl _) _⟩
  case round =>
    clear HO hmk
    obtain ⟨k, hk, rfl, HH, HB⟩ := hrel
    by_cases hlt : k < 11
    · have hdv := ln_row k hlt
      have hml : (2 : Int) * (k : Int) + 1 = ((2 * k + 1 : Nat) : Int) := by omega
      obtain ⟨m, hm⟩ : ∃ m : Int, ((2 * k + 1 : Nat) : Int) = m := ⟨_, rfl⟩
      rw [hm] at hdv hml
      clear hm
      obtain ⟨x, hx⟩ : ∃ x, lnL.getD k 0 = x := ⟨_, rfl⟩
      have HX : Hid (x = lnL.getD k 0) := hx.symm
      rw [hx] at hdv
      clear hx
      have hfo := floatOf_fi m
      have r1 := fun w => run_float_arith (P := Try.prog) w .quo 22 .f64 4607182418800017408 (fi m) x hdv
      clear hdv
      generalize fi m = y at hfo r1
      have hcz := HH.out.cell (i := k) hlt
      rw [if_neg (by omega)] at hcz
      have hfz := HH.out.frozen k
      have hst := store_f64 Try.prog wr ⟨w.heap.size, k, none⟩ x _ hcz hfz
      go_wp2_with fail
      go_roundw
      case rel => exact ⟨k + 1, by omega, by simp, halfF_step HH.out HX.out, HB.out.setCell (Nat.le_refl _) _⟩
      case measure => simp [intOf]; omega
    · obtain rfl : k = 11 := by omega
      have HS := hideS (halfF_src HH.out (by rfl))
      go_wp2_with fail
      go_ret
      exact ⟨rfl, HS.out, HB.out⟩
end Go.Proofs.Ytlbpekncaikabaa
