/- The contracts of expTerms and lnTerms: new rows of fixed floats. The contracts of whole and Pow where every product is exact; of Pow at 0 and 1. The contract of math.Floor, of numbers below 2^52. How far a sum and a product lie from what they are rounded from; Exp's rest is small. Sums and products against a grid; the rest that Exp's polynomial is asked at is at most a half. The contracts of logs and Exp, step by step. The steps of Exp between its bounds: each is a number, and the rest is at most a half. Exp between its bounds tells a float from +0 to +Inf. -/
import Derived.Test.YtnmjljijgmmakaaHaj
import Derived.Deep.OwnRows
import Derived.Test.YtnmjljijgmmakaaHag
import Derived.Test.YtnmjljijgmmakaaHah
namespace Go.Proofs.Ytnmjljijgmmakaa
open Go.RowKit

theorem floatOf_fi (m : Int) : floatOfInt .f64 m = fi m := by
  show Ieee.double.nearest (decide (m < 0)) m.natAbs 0 = _
  unfold fi joinN
  by_cases h0 : m = 0
  · subst h0; rfl
  · rw [if_neg h0, nearest_eq _ (by omega)]
    by_cases hn : m < 0
    · simp only [hn, decide_true, if_true]; rw [word_true]
    · simp only [hn, decide_false, if_false]; rw [word_false]
theorem store_f64 (P : Program) (w : World) (a : Addr) (x : Nat) (z : Value) (h : w.cell? a = some z) (hf : w.frozen? a = false) : (store a (.float .f64 x)).run P w = .ok () (w.setCell a (.float .f64 x)) := by
  rw [run_store P w a _ _ rfl, h]; simp [hf]
theorem info_f64 : (Try.prog.info? 38).map (fun i => (i.zero, i.size, i.bytes)) = some (some (.float .f64 0), 1, 8) := by kernel_rfl

def expL : List Nat := [4607182418800017408, 4607182418800017408, 4602678819172646912, 4595172819793696085, 4586165620538955093, 4575957461383581969, 4564047942368979991, 4551452160554016794, 4537941361671905306, 4523617214285662004, 4508805057796939612, 4493156764026750180, 4477122120089393304, 4460272573143870729]
def lnL : List Nat := [4607182418800017408, 4599676419421066581, 4596373779694328218, 4594314991293244562, 4592670820000712476, 4591215111030249286, 4590207312512236308, 4589468260265693457, 4588638185040256542, 4587745830934523688, 4587023449039406616]
/-- The product ahead of round k. -/
def facN : Nat → Nat
  | 0 => 1
  | k + 1 => facN k * max k 1
theorem exp_row : ∀ k, k < 14 → floatBits .quo .f64 4607182418800017408 (fi (facN (k + 1) : Int)) = some (expL.getD k 0) := by decide +kernel
theorem ln_row : ∀ k, k < 11 → floatBits .quo .f64 4607182418800017408 (fi ((2 * k + 1 : Nat) : Int)) = some (lnL.getD k 0) := by decide +kernel
theorem fac_bd : ∀ k, k < 15 → 1 ≤ facN k ∧ facN k ≤ 6227020800 := by decide +kernel

/-- A new row, filled up to j. -/
def HalfF (w : World) (b n : Nat) (l : List Nat) (j : Nat) : Prop := w.rowIs b 38 n (fun i => .float .f64 (if i < j then l.getD i 0 else 0))
theorem halfF_made (w : World) (n : Nat) (l : List Nat) : HalfF (w.alloc (.cells (madeCells #[.float .f64 0] n) 38)) w.heap.size n l 0 :=
  (World.rowIs_made w (.float .f64 0) n 38).congr (fun i _ => by rw [if_neg (by omega)])
theorem halfF_step {w : World} {b n j x : Nat} {l : List Nat} (h : HalfF w b n l j) (hx : x = l.getD j 0) : HalfF (w.setCell ⟨b, j, none⟩ (.float .f64 x)) b n l (j + 1) := by
  refine (h.set j (.float .f64 x)).congr fun i _ => ?_
  by_cases c : i = j
  · rw [if_pos c, if_pos (by omega), hx, c]
  · rw [if_neg c]
    by_cases d : i < j
    · rw [if_pos d, if_pos (by omega)]
    · rw [if_neg d, if_neg (by omega)]
theorem halfF_src {w : World} {b n : Nat} {l : List Nat} (h : HalfF w b n l n) (hn : l.length = n) : Src w (some ⟨b, 0, none⟩) b 0 l :=
  ⟨fun _ => rfl, fun _ => h.lt, fun j hj => by
    rw [Nat.zero_add]
    have := h.cell (i := j) (by omega)
    rw [if_pos (by omega)] at this; exact this⟩

set_option maxHeartbeats 800000 in
theorem expTerms_any (w : World) :
    Calls Try.prog 63 #[] w fun e w' => e = .returned (.slice (some ⟨w.heap.size, 0, none⟩) 14 14) ∧ Src w' (some ⟨w.heap.size, 0, none⟩) w.heap.size 0 expL ∧ Below w.heap.size w w' := by
  have hmk := fun w => run_make_row' (P := Try.prog) 23 38 (.float .f64 0) 8 Try.underlying23 info_f64 rfl .i64 .i64 14 (by omega) (by omega) w
  rw [show ((14 : Nat) : Int) = 14 from rfl] at hmk
  have HO := hideS (halfF_made w 14 expL)
  go_enter Try.func63, Try.ntmps63
  go_wp2_with fail
  go_loopw [2, 5] (fun s i wr => ∃ k f : Nat, k ≤ 14 ∧ i = .int .i64 k ∧ s = .int .i64 f ∧ Hid (f = facN k) ∧ Hid (HalfF wr w.heap.size 14 expL k) ∧ Hid (Below w.heap.size w wr)) (fun _ i _ => 14 - (intOf i).toNat)
  case atStart => exact ⟨0, 1, Nat.zero_le _, rfl, rfl, rfl, HO, (Below.refl _ _).alloc (Nat.le_refl _) _⟩
  case round =>
    clear HO hmk
    obtain ⟨k, f, hk, rfl, rfl, HF, HH, HB⟩ := hrel
    by_cases hlt : k < 14
    · have hb := fac_bd k (by omega)
      have hb2 := fac_bd (k + 1) (by omega)
      rw [← HF.out] at hb
      have hdv := exp_row k hlt
      obtain ⟨f', hf'⟩ : ∃ f', facN (k + 1) = f' := ⟨_, rfl⟩
      have HF' : Hid (f' = facN (k + 1)) := hf'.symm
      rw [hf'] at hdv hb2
      have hmx : max (k : Int) 1 = ((max k 1 : Nat) : Int) := by omega
      have hml : (f : Int) * ((max k 1 : Nat) : Int) = (f' : Int) := by rw [← hf']; show _ = ((facN k * max k 1 : Nat) : Int); rw [HF.out, Int.natCast_mul]
      clear hf' HF
      generalize ((max k 1 : Nat) : Int) = mx at hmx hml
      obtain ⟨x, hx⟩ : ∃ x, expL.getD k 0 = x := ⟨_, rfl⟩
      have HX : Hid (x = expL.getD k 0) := hx.symm
      rw [hx] at hdv
      clear hx
      have hfo := floatOf_fi (f' : Int)
      have r1 := fun w => run_float_arith (P := Try.prog) w .quo 38 .f64 4607182418800017408 (fi (f' : Int)) x hdv
      clear hdv
      generalize fi (f' : Int) = y at hfo r1
      have hcz := HH.out.cell (i := k) hlt
      rw [if_neg (by omega)] at hcz
      have hfz := HH.out.frozen k
      have hst := store_f64 Try.prog wr ⟨w.heap.size, k, none⟩ x _ hcz hfz
      go_wp2_with fail
      go_roundw
      case rel => exact ⟨k + 1, f', by omega, by simp, rfl, HF', halfF_step HH.out HX.out, HB.out.setCell (Nat.le_refl _) _⟩
      case measure => simp [intOf]; omega
    · obtain rfl : k = 14 := by omega
      have HS := hideS (halfF_src HH.out (by rfl))
      go_wp2_with fail
      go_ret
      exact ⟨rfl, HS.out, HB.out⟩

set_option maxHeartbeats 800000 in
theorem lnTerms_any (w : World) :
    Calls Try.prog 67 #[] w fun e w' => e = .returned (.slice (some ⟨w.heap.size, 0, none⟩) 11 11) ∧ Src w' (some ⟨w.heap.size, 0, none⟩) w.heap.size 0 lnL ∧ Below w.heap.size w w' := by
  have hmk := fun w => run_make_row' (P := Try.prog) 23 38 (.float .f64 0) 8 Try.underlying23 info_f64 rfl .i64 .i64 11 (by omega) (by omega) w
  rw [show ((11 : Nat) : Int) = 11 from rfl] at hmk
  have HO := hideS (halfF_made w 11 lnL)
  go_enter Try.func67, Try.ntmps67
  go_wp2_with fail
  go_loopw [4] (fun i wr => ∃ k : Nat, k ≤ 11 ∧ i = .int .i64 k ∧ Hid (HalfF wr w.heap.size 11 lnL k) ∧ Hid (Below w.heap.size w wr)) (fun i _ => 11 - (intOf i).toNat)
  case atStart => exact ⟨0, Nat.zero_le _, rfl, HO, (Below.refl _ _).alloc (Nat.le_refl _) _⟩
  case round =>
    clear HO hmk
    obtain ⟨k, hk, rfl, HH, HB⟩ := hrel
    by_cases hlt : k < 11
    · have hdv := ln_row k hlt
      have hml : (2 : Int) * (k : Int) + 1 = ((2 * k + 1 : Nat) : Int) := by omega
      obtain ⟨m, hm⟩ : ∃ m : Int, ((2 * k + 1 : Nat) : Int) = m := ⟨_, rfl⟩
      rw [hm] at hdv hml
      clear hm
      obtain ⟨x, hx⟩ : ∃ x, lnL.getD k 0 = x := ⟨_, rfl⟩
      have HX : Hid (x = lnL.getD k 0) := hx.symm
      rw [hx] at hdv
      clear hx
      have hfo := floatOf_fi m
      have r1 := fun w => run_float_arith (P := Try.prog) w .quo 38 .f64 4607182418800017408 (fi m) x hdv
      clear hdv
      generalize fi m = y at hfo r1
      have hcz := HH.out.cell (i := k) hlt
      rw [if_neg (by omega)] at hcz
      have hfz := HH.out.frozen k
      have hst := store_f64 Try.prog wr ⟨w.heap.size, k, none⟩ x _ hcz hfz
      go_wp2_with fail
      go_roundw
      case rel => exact ⟨k + 1, by omega, by simp, halfF_step HH.out HX.out, HB.out.setCell (Nat.le_refl _) _⟩
      case measure => simp [intOf]; omega
    · obtain rfl : k = 11 := by omega
      have HS := hideS (halfF_src HH.out (by rfl))
      go_wp2_with fail
      go_ret
      exact ⟨rfl, HS.out, HB.out⟩
end Go.Proofs.Ytnmjljijgmmakaa
namespace Go.Proofs.Ytnmjljijgmmakaa
open Go.RowKit

end Go.Proofs.Ytnmjljijgmmakaa
namespace Go.Proofs.Ytnmjljijgmmakaa
open Go.RowKit

theorem rank_small {b : Nat} (h : b < 9218868437227405312) : U64 (b : Int) ∧ nanB (b : Int) = false ∧ rankI (b : Int) = b := by
  have h1 : szI (b : Int) = b := by unfold szI; omega
  have h2 : nanB (b : Int) = false := by unfold nanB; rw [h1]; simp; omega
  have h3 : sgB (b : Int) = false := by simp [sgB]; omega
  exact ⟨by unfold U64; omega, h2, by rw [rank_pos h2 h3, h1]⟩
theorem cut_down (neg : Bool) (n drop : Nat) : Ieee.Toward.down.cut neg n drop = n / 2 ^ drop + (if neg = true ∧ n % 2 ^ drop ≠ 0 then 1 else 0) := by
  show n / (1 <<< min drop (n.log2 + 2)) + (neg && n % (1 <<< min drop (n.log2 + 2)) != 0).toNat = _
  rw [Nat.one_shiftLeft]
  have key : n / 2 ^ min drop (n.log2 + 2) = n / 2 ^ drop ∧ n % 2 ^ min drop (n.log2 + 2) = n % 2 ^ drop := by
    by_cases h : drop ≤ n.log2 + 2
    · rw [Nat.min_eq_left h]; exact ⟨rfl, rfl⟩
    · rw [Nat.min_eq_right (by omega)]
      have hl : n < 2 ^ (n.log2 + 1) := Nat.lt_log2_self
      have h1 : (2 : Nat) ^ (n.log2 + 1) ≤ 2 ^ (n.log2 + 2) := Nat.pow_le_pow_right (by decide) (by omega)
      have h2 : (2 : Nat) ^ (n.log2 + 2) ≤ 2 ^ drop := Nat.pow_le_pow_right (by decide) (by omega)
      rw [Nat.div_eq_of_lt (by omega), Nat.div_eq_of_lt (by omega), Nat.mod_eq_of_lt (by omega), Nat.mod_eq_of_lt (by omega)]
      exact ⟨rfl, rfl⟩
  rw [key.1, key.2]
  congr 1
  cases neg
  · rfl
  · by_cases h0 : n % 2 ^ drop = 0
    · rw [h0]; rfl
    · rw [if_pos ⟨rfl, h0⟩]; simp [h0]
theorem cut_scale (m p K : Nat) : (m <<< (-(K : Int) + (p : Int)).toNat) / 2 ^ (-(-(K : Int) + (p : Int))).toNat = m * 2 ^ p / 2 ^ K ∧ ((m <<< (-(K : Int) + (p : Int)).toNat) % 2 ^ (-(-(K : Int) + (p : Int))).toNat = 0 ↔ m * 2 ^ p % 2 ^ K = 0) := by
  rw [Nat.shiftLeft_eq]
  by_cases h : p ≤ K
  · have e1 : (-(K : Int) + (p : Int)).toNat = 0 := by omega
    have e2 : (-(-(K : Int) + (p : Int))).toNat = K - p := by omega
    have e3 : (2 : Nat) ^ K = 2 ^ (K - p) * 2 ^ p := by rw [← Nat.pow_add, show K - p + p = K by omega]
    have hp := Nat.two_pow_pos p
    rw [e1, e2, e3, Nat.pow_zero, Nat.mul_one, Nat.mul_div_mul_right _ _ hp, Nat.mul_mod_mul_right]
    refine ⟨rfl, ?_⟩
    constructor
    · intro h; rw [h, Nat.zero_mul]
    · intro h; rcases Nat.mul_eq_zero.1 h with h | h
      · exact h
      · omega
  · have e1 : (-(K : Int) + (p : Int)).toNat = p - K := by omega
    have e2 : (-(-(K : Int) + (p : Int))).toNat = 0 := by omega
    have e3 : (2 : Nat) ^ p = 2 ^ (p - K) * 2 ^ K := by rw [← Nat.pow_add, show p - K + K = p by omega]
    have hp := Nat.two_pow_pos K
    rw [e1, e2, e3, Nat.pow_zero, Nat.div_one, Nat.mod_one, ← Nat.mul_assoc, Nat.mul_div_cancel _ hp, Nat.mul_mod_left]
    exact ⟨rfl, Iff.rfl⟩
/-- The greatest whole number that is not above. -/
theorem floor_word {b K : Nat} (hK : K = 1074) (h : NumB b) (hz : b % 9223372036854775808 ≠ 0 ∨ sB b = false) :
    ∃ k : Int, Ieee.double.write ((Ieee.double.read b).integral .down) = fi k ∧ k * ((2 ^ K : Nat) : Int) ≤ vI b ∧ vI b < (k + 1) * ((2 ^ K : Nat) : Int) := by
  rw [read_num h]
  have hv := vI_eq b
  have hs : (b / 9223372036854775808 % 2 == 1) = sB b := rfl
  have hm0 : b % 9223372036854775808 ≠ 0 → mg (b % 9223372036854775808) ≠ 0 := fun h => by unfold mg; split <;> omega
  rw [hs] at hv ⊢
  generalize b % 9223372036854775808 = r at *
  generalize hm : mg r = m at *
  generalize pl r = p at *
  have hP := Nat.two_pow_pos K
  have hp2 := Nat.two_pow_pos p
  obtain ⟨c1, c2⟩ := cut_scale m p K
  have key : ∀ s, Ieee.double.write ((Ieee.Datum.number s m (-1074 + (p : Int))).integral .down) = Ieee.double.nearest s (m * 2 ^ p / 2 ^ K + (if s = true ∧ m * 2 ^ p % 2 ^ K ≠ 0 then 1 else 0)) 0 := fun s => by
    show Ieee.double.nearest s (Ieee.Toward.down.cut s (m <<< (-1074 + (p : Int)).toNat) (-(-1074 + (p : Int))).toNat) 0 = _
    have e : (-1074 + (p : Int)) = -(K : Int) + (p : Int) := by omega
    rw [cut_down, e, c1]
    congr 2
    simp only [ne_eq, c2]
  rw [key]
  obtain ⟨A, hA⟩ : ∃ A, m * 2 ^ p = A := ⟨_, rfl⟩
  obtain ⟨P, hPP⟩ : ∃ P, 2 ^ K = P := ⟨_, rfl⟩
  rw [hA] at hv ⊢
  rw [hPP] at hP ⊢
  have hd := Nat.div_add_mod A P
  have hlt := Nat.mod_lt A hP
  generalize A / P = q at *
  generalize A % P = t at *
  clear key c1 c2
  cases hsb : sB b with
  | false =>
    rw [hsb] at hv
    refine ⟨(q : Nat), ?_, ?_, ?_⟩
    · rw [if_neg (by simp), Nat.add_zero]
      unfold fi joinN
      by_cases h0 : q = 0
      · rw [h0, nearest_zero]; rfl
      · rw [nearest_eq _ h0, word_false, if_neg (by omega), if_neg (by omega), Int.natAbs_natCast]
    · rw [hv]; show ((q : Nat) : Int) * (P : Int) ≤ (A : Int)
      rw [← Int.natCast_mul, Nat.mul_comm]; omega
    · rw [hv]; show (A : Int) < (((q : Nat) : Int) + 1) * (P : Int)
      rw [Int.add_mul, ← Int.natCast_mul, Nat.mul_comm]; omega
  | true =>
    rw [hsb] at hv
    have hr0 : r ≠ 0 := by
      rcases hz with h | h
      · exact h
      · rw [hsb] at h; cases h
    have hA0 : A ≠ 0 := by rw [← hA]; exact Nat.mul_ne_zero (hm0 hr0) (by omega)
    by_cases hr : t = 0
    · refine ⟨-((q : Nat) : Int), ?_, ?_, ?_⟩
      · rw [if_neg (by simp [hr]), Nat.add_zero]
        have h0 : q ≠ 0 := by
          intro h0; rw [h0, Nat.mul_zero] at hd; omega
        unfold fi joinN
        rw [nearest_eq _ h0, word_true, if_neg (by omega), if_pos (by omega), Int.natAbs_neg, Int.natAbs_natCast]
      · rw [hv]; show -((q : Nat) : Int) * (P : Int) ≤ -(A : Int)
        rw [Int.neg_mul, ← Int.natCast_mul, Nat.mul_comm]; omega
      · rw [hv]; show -(A : Int) < (-((q : Nat) : Int) + 1) * (P : Int)
        rw [Int.add_mul, Int.neg_mul, ← Int.natCast_mul, Nat.mul_comm]; omega
    · refine ⟨-((q + 1 : Nat) : Int), ?_, ?_, ?_⟩
      · rw [if_pos ⟨rfl, hr⟩]
        unfold fi joinN
        rw [nearest_eq _ (by omega), word_true, if_neg (by omega), if_pos (by omega), Int.natAbs_neg, Int.natAbs_natCast]
      · rw [hv]; show -((q + 1 : Nat) : Int) * (P : Int) ≤ -(A : Int)
        rw [Int.neg_mul, ← Int.natCast_mul, Nat.add_mul, Nat.mul_comm (q)]; omega
      · rw [hv]; show -(A : Int) < (-((q + 1 : Nat) : Int) + 1) * (P : Int)
        rw [Int.add_mul, Int.neg_mul, ← Int.natCast_mul, Nat.add_mul, Nat.mul_comm (q)]; omega

theorem toIntegral_num (b : Nat) (s : Bool) (m : Nat) (i : Int) (hd : FloatKind.f64.decode b = .number s m i) : Extern.MathFloor.toIntegral "math.archFloor" .down #[.float .f64 b] = pure (.float .f64 (FloatKind.f64.encode ((Ieee.Datum.number s m i).integral .down))) := by
  conv => lhs; whnf
  rw [hd]
theorem call_archFloor (b : Nat) (h : NumB b) (w : World) : (callFunc 79 #[.float .f64 b]).run Try.prog w = .ok (.value (.float .f64 (Ieee.double.write ((Ieee.double.read b).integral .down)))) w := by
  refine (run_callFunc_extern (e := Extern.MathFloor.toIntegral "math.archFloor" .down) Try.func79 (by kernel_rfl) (by kernel_rfl) (by kernel_rfl) (by kernel_rfl) _ w).trans ?_
  have e : FloatKind.f64.decode b = _ := read_num h
  rw [toIntegral_num b _ _ _ e, read_num h]
  rfl

set_option maxHeartbeats 800000 in
theorem floor_at (b f : Nat) (w : World) (h : NumB b) (hf : Ieee.double.write ((Ieee.double.read b).integral .down) = f) :
    Calls Try.prog 60 #[.float .f64 b] w fun e w' => e = .returned (.float .f64 f) ∧ w' = w := by
  have h1 := call_archFloor b h
  rw [hf] at h1
  clear hf h
  go_enter Try.func60, Try.ntmps60
  go_wp2
  go_ret
  exact ⟨rfl, rfl⟩
end Go.Proofs.Ytnmjljijgmmakaa
namespace Go.Proofs.Ytnmjljijgmmakaa

theorem vI_wrd {s : Bool} {r : Nat} (h : r < 9218868437227405312) : vI (wrd s r) = sgZ s (V r) ∧ NumB (wrd s r) ∧ wrd s r < 18446744073709551616 ∧ sB (wrd s r) = s := by
  cases s
  · have e : wrd false r = r := rfl
    rw [e]
    refine ⟨?_, ?_, by omega, ?_⟩
    · rw [vI_sgZ]
      unfold sB aV
      rw [show r / 9223372036854775808 % 2 = 0 by omega, show r % 9223372036854775808 = r by omega]; rfl
    · unfold NumB; omega
    · unfold sB; rw [show r / 9223372036854775808 % 2 = 0 by omega]; rfl
  · have e : wrd true r = 9223372036854775808 + r := rfl
    rw [e]
    refine ⟨?_, ?_, by omega, ?_⟩
    · rw [vI_sgZ]
      unfold sB aV
      rw [show (9223372036854775808 + r) / 9223372036854775808 % 2 = 1 by omega, show (9223372036854775808 + r) % 9223372036854775808 = r by omega]; rfl
    · unfold NumB; omega
    · unfold sB; rw [show (9223372036854775808 + r) / 9223372036854775808 % 2 = 1 by omega]; rfl
theorem joinN_wrd {T e : Int} (h : T ≠ 0) : joinN T e = wrd (decide (T < 0)) (nearR T.natAbs e) := by
  unfold joinN wrd
  rw [if_neg h]
  by_cases hn : T < 0
  · rw [if_pos hn, if_pos (by simpa using hn)]
  · rw [if_neg hn, if_neg (by simpa using hn)]
theorem sgZ_rI {k : Nat} {T : Int} : sgZ (decide (T < 0)) (V (nearR T.natAbs (-1074 - (k : Int)))) = rI k T := by
  unfold sgZ rI
  by_cases hn : T < 0
  · rw [if_pos (by simpa using hn), if_pos hn]
  · rw [if_neg (by simpa using hn), if_neg hn]
theorem rI_zero (k : Nat) : rI k 0 = 0 := by
  unfold rI
  rw [if_neg (by decide), Int.natAbs_zero, nearR_zero (by omega), V_zero]; rfl
/-- A sum's worth. -/
theorem add_worth {x y : Nat} (hx : NumB x) (hy : NumB y) (hf : FinR 0 (vI x + vI y)) : ∃ z, floatBits .add .f64 x y = some z ∧ NumB z ∧ z < 18446744073709551616 ∧ vI z = rI 0 (vI x + vI y) := by
  refine ⟨_, add_num hx hy, ?_⟩
  unfold addR
  generalize vI x + vI y = T at *
  by_cases h0 : T = 0
  · rw [if_pos h0, h0, rI_zero]
    split
    · exact ⟨by unfold NumB; decide, by decide, by decide⟩
    · exact ⟨by unfold NumB; decide, by decide, by decide⟩
  · rw [if_neg h0, joinN_wrd h0]
    have hf' : nearR T.natAbs (-1074) < 9218868437227405312 := hf
    obtain ⟨a, b, c, _⟩ := vI_wrd (s := decide (T < 0)) hf'
    refine ⟨b, c, ?_⟩
    rw [a]
    exact sgZ_rI (k := 0)
theorem sub_worth {x y : Nat} (hx : NumB x) (hy : NumB y) (hf : FinR 0 (vI x - vI y)) : ∃ z, floatBits .sub .f64 x y = some z ∧ NumB z ∧ z < 18446744073709551616 ∧ vI z = rI 0 (vI x - vI y) := by
  refine ⟨_, sub_num hx hy, ?_⟩
  unfold addR
  generalize vI x - vI y = T at *
  by_cases h0 : T = 0
  · rw [if_pos h0, h0, rI_zero]
    split
    · exact ⟨by unfold NumB; decide, by decide, by decide⟩
    · exact ⟨by unfold NumB; decide, by decide, by decide⟩
  · rw [if_neg h0, joinN_wrd h0]
    have hf' : nearR T.natAbs (-1074) < 9218868437227405312 := hf
    obtain ⟨a, b, c, _⟩ := vI_wrd (s := decide (T < 0)) hf'
    refine ⟨b, c, ?_⟩
    rw [a]
    exact sgZ_rI (k := 0)
theorem natAbs_vI (x : Nat) : (vI x).natAbs = aV x := by rw [vI_sgZ]; unfold sgZ; cases sB x <;> simp
theorem vI_neg_iff {x : Nat} (h : vI x ≠ 0) : decide (vI x < 0) = sB x := by
  rw [vI_sgZ] at h ⊢
  unfold sgZ at *
  cases sB x
  · simp
  · simp only [if_true] at *; simp; omega
theorem sign_mul {a b : Int} (ha : a ≠ 0) (hb : b ≠ 0) : (decide (a < 0) ^^ decide (b < 0)) = decide (a * b < 0) := by
  rcases Int.lt_or_lt_of_ne ha with pa | pa <;> rcases Int.lt_or_lt_of_ne hb with pb | pb
  · have := Int.mul_pos_of_neg_of_neg pa pb; simp [pa, pb]; omega
  · have := Int.mul_neg_of_neg_of_pos pa pb; simp [pa, this]; omega
  · have := Int.mul_neg_of_pos_of_neg pa pb; simp [pb, this]; omega
  · have := Int.mul_pos pa pb
    rw [decide_eq_false (show ¬ a < 0 by omega), decide_eq_false (show ¬ b < 0 by omega), decide_eq_false (show ¬ a * b < 0 by omega)]; rfl
theorem mul_worth {x y K : Nat} (hK : K = 1074) (hx : NumB x) (hy : NumB y) (hf : FinR K (vI x * vI y)) : ∃ z, floatBits .mul .f64 x y = some z ∧ NumB z ∧ z < 18446744073709551616 ∧ vI z = rI K (vI x * vI y) := by
  refine ⟨_, mul_num hx hy, ?_⟩
  unfold mulR
  rw [← natAbs_vI, ← natAbs_vI, ← Int.natAbs_mul]
  by_cases h0 : vI x * vI y = 0
  · rw [h0, Int.natAbs_zero, if_pos rfl, rI_zero]
    obtain ⟨a, b, c, _⟩ := vI_wrd (s := sB x ^^ sB y) (r := 0) (by decide)
    refine ⟨b, c, ?_⟩
    rw [a, V_zero]; unfold sgZ; split <;> rfl
  · have hx0 : vI x ≠ 0 := fun h => h0 (by rw [h, Int.zero_mul])
    have hy0 : vI y ≠ 0 := fun h => h0 (by rw [h, Int.mul_zero])
    rw [if_neg (by omega), ← vI_neg_iff hx0, ← vI_neg_iff hy0, sign_mul hx0 hy0]
    unfold FinR at hf
    rw [show (-1074 - (K : Int)) = -2148 by omega] at hf
    obtain ⟨a, b, c, _⟩ := vI_wrd (s := decide (vI x * vI y < 0)) hf
    refine ⟨b, c, ?_⟩
    rw [a]
    have := sgZ_rI (k := K) (T := vI x * vI y)
    rw [show (-1074 - (K : Int)) = -2148 by omega] at this
    exact this
end Go.Proofs.Ytnmjljijgmmakaa
namespace Go.Proofs.Ytnmjljijgmmakaa

theorem mg_pl_at {q k : Nat} (hk1 : 4503599627370496 ≤ k) (hk2 : k < 9007199254740992) : mg (q * 4503599627370496 + k) = k ∧ pl (q * 4503599627370496 + k) = q := by
  unfold mg pl
  rw [if_neg (by omega)]
  omega
theorem rep_dyad {m E : Nat} (h : m < 9007199254740992) (hE : 52 ≤ E) (hE2 : E ≤ 1900) : Rep ((m * 2 ^ E : Nat) : Int) := by
  by_cases h0 : m = 0
  · subst h0; rw [Nat.zero_mul]; exact rep_zero
  have a := Nat.log2_self_le h0
  have b : m < 2 ^ (m.log2 + 1) := Nat.lt_log2_self
  have hl : m.log2 < 53 := (Nat.log2_lt h0).2 (by omega)
  generalize m.log2 = l at a b hl
  obtain ⟨k, hk⟩ : ∃ k, m * 2 ^ (52 - l) = k := ⟨_, rfl⟩
  have hk1 : 4503599627370496 ≤ k := by
    have := Nat.mul_le_mul_right (2 ^ (52 - l)) a
    rw [← Nat.pow_add, show l + (52 - l) = 52 by omega, hk] at this; exact this
  have hk2 : k < 9007199254740992 := by
    have := Nat.mul_lt_mul_of_pos_right b (Nat.two_pow_pos (52 - l))
    rw [← Nat.pow_add, show l + 1 + (52 - l) = 53 by omega, hk] at this; exact this
  obtain ⟨h1, h2⟩ := mg_pl_at (q := E + l - 52) hk1 hk2
  refine ⟨(E + l - 52) * 4503599627370496 + k, by omega, ?_⟩
  unfold V
  rw [h1, h2, Int.natAbs_natCast, ← hk, Nat.mul_assoc, ← Nat.pow_add, show 52 - l + (E + l - 52) = E by omega]
theorem rep_grid {j : Int} {E : Nat} (h1 : -9007199254740992 < j) (h2 : j < 9007199254740992) (hE : 52 ≤ E) (hE2 : E ≤ 1900) : Rep (j * ((2 ^ E : Nat) : Int)) := by
  obtain ⟨r, hr, e⟩ := rep_dyad (m := j.natAbs) (E := E) (by omega) hE hE2
  refine ⟨r, hr, ?_⟩
  rw [Int.natAbs_natCast] at e
  rw [natAbs_mul_pow]; exact e
/-- Rounded to a number within a step of the grid. -/
theorem near_grid {k E : Nat} {T : Int} (hE : 52 ≤ E) (hE2 : E ≤ 1900) {G P : Int} (hG : G = ((2 ^ E : Nat) : Int)) (hP : P = ((2 ^ k : Nat) : Int)) (h1 : -(2097152 * (G * P)) ≤ T) (h2 : T ≤ 2097152 * (G * P)) :
    FinR k T ∧ -(G * P) ≤ rI k T * P - T ∧ rI k T * P - T ≤ G * P := by
  have hGp : 0 < G := by rw [hG]; have := Nat.two_pow_pos E; omega
  have hPp : 0 < P := by rw [hP]; have := Nat.two_pow_pos k; omega
  have hGP : 0 < G * P := Int.mul_pos hGp hPp
  obtain ⟨j, hj⟩ : ∃ j, T / (G * P) = j := ⟨_, rfl⟩
  have e1 : j * (G * P) ≤ T := by rw [← hj]; exact Int.ediv_mul_le T (by omega)
  have e2 : T < (j + 1) * (G * P) := by rw [← hj]; exact Int.lt_ediv_add_one_mul_self T hGP
  have j1 : -2097152 ≤ j := by
    rw [← hj]
    refine (Int.le_ediv_iff_mul_le hGP).2 ?_
    rw [Int.neg_mul]; exact h1
  have j2 : j ≤ 2097152 := by
    by_cases h : 2097152 < j
    · have := Int.mul_lt_mul_of_pos_right h hGP
      omega
    · omega
  have rA : Rep (j * G) := by rw [hG]; exact rep_grid (by omega) (by omega) hE hE2
  have rB : Rep ((j + 1) * G) := by rw [hG]; exact rep_grid (by omega) (by omega) hE hE2
  have f1 : j * G * ((2 ^ k : Nat) : Int) ≤ T := by rw [← hP, Int.mul_assoc]; exact e1
  have f2 : T ≤ (j + 1) * G * ((2 ^ k : Nat) : Int) := by rw [← hP, Int.mul_assoc]; omega
  have a1 := round_ge rA f1
  have a2 := round_le rB f2
  have b1 := Int.mul_le_mul_of_nonneg_right a1 (show 0 ≤ P by omega)
  have b2 := Int.mul_le_mul_of_nonneg_right a2 (show 0 ≤ P by omega)
  rw [Int.mul_assoc] at b1 b2
  have e3 : (j + 1) * (G * P) = j * (G * P) + G * P := by rw [Int.add_mul, Int.one_mul]
  rw [e3] at e2 b2
  exact ⟨fin_of rA rB f1 f2, by omega, by omega⟩

/-- Powers of 2 as letters: the unit is 2^100 g. -/
structure Scale (K : Nat) (g : Int) : Prop where
  k : K = 1074
  pos : 0 < g
  unit : ((2 ^ K : Nat) : Int) = 1267650600228229401496703205376 * g
  grid : ((2 ^ 1064 : Nat) : Int) = 1237940039285380274899124224 * g
  at_ : ∀ q p : Nat, q + 974 = p → ((2 ^ p : Nat) : Int) = ((2 ^ q : Nat) : Int) * g
theorem pow_split {a b c : Nat} (h : a + b = c) : ((2 ^ c : Nat) : Int) = ((2 ^ a : Nat) : Int) * ((2 ^ b : Nat) : Int) := by
  subst h; rw [Nat.pow_add, Int.natCast_mul]
theorem scale : ∃ K g, Scale K g := by
  obtain ⟨e, he⟩ : ∃ e, e = 974 := ⟨_, rfl⟩
  obtain ⟨K, hK⟩ : ∃ K, K = 1074 := ⟨_, rfl⟩
  obtain ⟨L, hL⟩ : ∃ L, L = 1064 := ⟨_, rfl⟩
  refine ⟨K, ((2 ^ e : Nat) : Int), hK, by have := Nat.two_pow_pos e; omega, ?_, ?_, fun q p h => pow_split (by omega)⟩
  · rw [pow_split (a := 100) (b := e) (c := K) (by omega)]; rfl
  · rw [← hL, pow_split (a := 90) (b := e) (c := L) (by omega)]; rfl

theorem add_near {K : Nat} {g : Int} (hs : Scale K g) {x y : Nat} (hx : NumB x) (hy : NumB y) (h1 : -(2596148429267413814265248164610048 * g) ≤ vI x + vI y) (h2 : vI x + vI y ≤ 2596148429267413814265248164610048 * g) :
    ∃ z, floatBits .add .f64 x y = some z ∧ NumB z ∧ z < 18446744073709551616 ∧ -(1237940039285380274899124224 * g) ≤ vI z - (vI x + vI y) ∧ vI z - (vI x + vI y) ≤ 1237940039285380274899124224 * g := by
  obtain ⟨E, hE⟩ : ∃ E, E = 1064 := ⟨_, rfl⟩
  have hg := hs.grid
  rw [← hE] at hg
  obtain ⟨f, a, b⟩ := near_grid (k := 0) (E := E) (T := vI x + vI y) (by omega) (by omega) (P := 1) rfl rfl (by rw [hg]; omega) (by rw [hg]; omega)
  obtain ⟨z, z1, z2, z3, z4⟩ := add_worth hx hy f
  rw [hg] at a b
  rw [← z4] at a b
  exact ⟨z, z1, z2, z3, by omega, by omega⟩
theorem sub_near {K : Nat} {g : Int} (hs : Scale K g) {x y : Nat} (hx : NumB x) (hy : NumB y) (h1 : -(2596148429267413814265248164610048 * g) ≤ vI x - vI y) (h2 : vI x - vI y ≤ 2596148429267413814265248164610048 * g) :
    ∃ z, floatBits .sub .f64 x y = some z ∧ NumB z ∧ z < 18446744073709551616 ∧ -(1237940039285380274899124224 * g) ≤ vI z - (vI x - vI y) ∧ vI z - (vI x - vI y) ≤ 1237940039285380274899124224 * g := by
  obtain ⟨E, hE⟩ : ∃ E, E = 1064 := ⟨_, rfl⟩
  have hg := hs.grid
  rw [← hE] at hg
  obtain ⟨f, a, b⟩ := near_grid (k := 0) (E := E) (T := vI x - vI y) (by omega) (by omega) (P := 1) rfl rfl (by rw [hg]; omega) (by rw [hg]; omega)
  obtain ⟨z, z1, z2, z3, z4⟩ := sub_worth hx hy f
  rw [hg] at a b
  rw [← z4] at a b
  exact ⟨z, z1, z2, z3, by omega, by omega⟩
/-- A product with a constant of worth c g. -/
theorem mul_near {K : Nat} {g : Int} (hs : Scale K g) {x y : Nat} {c : Int} (hx : NumB x) (hy : NumB y) (hc : vI y = c * g) (h1 : -(3291009114642412084309938365114701009965471731267159726697218048 * g) ≤ c * vI x) (h2 : c * vI x ≤ 3291009114642412084309938365114701009965471731267159726697218048 * g) :
    ∃ z, floatBits .mul .f64 x y = some z ∧ NumB z ∧ z < 18446744073709551616 ∧ -(1569275433846670190958947355801916604025588861116008628224 * g) ≤ 1267650600228229401496703205376 * vI z - c * vI x ∧ 1267650600228229401496703205376 * vI z - c * vI x ≤ 1569275433846670190958947355801916604025588861116008628224 * g := by
  obtain ⟨E, hE⟩ : ∃ E, E = 1064 := ⟨_, rfl⟩
  have hg := hs.grid
  rw [← hE] at hg
  have hgp := hs.pos
  have eT : vI x * vI y = (c * vI x) * g := by rw [hc, ← Int.mul_assoc, Int.mul_comm (vI x) c]
  have eGP : ((2 ^ E : Nat) : Int) * ((2 ^ K : Nat) : Int) = (1569275433846670190958947355801916604025588861116008628224 * g) * g := by
    rw [hg, hs.unit, ← Int.mul_assoc, show (1237940039285380274899124224 * g * 1267650600228229401496703205376 : Int) = 1569275433846670190958947355801916604025588861116008628224 * g by omega]
  have b1 := Int.mul_le_mul_of_nonneg_right h1 (show 0 ≤ g by omega)
  have b2 := Int.mul_le_mul_of_nonneg_right h2 (show 0 ≤ g by omega)
  have e3 : (2097152 : Int) * (1569275433846670190958947355801916604025588861116008628224 * g * g) = 3291009114642412084309938365114701009965471731267159726697218048 * g * g := by rw [← Int.mul_assoc, ← Int.mul_assoc]; rfl
  rw [Int.neg_mul] at b1
  obtain ⟨f, a, b⟩ := near_grid (k := K) (E := E) (T := vI x * vI y) (by omega) (by omega) rfl rfl (by rw [eGP, e3, eT]; exact b1) (by rw [eGP, e3, eT]; exact b2)
  obtain ⟨z, z1, z2, z3, z4⟩ := mul_worth hs.k hx hy f
  rw [eGP, eT, ← eT, ← z4, eT, hs.unit, ← Int.mul_assoc, Int.mul_comm (vI z), ← Int.sub_mul] at a b
  refine ⟨z, z1, z2, z3, ?_, ?_⟩
  · rw [← Int.neg_mul] at a
    exact Int.le_of_mul_le_mul_right a hgp
  · exact Int.le_of_mul_le_mul_right b hgp
end Go.Proofs.Ytnmjljijgmmakaa
namespace Go.Proofs.Ytnmjljijgmmakaa
open Go.RowKit

set_option maxHeartbeats 400000 in
theorem isNaN_math (b : Nat) (w : World) (h : U64 b) :
    Calls Try.prog 38 #[.float .f64 b] w fun e w' => e = .returned (.bool (nanB b)) ∧ w' = w := by
  have h1 : (FloatKind.f64.format.order b b != some .eq) = nanB b := by rw [bne, eq_self h, Bool.not_not]
  clear h
  go_enter Try.func38, Try.ntmps38
  go_wp2
  go_ret
  exact ⟨rfl, rfl⟩

set_option maxHeartbeats 400000 in
theorem logs_at (k h l : Nat) (w : World) (h1 : floatBits .mul .f64 k 4604418534311723008 = some h) (h2 : floatBits .mul .f64 k 4461442080421002358 = some l) :
    Calls Try.prog 61 #[.float .f64 k] w fun e w' => e = .returned (.tuple #[.float .f64 h, .float .f64 l]) ∧ w' = w := by
  have r1 := fun w => run_float_arith (P := Try.prog) w .mul 38 .f64 _ _ _ h1
  have r2 := fun w => run_float_arith (P := Try.prog) w .mul 38 .f64 _ _ _ h2
  clear h1 h2
  go_enter Try.func61, Try.ntmps61
  go_wp2
  go_ret2
  exact ⟨rfl, rfl⟩

set_option maxHeartbeats 400000 in
theorem inf_pos (w : World) :
    Calls Try.prog 59 #[.int .i64 1] w fun e w' => e = .returned (.float .f64 9218868437227405312) ∧ w' = w := by
  have h2 := call_frombits
  go_enter Try.func59, Try.ntmps59
  go_wp2
  go_ret
  exact ⟨rfl, rfl⟩

set_option maxHeartbeats 400000 in
theorem exp_nan (x : Nat) (w : World) (h : U64 x) (hn : nanB x = true) :
    Calls Try.prog 46 #[.float .f64 x] w fun e w' => e = .returned (.float .f64 x) ∧ w' = w := by
  have H := hideS (isNaN_math x w h)
  rw [hn] at H
  clear h hn
  go_enter Try.func46, Try.ntmps46
  go_wp2_with fail
  refine H.out.mono ?_
  rintro e w' ⟨rfl, rfl⟩
  go_wp2_with fail
  go_ret
  exact ⟨rfl, rfl⟩

theorem compare_gt_iff (x y : Int) : (compare x y == .gt) = decide (y < x) := by
  show (compareOfLessAndEq x y == .gt) = _
  unfold compareOfLessAndEq
  by_cases a : x < y
  · have : ¬ y < x := by omega
    simp [a, this]
  · by_cases b : x = y
    · simp [b]
    · have : y < x := by omega
      simp [a, b, this]
theorem gt_rank {a b : Nat} (ha : U64 a) (hb : U64 b) (hna : nanB a = false) (hnb : nanB b = false) : (FloatKind.f64.format.order a b == some .gt) = decide (rankI b < rankI a) := by
  rw [order_rank (by have := ha.2; omega) (by have := hb.2; omega) hna hnb, ← compare_gt_iff]; rfl

set_option maxHeartbeats 400000 in
theorem exp_hi (x : Nat) (g e : Bool) (w : World) (h : U64 x) (hn : nanB x = false) (hg : (FloatKind.f64.format.order x 4649456441864749056 == some .gt) = g) (he : (FloatKind.f64.format.order x 4649456441864749056 == some .eq) = e) (hge : (g || e) = true) :
    Calls Try.prog 46 #[.float .f64 x] w fun e w' => e = .returned (.float .f64 9218868437227405312) ∧ w' = w := by
  have H := hideS (isNaN_math x w h)
  rw [hn] at H
  clear h hn
  cases g <;> cases e <;> first | (cases hge; done) | skip
  all_goals
    clear hge
    go_enter Try.func46, Try.ntmps46
    go_wp2_with fail
    refine H.out.mono ?_
    rintro e w' ⟨rfl, rfl⟩
    go_wp2_with fail
    refine (inf_pos _).mono ?_
    rintro e w' ⟨rfl, rfl⟩
    go_wp2_with fail
    go_ret
    exact ⟨rfl, rfl⟩

set_option maxHeartbeats 400000 in
theorem exp_lo (x : Nat) (g e : Bool) (w : World) (h : U64 x) (hn : nanB x = false) (hg1 : (FloatKind.f64.format.order x 4649456441864749056 == some .gt) = false) (he1 : (FloatKind.f64.format.order x 4649456441864749056 == some .eq) = false)
    (hg : (FloatKind.f64.format.order x 13873145138068324352 == some .lt) = g) (he : (FloatKind.f64.format.order x 13873145138068324352 == some .eq) = e) (hge : (g || e) = true) :
    Calls Try.prog 46 #[.float .f64 x] w fun e w' => e = .returned (.float .f64 0) ∧ w' = w := by
  have H := hideS (isNaN_math x w h)
  rw [hn] at H
  clear h hn
  cases g <;> cases e <;> first | (cases hge; done) | skip
  all_goals
    clear hge
    go_enter Try.func46, Try.ntmps46
    go_wp2_with fail
    refine H.out.mono ?_
    rintro e w' ⟨rfl, rfl⟩
    go_wp2_with fail
    go_ret
    exact ⟨rfl, rfl⟩

set_option maxRecDepth 20000 in
set_option maxHeartbeats 1600000 in
theorem exp_mid (x y t f hi lo d r p : Nat) (k : Int) (w : World) (h : U64 x) (hn : nanB x = false) (hg1 : (FloatKind.f64.format.order x 4649456441864749056 == some .gt) = false) (he1 : (FloatKind.f64.format.order x 4649456441864749056 == some .eq) = false)
    (hg2 : (FloatKind.f64.format.order x 13873145138068324352 == some .lt) = false) (he2 : (FloatKind.f64.format.order x 13873145138068324352 == some .eq) = false)
    (q1 : floatBits .mul .f64 x 4609176140021203710 = some y) (q2 : floatBits .add .f64 y 4602678819172646912 = some t) (hf : Hid (∀ w, Calls Try.prog 60 #[.float .f64 t] w fun e w' => e = .returned (.float .f64 f) ∧ w' = w))
    (q3 : floatBits .mul .f64 f 4604418534311723008 = some hi) (q4 : floatBits .mul .f64 f 4461442080421002358 = some lo) (q5 : floatBits .sub .f64 x hi = some d) (q6 : floatBits .sub .f64 d lo = some r)
    (q7 : Hid (hornO expL r = some p)) (up : Hid (U64 p)) (q8 : floatToIntVal .f64 f .i64 = some k) (hk : -2000 ≤ k ∧ k ≤ 2000) (hsp : -2000 ≤ splE p ∧ splE p ≤ 2000) (hsm : -9223372036854775808 ≤ splM p ∧ splM p ≤ 9223372036854775807) :
    Calls Try.prog 46 #[.float .f64 x] w fun e w' => e = .returned (.float .f64 (joinN (splM p) (splE p + k))) ∧ Below w.heap.size w w' := by
  have H := hideS (isNaN_math x w h)
  rw [hn] at H
  have r1 := fun w => run_float_arith (P := Try.prog) w .mul 38 .f64 _ _ _ q1
  have r2 := fun w => run_float_arith (P := Try.prog) w .add 38 .f64 _ _ _ q2
  have r5 := fun w => run_float_arith (P := Try.prog) w .sub 38 .f64 _ _ _ q5
  have r6 := fun w => run_float_arith (P := Try.prog) w .sub 38 .f64 _ _ _ q6
  have r8 := fun w => run_convert_float_int (P := Try.prog) w 38 3 .f64 .i64 f k (by kernel_rfl) Try.underlying3 q8
  have HL : Hid (∀ w, Calls Try.prog 61 #[.float .f64 f] w fun e w' => e = .returned (.tuple #[.float .f64 hi, .float .f64 lo]) ∧ w' = w) := fun w => logs_at f hi lo w q3 q4
  have HSp : Hid (∀ w, Calls Try.prog 50 #[.float .f64 p] w fun e w' => e = .returned (.tuple #[.int .i64 (splM p), .int .i64 (splE p), .bool (splOk p)]) ∧ w' = w) := fun w => split_as p p w rfl up.out
  have HJ : Hid (∀ w, Calls Try.prog 64 #[.int .i64 (splM p), .int .i64 (splE p + k)] w fun e w' => e = .returned (.float .f64 (joinN (splM p) (splE p + k))) ∧ ∃ n, w' = w.drewN n) := fun w => join_any _ _ w hsm.1 hsm.2
  clear h hn q1 q2 q3 q4 q5 q6 q8 hsm
  generalize joinN (splM p) (splE p + k) = res at HJ
  generalize splM p = sm at HJ HSp
  generalize splE p = se at HJ HSp hsp
  generalize splOk p = so at HSp
  go_enter Try.func46, Try.ntmps46
  go_wp2_with fail
  refine (turned H.out).mono ?_
  rintro e w' ⟨rfl, rfl⟩
  clear H
  go_wp2_with fail
  refine (turned (hf.out _)).mono ?_
  rintro e w' ⟨rfl, rfl⟩
  go_wp2_with fail
  refine (turned (HL.out _)).mono ?_
  rintro e w' ⟨rfl, rfl⟩
  go_wp2_with fail
  have HT := hideS (expTerms_any w)
  refine HT.out.mono ?_
  rintro e w1 ⟨rfl, hs, hb⟩
  have HB := hideS hb
  have HH : Hid (Calls Try.prog 62 #[.slice (some ⟨w.heap.size, 0, none⟩) 14 14, .float .f64 r] w1 fun e w' => ∃ r', e = .returned (.float .f64 r') ∧ Ag (hornO expL r) r' ∧ ∃ q, w' = w1.drewN q) := horner_any _ _ _ 14 r 14 expL w1 hs rfl (by decide)
  rw [q7.out] at HH
  clear hs hb HT
  go_wp2_with fail
  refine HH.out.mono ?_
  rintro e w2 ⟨r', rfl, hag, q, rfl⟩
  obtain rfl := ag_some hag
  go_wp2_with fail
  refine (turned (HSp.out _)).mono ?_
  rintro e w' ⟨rfl, rfl⟩
  go_wp2_with fail
  refine (HJ.out _).mono ?_
  rintro e w' ⟨rfl, q', rfl⟩
  go_wp2_with fail
  go_ret
  exact ⟨rfl, ⟨HB.out.os, HB.out.tape, HB.out.output, HB.out.size, HB.out.block⟩⟩
end Go.Proofs.Ytnmjljijgmmakaa
namespace Go.Proofs.Ytnmjljijgmmakaa

theorem num_dec (b : Nat) (h : decide (b % 9223372036854775808 < 9218868437227405312) = true) : NumB b := by unfold NumB; exact of_decide_eq_true h
theorem const_worth {K : Nat} {g : Int} (hs : Scale K g) {b m p : Nat} (q : Nat) (h0 : sB b = false) (hm : mg (b % 9223372036854775808) = m) (hp : pl (b % 9223372036854775808) = p) (hq : q + 974 = p) : vI b = ((m * 2 ^ q : Nat) : Int) * g := by
  rw [vI_sgZ, h0]
  unfold sgZ aV V
  rw [if_neg (by decide), hm, hp, Int.natCast_mul, hs.at_ q p hq, Int.natCast_mul, Int.mul_assoc]
theorem perLog_worth {K : Nat} {g : Int} (hs : Scale K g) : vI 4609176140021203710 = 1828833234529184396638827839488 * g := by
  rw [const_worth hs (b := 4609176140021203710) 48 (by decide +kernel) (m := 6497320848556798) (by decide +kernel) (p := 1022) (by decide +kernel) rfl]; rfl
theorem half_worth {K : Nat} {g : Int} (hs : Scale K g) : vI 4602678819172646912 = 633825300114114700748351602688 * g := by
  rw [const_worth hs (b := 4602678819172646912) 47 (by decide +kernel) (m := 4503599627370496) (by decide +kernel) (p := 1021) (by decide +kernel) rfl]; rfl
theorem high_worth {K : Nat} {g : Int} (hs : Scale K g) : vI 4604418534311723008 = 878668439241424593572830642176 * g := by
  rw [const_worth hs (b := 4604418534311723008) 47 (by decide +kernel) (m := 6243314766446592) (by decide +kernel) (p := 1021) (by decide +kernel) rfl]; rfl
theorem low_worth {K : Nat} {g : Int} (hs : Scale K g) : vI 4461442080421002358 = 241894980045432881152 * g := by
  rw [const_worth hs (b := 4461442080421002358) 15 (by decide +kernel) (m := 7382048951581814) (by decide +kernel) (p := 989) (by decide +kernel) rfl]; rfl
theorem fi_worth {K : Nat} {g : Int} (hs : Scale K g) {m : Int} (h1 : -9007199254740992 ≤ m) (h2 : m ≤ 9007199254740992) : vI (fi m) = 1267650600228229401496703205376 * (m * g) ∧ NumB (fi m) ∧ fi m < 18446744073709551616 := by
  obtain ⟨a, b, _, d⟩ := vI_fi hs.k h1 h2
  refine ⟨?_, b, d⟩
  rw [a, hs.unit, ← Int.mul_assoc, Int.mul_comm m, Int.mul_assoc]
/-- A sum with a number above 0 is never -0. -/
theorem add_pos_zero {x y t : Nat} (hx : NumB x) (hy : NumB y) (h0 : sB y = false) (ht : floatBits .add .f64 x y = some t) : t % 9223372036854775808 ≠ 0 ∨ sB t = false := by
  rw [add_num hx hy] at ht
  have e : addR (x / 9223372036854775808 % 2 == 1) (y / 9223372036854775808 % 2 == 1) (vI x + vI y) = t := Option.some.inj ht
  have hy0 : (y / 9223372036854775808 % 2 == 1) = false := h0
  rw [hy0] at e
  unfold addR at e
  generalize vI x + vI y = T at e
  by_cases hT : T = 0
  · rw [if_pos hT, Bool.and_false, if_neg (by decide)] at e
    right; rw [← e]; rfl
  · left
    rw [if_neg hT, joinN_wrd hT] at e
    have h1 := near_ge (T := T.natAbs) (r := 1) (k := 0) (by decide) (by rw [show V 1 = 1 by decide]; omega)
    have h2 := nearR_le T.natAbs (-1074)
    have h3 : 1 ≤ nearR T.natAbs (-1074) := h1
    rw [← e]
    unfold wrd
    generalize nearR T.natAbs (-1074) = r at *
    split <;> omega

theorem rest_small {X Y t Q hi lo d r g : Int} (x1 : -(945667347770259133516540591210496 * g) < X) (x2 : X < 900031926162042875062659275816960 * g)
    (y1 : -(1569275433846670190958947355801916604025588861116008628224 * g) ≤ 1267650600228229401496703205376 * Y - 1828833234529184396638827839488 * X) (y2 : 1267650600228229401496703205376 * Y - 1828833234529184396638827839488 * X ≤ 1569275433846670190958947355801916604025588861116008628224 * g)
    (t1 : -(1237940039285380274899124224 * g) ≤ t - (Y + 633825300114114700748351602688 * g)) (t2 : t - (Y + 633825300114114700748351602688 * g) ≤ 1237940039285380274899124224 * g)
    (k1 : 1267650600228229401496703205376 * Q ≤ t) (k2 : t < 1267650600228229401496703205376 * Q + 1267650600228229401496703205376 * g)
    (a1 : -(1569275433846670190958947355801916604025588861116008628224 * g) ≤ 1267650600228229401496703205376 * hi - 878668439241424593572830642176 * (1267650600228229401496703205376 * Q)) (a2 : 1267650600228229401496703205376 * hi - 878668439241424593572830642176 * (1267650600228229401496703205376 * Q) ≤ 1569275433846670190958947355801916604025588861116008628224 * g)
    (b1 : -(1569275433846670190958947355801916604025588861116008628224 * g) ≤ 1267650600228229401496703205376 * lo - 241894980045432881152 * (1267650600228229401496703205376 * Q)) (b2 : 1267650600228229401496703205376 * lo - 241894980045432881152 * (1267650600228229401496703205376 * Q) ≤ 1569275433846670190958947355801916604025588861116008628224 * g)
    (d1 : -(1237940039285380274899124224 * g) ≤ d - (X - hi)) (d2 : d - (X - hi) ≤ 1237940039285380274899124224 * g)
    (r1 : -(1237940039285380274899124224 * g) ≤ r - (d - lo)) (r2 : r - (d - lo) ≤ 1237940039285380274899124224 * g) :
    -(633825300114114700748351602688 * g) ≤ r ∧ r ≤ 633825300114114700748351602688 * g := by
  constructor <;> omega

theorem exp_chain {K : Nat} {g : Int} (hs : Scale K g) {x : Nat} (hx : NumB x) (x1 : -(945667347770259133516540591210496 * g) < vI x) (x2 : vI x < 900031926162042875062659275816960 * g) :
    ∃ (y t hi lo d r : Nat) (k : Int), floatBits .mul .f64 x 4609176140021203710 = some y ∧ floatBits .add .f64 y 4602678819172646912 = some t ∧ NumB t ∧ Ieee.double.write ((Ieee.double.read t).integral .down) = fi k ∧ k * ((2 ^ K : Nat) : Int) ≤ vI t ∧ vI t < (k + 1) * ((2 ^ K : Nat) : Int) ∧ -2000 ≤ k ∧ k ≤ 2000 ∧
      floatBits .mul .f64 (fi k) 4604418534311723008 = some hi ∧ floatBits .mul .f64 (fi k) 4461442080421002358 = some lo ∧ floatBits .sub .f64 x hi = some d ∧ floatBits .sub .f64 d lo = some r ∧ NumB r ∧ r < 18446744073709551616 ∧ -(633825300114114700748351602688 * g) ≤ vI r ∧ vI r ≤ 633825300114114700748351602688 * g := by
  have hg := hs.pos
  obtain ⟨y, y0, yn, _, y1, y2⟩ := mul_near hs hx (num_dec 4609176140021203710 (by decide)) (perLog_worth hs) (by omega) (by omega)
  have hw := half_worth hs
  obtain ⟨t, t0, tn, _, t1, t2⟩ := add_near hs yn (num_dec 4602678819172646912 (by decide)) (by rw [hw]; omega) (by rw [hw]; omega)
  rw [hw] at t1 t2
  obtain ⟨k, k0, k1, k2⟩ := floor_word hs.k tn (add_pos_zero yn (num_dec 4602678819172646912 (by decide)) (by decide +kernel) t0)
  have kk1 := k1
  have kk2 := k2
  rw [hs.unit, ← Int.mul_assoc, Int.mul_comm k, Int.mul_assoc] at k1
  rw [hs.unit, Int.add_mul, Int.one_mul, ← Int.mul_assoc, Int.mul_comm k, Int.mul_assoc] at k2
  have kb1 : -2000 ≤ k := by
    by_cases h : -2000 ≤ k
    · exact h
    · have := Int.mul_le_mul_of_nonneg_right (show k ≤ -2001 by omega) (show 0 ≤ g by omega)
      omega
  have kb2 : k ≤ 2000 := by
    by_cases h : k ≤ 2000
    · exact h
    · have := Int.mul_le_mul_of_nonneg_right (show 2001 ≤ k by omega) (show 0 ≤ g by omega)
      omega
  have kb3 := Int.mul_le_mul_of_nonneg_right kb1 (show 0 ≤ g by omega)
  have kb4 := Int.mul_le_mul_of_nonneg_right kb2 (show 0 ≤ g by omega)
  obtain ⟨f1, fn, _⟩ := fi_worth hs (m := k) (by omega) (by omega)
  obtain ⟨Q, hQ⟩ : ∃ Q, k * g = Q := ⟨_, rfl⟩
  rw [hQ] at f1 k1 k2 kb3 kb4
  obtain ⟨hi, h0, hn, _, a1, a2⟩ := mul_near hs fn (num_dec 4604418534311723008 (by decide)) (high_worth hs) (by rw [f1]; omega) (by rw [f1]; omega)
  obtain ⟨lo, l0, ln, _, b1, b2⟩ := mul_near hs fn (num_dec 4461442080421002358 (by decide)) (low_worth hs) (by rw [f1]; omega) (by rw [f1]; omega)
  rw [f1] at a1 a2 b1 b2
  obtain ⟨d, d0, dn, _, d1, d2⟩ := sub_near hs hx hn (by omega) (by omega)
  obtain ⟨r, r0, rn, r64, r1, r2⟩ := sub_near hs dn ln (by omega) (by omega)
  obtain ⟨z1, z2⟩ := rest_small x1 x2 y1 y2 t1 t2 k1 k2 a1 a2 b1 b2 d1 d2 r1 r2
  exact ⟨y, t, hi, lo, d, r, k, y0, t0, tn, k0, kk1, kk2, kb1, kb2, h0, l0, d0, r0, rn, r64, z1, z2⟩
end Go.Proofs.Ytnmjljijgmmakaa
namespace Go.Proofs.Ytnmjljijgmmakaa
open Go.RowKit

theorem abs_mul_le {a b A B : Int} (h1 : -A ≤ a) (h2 : a ≤ A) (h3 : -B ≤ b) (h4 : b ≤ B) : -(A * B) ≤ a * b ∧ a * b ≤ A * B := by
  have h5 : (a * b).natAbs ≤ (A * B).natAbs := by
    rw [Int.natAbs_mul, Int.natAbs_mul]
    exact Nat.mul_le_mul (by omega) (by omega)
  have h6 : 0 ≤ A * B := Int.mul_nonneg (by omega) (by omega)
  omega
theorem rep_units {K : Nat} {g : Int} (hs : Scale K g) (j : Int) (h1 : -10 < j) (h2 : j < 10) : Rep (1267650600228229401496703205376 * (j * g)) := by
  have := rep_grid (j := j) (E := K) (by omega) (by omega) (by have := hs.k; omega) (by have := hs.k; omega)
  rw [hs.unit, ← Int.mul_assoc, Int.mul_comm j, Int.mul_assoc] at this
  exact this
theorem mul_held {K : Nat} {g : Int} (hs : Scale K g) {p r : Nat} (hp : NumB p) (hr : NumB r) (p1 : -(2535301200456458802993406410752 * g) ≤ vI p) (p2 : vI p ≤ 2535301200456458802993406410752 * g) (r1 : -(633825300114114700748351602688 * g) ≤ vI r) (r2 : vI r ≤ 633825300114114700748351602688 * g) :
    ∃ z, floatBits .mul .f64 p r = some z ∧ NumB z ∧ z < 18446744073709551616 ∧ -(1267650600228229401496703205376 * g) ≤ vI z ∧ vI z ≤ 1267650600228229401496703205376 * g := by
  obtain ⟨a, b⟩ := abs_mul_le p1 p2 r1 r2
  have rA := rep_units hs (-1) (by decide) (by decide)
  have rB := rep_units hs 1 (by decide) (by decide)
  have e : (2535301200456458802993406410752 * g) * (633825300114114700748351602688 * g) = 1267650600228229401496703205376 * g * (1267650600228229401496703205376 * g) := by
    rw [show (2535301200456458802993406410752 : Int) * g = (1267650600228229401496703205376 * g) * 2 by omega, Int.mul_assoc (1267650600228229401496703205376 * g), show (2 : Int) * (633825300114114700748351602688 * g) = 1267650600228229401496703205376 * g by omega]
  rw [e] at a b
  have f1 : 1267650600228229401496703205376 * (-1 * g) * ((2 ^ K : Nat) : Int) ≤ vI p * vI r := by
    rw [hs.unit, show (1267650600228229401496703205376 : Int) * (-1 * g) = -(1267650600228229401496703205376 * g) by omega, Int.neg_mul]; exact a
  have f2 : vI p * vI r ≤ 1267650600228229401496703205376 * (1 * g) * ((2 ^ K : Nat) : Int) := by
    rw [hs.unit, Int.one_mul]; exact b
  obtain ⟨z, z1, z2, z3, z4⟩ := mul_worth hs.k hp hr (fin_of rA rB f1 f2)
  have a1 := round_ge rA f1
  have a2 := round_le rB f2
  rw [← z4] at a1 a2
  exact ⟨z, z1, z2, z3, by omega, by omega⟩
theorem add_held {K : Nat} {g : Int} (hs : Scale K g) {q c : Nat} (hq : NumB q) (hc : NumB c) (l : Int) (hl1 : -10 < l) (hl2 : l < 10) (t1 : 1267650600228229401496703205376 * (l * g) ≤ vI q + vI c) (t2 : vI q + vI c ≤ 2535301200456458802993406410752 * g) :
    ∃ z, floatBits .add .f64 q c = some z ∧ NumB z ∧ z < 18446744073709551616 ∧ 1267650600228229401496703205376 * (l * g) ≤ vI z ∧ vI z ≤ 2535301200456458802993406410752 * g := by
  have rA := rep_units hs l hl1 hl2
  have rB := rep_units hs 2 (by decide) (by decide)
  have f1 : 1267650600228229401496703205376 * (l * g) * ((2 ^ 0 : Nat) : Int) ≤ vI q + vI c := by rw [show ((2 ^ 0 : Nat) : Int) = 1 from rfl, Int.mul_one]; exact t1
  have f2 : vI q + vI c ≤ 1267650600228229401496703205376 * (2 * g) * ((2 ^ 0 : Nat) : Int) := by rw [show ((2 ^ 0 : Nat) : Int) = 1 from rfl, Int.mul_one]; omega
  obtain ⟨z, z1, z2, z3, z4⟩ := add_worth hq hc (fin_of rA rB f1 f2)
  have a1 := round_ge rA f1
  have a2 := round_le rB f2
  rw [← z4] at a1 a2
  exact ⟨z, z1, z2, z3, a1, by omega⟩
theorem one_worth {K : Nat} {g : Int} (hs : Scale K g) : vI 4607182418800017408 = 1267650600228229401496703205376 * g ∧ NumB 4607182418800017408 := by
  obtain ⟨a, b, _⟩ := fi_worth hs (m := 1) (by decide) (by decide)
  rw [fi_one] at a b
  rw [Int.one_mul] at a
  exact ⟨a, b⟩
theorem exp_bits : ∀ i, i < 14 → expL.getD i 0 ≤ 4607182418800017408 := by decide +kernel
theorem low_units {K : Nat} {g : Int} (hs : Scale K g) {c : Nat} (h : c ≤ 4607182418800017408) : NumB c ∧ 0 ≤ vI c ∧ vI c ≤ 1267650600228229401496703205376 * g := by
  have h1 : vI c = (V c : Int) := by
    rw [vI_sgZ]; unfold sB aV
    rw [show c / 9223372036854775808 % 2 = 0 by omega, show c % 9223372036854775808 = c by omega]; rfl
  have h2 : vI 4607182418800017408 = (V 4607182418800017408 : Int) := by
    rw [vI_sgZ]; unfold sB aV; rfl
  have h3 := V_le h
  rw [(one_worth hs).1] at h2
  refine ⟨by unfold NumB; omega, by omega, by omega⟩
theorem horn_held {K : Nat} {g : Int} (hs : Scale K g) {r : Nat} (hr : NumB r) (r1 : -(633825300114114700748351602688 * g) ≤ vI r) (r2 : vI r ≤ 633825300114114700748351602688 * g) :
    ∀ i, i ≤ 12 → ∃ p, hornAt expL r i = some p ∧ NumB p ∧ -(2535301200456458802993406410752 * g) ≤ vI p ∧ vI p ≤ 2535301200456458802993406410752 * g := by
  have hg := hs.pos
  intro i
  induction i with
  | zero =>
    intro _
    obtain ⟨a, b, c⟩ := low_units hs (exp_bits 13 (by omega))
    exact ⟨expL.getD 13 0, rfl, a, by omega, by omega⟩
  | succ i ih =>
    intro hi
    obtain ⟨p, e, hp, p1, p2⟩ := ih (by omega)
    obtain ⟨q, q0, qn, _, q1, q2⟩ := mul_held hs hp hr p1 p2 r1 r2
    obtain ⟨a, b, c⟩ := low_units hs (exp_bits (14 - 2 - i) (by omega))
    obtain ⟨z, z0, zn, _, z1, z2⟩ := add_held hs qn a (-1) (by decide) (by decide) (by omega) (by omega)
    refine ⟨z, ?_, zn, by omega, z2⟩
    show stepO r (hornAt expL r i) (expL.getD (14 - 2 - i) 0) = some z
    rw [e]
    show ((some p).bind fun p => floatBits .mul .f64 p r).bind _ = _
    rw [show ((some p).bind fun p => floatBits .mul .f64 p r) = some q from q0]
    exact z0
theorem horn_exp {K : Nat} {g : Int} (hs : Scale K g) {r : Nat} (hr : NumB r) (r1 : -(633825300114114700748351602688 * g) ≤ vI r) (r2 : vI r ≤ 633825300114114700748351602688 * g) :
    ∃ p, hornO expL r = some p ∧ NumB p ∧ p < 18446744073709551616 ∧ 0 ≤ vI p := by
  have hg := hs.pos
  obtain ⟨p, e, hp, p1, p2⟩ := horn_held hs hr r1 r2 12 (by omega)
  obtain ⟨q, q0, qn, _, q1, q2⟩ := mul_held hs hp hr p1 p2 r1 r2
  obtain ⟨o1, o2⟩ := one_worth hs
  obtain ⟨z, z0, zn, z64, z1, _⟩ := add_held hs qn o2 0 (by decide) (by decide) (by rw [o1]; omega) (by rw [o1]; omega)
  refine ⟨z, ?_, zn, z64, by omega⟩
  show stepO r (hornAt expL r 12) 4607182418800017408 = some z
  rw [e]
  show ((some p).bind fun p => floatBits .mul .f64 p r).bind _ = _
  rw [show ((some p).bind fun p => floatBits .mul .f64 p r) = some q from q0]
  exact z0

theorem spl_of {p : Nat} (hn : NumB p) (h64 : p < 18446744073709551616) (h0 : 0 ≤ vI p) : 0 ≤ splM p ∧ splM p < 9007199254740992 ∧ -2000 ≤ splE p ∧ splE p ≤ 2000 := by
  have hsz : szI (p : Int) = ((p % 9223372036854775808 : Nat) : Int) := by unfold szI; omega
  have hok : splOk (p : Int) = true := by unfold splOk; rw [hsz]; unfold NumB at hn; simp; omega
  have hE : -2000 ≤ splE p ∧ splE p ≤ 2000 := by
    unfold splE plcI
    rw [hsz]
    unfold NumB at hn
    split
    · split <;> omega
    · omega
  unfold splM
  rw [hok, if_pos rfl, hsz]
  obtain ⟨r, hr⟩ : ∃ r, p % 9223372036854775808 = r := ⟨_, rfl⟩
  have hm : 0 ≤ magI (r : Int) ∧ magI (r : Int) < 9007199254740992 := by unfold magI; split <;> omega
  have hz : sgB (p : Int) = true → r = 0 := fun h => by
    have h1 : sB p = true := by
      unfold sgB at h
      unfold sB
      have : 9223372036854775808 ≤ p := by have := of_decide_eq_true h; omega
      rw [show p / 9223372036854775808 % 2 = 1 by omega]; rfl
    rw [vI_sgZ, h1] at h0
    have h2 : aV p = 0 := by unfold sgZ at h0; simp at h0; omega
    unfold aV at h2
    rw [hr] at h2
    have := V_eq_iff (r := r) (s := 0)
    rw [V_zero] at this
    exact this.1 h2
  rw [hr]
  by_cases hsg : sgB (p : Int) = true
  · rw [if_pos hsg, hz hsg]
    refine ⟨by decide, by decide, hE.1, hE.2⟩
  · rw [if_neg hsg]
    exact ⟨hm.1, hm.2, hE.1, hE.2⟩
theorem join_top {m e : Int} (h : 0 ≤ m) : joinN m e ≤ 9218868437227405312 := by
  unfold joinN
  split
  · omega
  · rw [if_neg (by omega)]; exact nearR_le _ _

theorem toInt_all : ∀ a : Nat, a < 64 → ∀ b : Nat, b < 64 → floatToIntVal .f64 (fi (((64 * a + b : Nat) : Int) - 2000)) .i64 = some (((64 * a + b : Nat) : Int) - 2000) := by decide +kernel
theorem toInt_fi {k : Int} (h1 : -2000 ≤ k) (h2 : k ≤ 2000) : floatToIntVal .f64 (fi k) .i64 = some k := by
  have := toInt_all ((k + 2000).toNat / 64) (by omega) ((k + 2000).toNat % 64) (by omega)
  rw [show ((64 * ((k + 2000).toNat / 64) + (k + 2000).toNat % 64 : Nat) : Int) - 2000 = k by omega] at this
  exact this
theorem spl_rng {m : Int} (h1 : 0 ≤ m) (h2 : m < 9007199254740992) : -9223372036854775808 ≤ m ∧ m ≤ 9223372036854775807 := by omega

/-- Ranks of numbers, by their worths. -/
theorem rank_worth {a b : Nat} (ha : NumB a) (hb : NumB b) (ha2 : a < 18446744073709551616) (hb2 : b < 18446744073709551616) (h : rankI a < rankI b) : vI a < vI b := by
  have na : nanB (a : Int) = false := by unfold NumB at ha; unfold nanB szI; rw [decide_eq_false_iff_not]; omega
  have nb : nanB (b : Int) = false := by unfold NumB at hb; unfold nanB szI; rw [decide_eq_false_iff_not]; omega
  rw [← sgn_rank ha2 na, ← sgn_rank hb2 nb] at h
  have e1 : vI a = sgZ (a / 9223372036854775808 % 2 == 1) (V (a % 9223372036854775808)) := rfl
  have e2 : vI b = sgZ (b / 9223372036854775808 % 2 == 1) (V (b % 9223372036854775808)) := rfl
  rw [e1, e2]
  generalize a % 9223372036854775808 = r at *
  generalize b % 9223372036854775808 = s at *
  generalize (a / 9223372036854775808 % 2 == 1) = p at *
  generalize (b / 9223372036854775808 % 2 == 1) = q at *
  have h1 := V_lt_iff (r := r) (s := s)
  have h2 := V_lt_iff (r := s) (s := r)
  have h3 := V_lt_iff (r := 0) (s := s)
  have h4 := V_lt_iff (r := 0) (s := r)
  rw [V_zero] at h3 h4
  unfold sgn at h
  unfold sgZ
  cases p <;> cases q <;> simp only [Bool.false_eq_true, if_true, if_false] at * <;> omega
theorem c710 : fi 710 = 4649456441864749056 := by decide +kernel
theorem c746 : fi (-746) = 13873145138068324352 := by decide +kernel
end Go.Proofs.Ytnmjljijgmmakaa
