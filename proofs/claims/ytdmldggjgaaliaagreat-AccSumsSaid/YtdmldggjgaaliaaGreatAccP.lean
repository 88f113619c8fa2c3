/- The law's awake: what the document fixes. -/
import Derived.Test.YtdmldggjgaaliaaGreatAcN
namespace Go.Proofs.YtdmldggjgaaliaaGreat.A
open Go.RowKit

theorem pow4_mod3 (a : Nat) : 2 ^ (2 * a) % 3 = 1 := by
  induction a with
  | zero => rfl
  | succ a ih => rw [show 2 * (a + 1) = 2 * a + 2 by omega, Nat.pow_add, Nat.mul_mod, ih]
theorem divOk_three {K : Nat} (hK : K = 2148) : DivOk (2 ^ K) 3 := by
  intro j y w hy
  by_cases h : 64 * (j + 1) ≤ K
  · have e1 : 2 ^ K / 2 ^ (64 * (j + 1)) = 2 ^ (K - 64 * (j + 1)) := Nat.pow_div h (by decide)
    have e2 : 2 ^ K / 2 ^ (64 * j) = 2 ^ (K - 64 * j) := Nat.pow_div (by omega) (by decide)
    have e3 : 2 ^ (K - 64 * (j + 1)) % 3 = 1 := by
      rw [show K - 64 * (j + 1) = 2 * ((K - 64 * (j + 1)) / 2) by omega]; exact pow4_mod3 _
    have e4 : y = 0 := by
      rw [hy, e2, show K - 64 * j = 64 + (K - 64 * j - 64) by omega, Nat.pow_add, show (2 : Nat) ^ 64 = 18446744073709551616 from rfl, Nat.mul_mod_right]
    subst e4
    rw [e1, e3]
    exact div64_13 w
  · have e1 : 2 ^ K / 2 ^ (64 * (j + 1)) = 0 := Nat.div_eq_of_lt (Nat.pow_lt_pow_right (by decide) (by omega))
    rw [e1, Nat.zero_mod, Nat.zero_mul, Nat.zero_add]
    exact div64_zero y 3 w (by decide) (by rw [hy]; exact Nat.mod_lt _ (by decide))
theorem unit_nat (u : Int) {k K : Nat} (h : (splE u + 2148).toNat = k) (m : Nat) (hm : splM u = (m : Int)) (hs : m * 2 ^ k = 2 ^ K) : unitI u = ((2 ^ K : Nat) : Int) := by
  unfold unitI
  rw [h, hm, ← hs, Int.natCast_mul, Int.natCast_pow]; rfl
theorem one_add {K : Nat} (hK : K = 2148) : (⟨0, 0⟩ : St).merge (oneS (4607182418800017408 : Nat)) = ⟨0, ((2 ^ K : Nat) : Int)⟩ := by
  have h1 : splOk ((4607182418800017408 : Nat) : Int) = true := by decide
  have h2 : splM ((4607182418800017408 : Nat) : Int) = ((4503599627370496 : Nat) : Int) := by decide
  have h3 : (splE ((4607182418800017408 : Nat) : Int) + 2148).toNat = K - 52 := by rw [hK]; decide
  have h4 := unit_nat _ (K := K) h3 4503599627370496 h2 (by rw [show (4503599627370496 : Nat) = 2 ^ 52 from rfl, ← Nat.pow_add, show 52 + (K - 52) = K by omega])
  unfold oneS
  rw [h1, if_pos rfl, h4]
  unfold St.merge
  simp [mt]
theorem over_third : overF ((2 ^ 2148 : Nat) : Int) 3 = 4599676419421066581 := by kernel_rfl

/-- What is reckoned with Nat powers alone. -/
def unitC (u : Int) : Int := splM u * ((2 ^ (splE u + 2148).toNat : Nat) : Int)
theorem unitC_eq (u : Int) : unitI u = unitC u := by unfold unitI unitC; rw [Int.natCast_pow]; rfl
def oneC (u : Int) : St := if splOk u then ⟨0, unitC u⟩ else ⟨endN u, 0⟩
theorem oneC_eq (u : Int) : oneS u = oneC u := by unfold oneS oneC; rw [unitC_eq]
def prodC (u v : Int) : St := ⟨0, splM u * splM v * ((2 ^ (splE u + splE v + 2148).toNat : Nat) : Int)⟩
theorem prodC_eq (u v : Int) : prodS u v = prodC u v := by unfold prodS prodC; rw [Int.natCast_pow]; rfl
theorem sum_three : valSt (sumS [4607182418800017408, 4336966441157787648, 13830554455654793216]) = 4336966441157787648 := by
  have h : sumS [4607182418800017408, 4336966441157787648, 13830554455654793216] = ((((⟨0, 0⟩ : St).merge (oneC (4607182418800017408 : Nat))).merge (oneC (4336966441157787648 : Nat))).merge (oneC (13830554455654793216 : Nat))) := by
    rw [← oneC_eq, ← oneC_eq, ← oneC_eq]; rfl
  have e : valSt ((((⟨0, 0⟩ : St).merge (oneC (4607182418800017408 : Nat))).merge (oneC (4336966441157787648 : Nat))).merge (oneC (13830554455654793216 : Nat))) = 4336966441157787648 := by kernel_rfl
  rw [h]; exact e
theorem dot_four : valSt (dotS [4607182418800017408, 4611686018427387904] [4613937818241073152, 4616189618054758400] 2) = 4622382067542392832 := by
  have h : dotS [4607182418800017408, 4611686018427387904] [4613937818241073152, 4616189618054758400] 2 = ((⟨0, 0⟩ : St).merge (prodC (4607182418800017408 : Nat) (4613937818241073152 : Nat))).merge (prodC (4611686018427387904 : Nat) (4616189618054758400 : Nat)) := by
    rw [← prodC_eq, ← prodC_eq]; rfl
  have e : valSt (((⟨0, 0⟩ : St).merge (prodC (4607182418800017408 : Nat) (4613937818241073152 : Nat))).merge (prodC (4611686018427387904 : Nat) (4616189618054758400 : Nat))) = 4622382067542392832 := by kernel_rfl
  rw [h]; exact e
theorem fi_one : fi 1 = 4607182418800017408 := by kernel_rfl
theorem fi_two : fi 2 = 4611686018427387904 := by kernel_rfl
theorem fi_three : fi 3 = 4613937818241073152 := by kernel_rfl
theorem eq_third : (FloatKind.f64.format.order 4599676419421066581 4599676419421066581 == some .eq) = true := by kernel_rfl
theorem eq_eleven : (FloatKind.f64.format.order 4622382067542392832 4622382067542392832 == some .eq) = true := by kernel_rfl
theorem eq_small : (FloatKind.f64.format.order 4336966441157787648 4336966441157787648 == some .eq) = true := by kernel_rfl
theorem eq_three : (FloatKind.f64.format.order 4613937818241073152 4613937818241073152 == some .eq) = true := by kernel_rfl

/-- A list that was just made. -/
theorem src_new (w : World) (xs : List Nat) (t : TypeId) : Src (w.alloc (.cells (xs.map fV).toArray t)) (some ⟨w.heap.size, 0, none⟩) w.heap.size 0 xs :=
  ⟨fun _ => rfl, fun _ => by simp, fun j hj => by
    have hb := heap_alloc_new w (.cells (xs.map fV).toArray t)
    rw [Nat.zero_add]
    simp only [World.cell?, hb]
    simp [fV, List.getD, List.getElem?_eq_getElem hj]⟩
theorem left12 (W : World) (c : Nat) : Calls Tryz.prog 11 #[.slice (some ⟨W.heap.size, 0, none⟩) 2 c] (W.alloc (.cells #[.float .f64 4607182418800017408, .float .f64 4611686018427387904] 26)) fun e w' => e = .returned (.float .f64 4613937818241073152) ∧ w' = W.alloc (.cells #[.float .f64 4607182418800017408, .float .f64 4611686018427387904] 26) := by
  have hs := src_new W [4607182418800017408, 4611686018427387904] 26
  have := left_whole (some ⟨W.heap.size, 0, none⟩) W.heap.size 0 c [1, 2] _ (by rw [show List.map fi [1, 2] = [4607182418800017408, 4611686018427387904] by rw [List.map, List.map, List.map, fi_one, fi_two]]; exact hs) (by decide) (by decide)
  rw [show isum [1, 2] = 3 from rfl, fi_three] at this
  exact this
theorem kahan12 (W : World) (c : Nat) : Calls Tryz.prog 15 #[.slice (some ⟨W.heap.size, 0, none⟩) 2 c] (W.alloc (.cells #[.float .f64 4607182418800017408, .float .f64 4611686018427387904] 26)) fun e w' => e = .returned (.float .f64 4613937818241073152) ∧ w' = W.alloc (.cells #[.float .f64 4607182418800017408, .float .f64 4611686018427387904] 26) := by
  have hs := src_new W [4607182418800017408, 4611686018427387904] 26
  have := kahan_whole (some ⟨W.heap.size, 0, none⟩) W.heap.size 0 c [1, 2] _ (by rw [show List.map fi [1, 2] = [4607182418800017408, 4611686018427387904] by rw [List.map, List.map, List.map, fi_one, fi_two]]; exact hs) (by decide) (by decide)
  rw [show isum [1, 2] = 3 from rfl, fi_three] at this
  exact this
theorem pair12 (W : World) : Calls Tryz.prog 13 #[.slice (some ⟨W.heap.size, 0, none⟩) 2 2] (W.alloc (.cells #[.float .f64 4607182418800017408, .float .f64 4611686018427387904] 26)) fun e w' => e = .returned (.float .f64 4613937818241073152) ∧ ∃ q, w' = (W.alloc (.cells #[.float .f64 4607182418800017408, .float .f64 4611686018427387904] 26)).drewN q := by
  have hs := src_new W [4607182418800017408, 4611686018427387904] 26
  have := pair_whole 2 (some ⟨W.heap.size, 0, none⟩) W.heap.size 0 2 [1, 2] _ rfl (by rw [show List.map fi [1, 2] = [4607182418800017408, 4611686018427387904] by rw [List.map, List.map, List.map, fi_one, fi_two]]; exact hs) (by decide) (by decide) (by decide)
  rw [show isum [1, 2] = 3 from rfl, fi_three] at this
  exact this
theorem sum123 (W : World) (c : Nat) : Calls Tryz.prog 9 #[.slice (some ⟨W.heap.size, 0, none⟩) 3 c] (W.alloc (.cells #[.float .f64 4607182418800017408, .float .f64 4336966441157787648, .float .f64 13830554455654793216] 26)) fun e w' => e = .returned (.float .f64 4336966441157787648) ∧ Below W.heap.size W w' := by
  have hs := src_new W [4607182418800017408, 4336966441157787648, 13830554455654793216] 26
  have := sum_any (some ⟨W.heap.size, 0, none⟩) W.heap.size 0 c [4607182418800017408, 4336966441157787648, 13830554455654793216] _ hs (by unfold FitU; decide) (by decide)
  rw [sum_three] at this
  refine (this : Calls Tryz.prog 9 #[.slice (some ⟨W.heap.size, 0, none⟩) 3 c] (W.alloc (.cells #[.float .f64 4607182418800017408, .float .f64 4336966441157787648, .float .f64 13830554455654793216] 26)) _).mono ?_
  rintro e w' ⟨rfl, hb⟩
  exact ⟨rfl, ((Below.refl _ W).alloc (Nat.le_refl _) _).trans (hb.mono (by simp))⟩
theorem dot1234 (W : World) (c c' : Nat) : Calls Tryz.prog 6 #[.slice (some ⟨W.heap.size, 0, none⟩) 2 c, .slice (some ⟨W.heap.size + 1, 0, none⟩) 2 c'] ((W.alloc (.cells #[.float .f64 4607182418800017408, .float .f64 4611686018427387904] 26)).alloc (.cells #[.float .f64 4613937818241073152, .float .f64 4616189618054758400] 26)) fun e w' => e = .returned (.tuple #[.float .f64 4622382067542392832, .bool true]) ∧ Below W.heap.size W w' := by
  have hs := src_new W [4607182418800017408, 4611686018427387904] 26
  have hs' := src_new (W.alloc (.cells #[.float .f64 4607182418800017408, .float .f64 4611686018427387904] 26)) [4613937818241073152, 4616189618054758400] 26
  have hb1 : Below (W.alloc (.cells #[.float .f64 4607182418800017408, .float .f64 4611686018427387904] 26)).heap.size (W.alloc (.cells #[.float .f64 4607182418800017408, .float .f64 4611686018427387904] 26)) ((W.alloc (.cells #[.float .f64 4607182418800017408, .float .f64 4611686018427387904] 26)).alloc (.cells #[.float .f64 4613937818241073152, .float .f64 4616189618054758400] 26)) := (Below.refl _ _).alloc (Nat.le_refl _) _
  have e1 : (W.alloc (.cells #[.float .f64 4607182418800017408, .float .f64 4611686018427387904] 26)).heap.size = W.heap.size + 1 := by simp
  have hs2 : Src ((W.alloc (.cells #[.float .f64 4607182418800017408, .float .f64 4611686018427387904] 26)).alloc (.cells #[.float .f64 4613937818241073152, .float .f64 4616189618054758400] 26)) (some ⟨W.heap.size, 0, none⟩) W.heap.size 0 [4607182418800017408, 4611686018427387904] := hs.below hb1
  rw [e1] at hs'
  have := dot_any (some ⟨W.heap.size, 0, none⟩) (some ⟨W.heap.size + 1, 0, none⟩) W.heap.size 0 c (W.heap.size + 1) 0 c' 2 _ _ _ hs2 hs' (by unfold FitU; decide) (by unfold FitU; decide) (by unfold AllNum; decide) (by unfold AllNum; decide) rfl rfl (by decide)
  rw [dot_four] at this
  refine this.mono ?_
  rintro e w' ⟨rfl, hb⟩
  refine ⟨rfl, (((Below.refl _ W).alloc (Nat.le_refl _) _).alloc (by simp) _).trans (hb.mono (by simp; omega))⟩

set_option maxRecDepth 100000 in
set_option maxHeartbeats 3200000 in
theorem awake3 (w : World) : Calls Tryz.prog 4 #[] w fun e w' => e = .returned (.bool true) ∧ Below w.heap.size w w' := by
  have HNw := hideS (new_any w w.heap.size (Nat.le_refl _))
  obtain ⟨K, hK⟩ : ∃ K, K = 2148 := ⟨_, rfl⟩
  have HOne := hideS (one_add hK)
  have HDv := hideS (divOk_three hK)
  have HOv : Hid (overF ((2 ^ K : Nat) : Int) 3 = 4599676419421066581) := by show _ = _; rw [hK]; exact over_third
  clear hK
  have e1 := eq_third
  have e2 := eq_eleven
  have e3 := eq_small
  have e4 := eq_three
  go_enter Tryz.func4, Tryz.ntmps4
  go_wp2_with fail
  refine HNw.out.mono ?_
  rintro e w0 ⟨rfl, a0, b0⟩
  have HAd := hideS (add_any w.heap.size w.heap.size (.slice none 0 0) 0 _ 4607182418800017408 (4607182418800017408 : Nat) w0 a0 b0.size rfl (by unfold U64; decide) (by decide))
  have R0 : Hid (Run w w0 w.heap.size (.slice none 0 0) 0 ⟨0, 0⟩) := ⟨a0, b0⟩
  clear a0 b0 HNw
  go_wp2_with fail
  refine HAd.out.mono ?_
  rintro e w1 ⟨rfl, v1, hd⟩
  have R1 := hideS (R0.out.did hd)
  rw [HOne.out] at R1
  clear hd HAd R0
  have HOvr := hideS (over_any w.heap.size w.heap.size v1 (max 0 70 + 1) _ 3 w1 R1.out.acc R1.out.bl.size (by decide) (by decide) (by decide) rfl (by rw [Int.natAbs_natCast]; exact HDv.out))
  rw [HOv.out] at HOvr
  have B1 := hideS R1.out.bl
  clear R1
  go_wp2_with fail
  refine HOvr.out.mono ?_
  rintro e w2 ⟨rfl, hb⟩
  have B2 : Hid (Below w.heap.size w w2) := B1.out.trans (hb.mono B1.out.size)
  clear hb HOvr B1
  have HDt := hideS (dot1234 w2 2 2)
  go_wp2_with fail
  refine HDt.out.mono ?_
  rintro e w3 ⟨rfl, hb⟩
  have B3 : Hid (Below w.heap.size w w3) := B2.out.trans (hb.mono B2.out.size)
  clear hb HDt B2
  have HSm := hideS (sum123 w3 3)
  go_wp2_with fail
  refine HSm.out.mono ?_
  rintro e w4 ⟨rfl, hb⟩
  have B4 : Hid (Below w.heap.size w w4) := B3.out.trans (hb.mono B3.out.size)
  clear hb HSm B3
  have HLe := hideS (left12 w4 2)
  go_wp2_with fail
  refine HLe.out.mono ?_
  rintro e w5 ⟨rfl, h5⟩
  have B5 : Hid (Below w.heap.size w w5) := by rw [h5]; exact B4.out.alloc B4.out.size _
  clear h5 HLe B4
  have HPa := hideS (pair12 w5)
  go_wp2_with fail
  refine HPa.out.mono ?_
  rintro e w6 ⟨rfl, q, h6⟩
  have B6 : Hid (Below w.heap.size w w6) := by
    rw [h6]
    have := B5.out.alloc B5.out.size (.cells #[.float .f64 4607182418800017408, .float .f64 4611686018427387904] 26)
    exact ⟨this.os, this.tape, this.output, this.size, this.block⟩
  clear h6 HPa B5
  have HKa := hideS (kahan12 w6 2)
  go_wp2_with fail
  refine HKa.out.mono ?_
  rintro e w7 ⟨rfl, h7⟩
  have B7 : Hid (Below w.heap.size w w7) := by rw [h7]; exact B6.out.alloc B6.out.size _
  clear h7 HKa B6
  go_wp2_with fail
  go_ret
  exact ⟨rfl, B7.out⟩
end Go.Proofs.YtdmldggjgaaliaaGreat.A
