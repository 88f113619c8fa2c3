/- Contracts of the document's Near: made, Zero, far, NearMore, Near. The contracts of shiftNear, near and Join: the nearest number. -/
import Derived.Test.YtcbbbkngjdlcjaaGav
import Derived.Test.YtcbbbkngjdlcjaaGat
import Derived.Test.YtcbbbkngjdlcjaaGap
namespace Go.Proofs.Ytcbbbkngjdlcjaa
open Go.RowKit

/-- A real of the document's as a value. -/
def NumV (neg : Bool) (v : Value) (e : Int) : Value := .agg #[.bool neg, v, .int .i64 e]

def madeI (neg : Bool) (u : Int) : Int := if neg then min u 9218868437227405312 + 9223372036854775808 else min u 9218868437227405312

set_option maxHeartbeats 400000 in
theorem made_any (neg : Bool) (u : Int) (w : World) (h0 : 0 ≤ u) (h1 : u < 18446744073709551616) :
    Calls Try.prog 56 #[.bool neg, .int .u64 u] w fun e w' => e = .returned (.int .u64 (madeI neg u)) ∧ w' = w := by
  unfold madeI
  cases neg
  · simp only [Bool.false_eq_true, if_false]
    go_enter Try.func56, Try.ntmps56
    go_wp2
    go_ret
    exact ⟨rfl, rfl⟩
  · simp only [if_true]
    go_enter Try.func56, Try.ntmps56
    go_wp2
    go_ret
    exact ⟨ret_int (by omega), rfl⟩

set_option maxHeartbeats 400000 in
theorem zero_any (neg : Bool) (v : Value) (e : Int) (N : Nat) (w : World) (h : DN w v N) :
    Calls Try.prog 35 #[NumV neg v e] w fun x w' => x = .returned (.bool (decide (N = 0))) ∧ Below w.heap.size w w' := by
  unfold NumV
  rcases h with ⟨h0, p, c, rfl⟩ | ⟨h0, g, c, rfl, hc, hg, hr⟩
  · go_enter Try.func35, Try.ntmps35
    go_wp2
    go_ret
    exact ⟨ret_bool (by simp [h0]), (Below.refl _ _).alloc (Nat.le_refl _) _⟩
  · have h1 := nd_pos h0
    have h2 : ((nd N : Int) == 0) = false := by simp; omega
    clear hr
    go_enter Try.func35, Try.ntmps35
    go_wp2
    go_ret
    exact ⟨ret_bool (by simp [h0]), (Below.refl _ _).alloc (Nat.le_refl _) _⟩

def farB (N : Nat) (e : Int) : Bool := decide (1100 < (bl N : Int) + e) || decide ((bl N : Int) + e < -1200)

theorem len_at (v : Value) (N : Nat) (B : Int) (w : World) (h : DN w v N) (hb : nd N ≤ 100000000) (hB : Hid ((bl N : Int) = B)) :
    Calls Try.prog 36 #[v] w fun e w' => e = .returned (.int .i64 B) ∧ w' = w := by
  rw [← hB.out]; exact len_any v N w h hb

set_option maxHeartbeats 400000 in
theorem far_any (neg : Bool) (v : Value) (e : Int) (N : Nat) (w : World) (h : DN w v N) (hb : nd N ≤ 1000000) (he : -10000000 ≤ e) (he' : e ≤ 10000000) :
    Calls Try.prog 55 #[NumV neg v e] w fun x w' => x = .returned (.bool (farB N e)) ∧ Below w.heap.size w w' := by
  unfold NumV farB
  have hbl := bl_nd N
  have HA : Hid (∀ n, DN ((w.alloc (.cells #[.bool neg, v, .int .i64 e] 50)).drewN n) v N) := fun n => h.below (below_drewN ((Below.refl _ _).alloc (Nat.le_refl _) _) n)
  generalize hB : (bl N : Int) = B
  have HB := hide hB
  have hB0 : 0 ≤ B := by omega
  have hB1 : B ≤ 32000000 := by omega
  clear hB hbl h
  have w1 : IntKind.i64.wrap (B + e) = B + e := by rw [IntKind.wrap_i64]; omega
  by_cases h1 : 1100 < B + e
  · have d1 : decide (1100 < B + e) = true := by simpa using h1
    rw [d1, Bool.true_or]
    go_enter Try.func55, Try.ntmps55
    go_wp2_with fail
    go_quiet ((go_at_call 36; exact Calls.quiet_of_same (len_at v N B _ (HA.out _) (by omega) HB)))
    go_wp2_with fail
    go_ret
    exact ⟨rfl, below_drewN ((Below.refl _ _).alloc (Nat.le_refl _) _) _⟩
  · have d1 : decide (1100 < B + e) = false := by simpa using h1
    rw [d1, Bool.false_or]
    go_enter Try.func55, Try.ntmps55
    go_wp2_with fail
    go_quiet ((go_at_call 36; exact Calls.quiet_of_same (len_at v N B _ (HA.out _) (by omega) HB)))
    go_wp2_with fail
    go_ret
    exact ⟨rfl, below_drewN ((Below.refl _ _).alloc (Nat.le_refl _) _) _⟩

/-- The bits of the number nearest to N * 2^e (and a little more). -/
def nearM (neg : Bool) (N : Nat) (e : Int) (more : Bool) : Int :=
  if N = 0 then 0 else if farB N e then (if 0 < e ∨ 0 < (bl N : Int) + e then madeI neg 9218868437227405312 else madeI neg 0) else madeI neg (rnd53 N e more)

theorem bcell {W w1 : World} (hb : Below W.heap.size W w1) : (∀ b o, b < W.heap.size → w1.cell? ⟨b, o, none⟩ = W.cell? ⟨b, o, none⟩) ∧ (∀ b o, b < W.heap.size → w1.frozen? ⟨b, o, none⟩ = W.frozen? ⟨b, o, none⟩) :=
  ⟨fun b o h => hb.cell (p := ⟨b, o, none⟩) h, fun b o h => hb.frozen (p := ⟨b, o, none⟩) h⟩

theorem zero_at (neg : Bool) (v : Value) (e : Int) (N : Nat) (z : Bool) (w : World) (h : DN w v N) (hz : Hid (decide (N = 0) = z)) :
    Calls Try.prog 35 #[.agg #[.bool neg, v, .int .i64 e]] w fun x w' => x = .returned (.bool z) ∧ Below w.heap.size w w' := by
  rw [← hz.out]; exact zero_any neg v e N w h
theorem far_at (neg : Bool) (v : Value) (e : Int) (N : Nat) (z : Bool) (w : World) (h : DN w v N) (hb : nd N ≤ 1000000) (he : -10000000 ≤ e) (he' : e ≤ 10000000) (hz : Hid (farB N e = z)) :
    Calls Try.prog 55 #[.agg #[.bool neg, v, .int .i64 e]] w fun x w' => x = .returned (.bool z) ∧ Below w.heap.size w w' := by
  rw [← hz.out]; exact far_any neg v e N w h hb he he'

set_option maxHeartbeats 400000 in
theorem nearMore_zero (neg more : Bool) (v : Value) (e : Int) (w : World) (h : DN w v 0) :
    Calls Try.prog 39 #[NumV neg v e, .bool more] w fun x w' => x = .returned (.int .u64 0) ∧ Below w.heap.size w w' := by
  unfold NumV
  have H1 := hide (h.below ((Below.refl w.heap.size w).alloc (Nat.le_refl _) (.cells #[.bool neg, v, .int .i64 e] 50)))
  clear h
  go_enter Try.func39, Try.ntmps39
  go_wp2_with fail
  refine (zero_at _ _ _ 0 true _ H1.out rfl).mono ?_
  rintro x w1 ⟨rfl, hb1⟩
  have HB := hide hb1
  clear hb1
  go_wp2_with fail
  go_ret
  exact ⟨rfl, ((Below.refl _ _).alloc (Nat.le_refl _) _).trans (HB.out.mono (by simp))⟩

/-- The box's three cells, in a later world. -/
theorem box_cells {w w1 : World} {neg : Bool} {v : Value} {e : Int} (hb : Below (w.alloc (.cells #[.bool neg, v, .int .i64 e] 50)).heap.size (w.alloc (.cells #[.bool neg, v, .int .i64 e] 50)) w1) :
    w1.cell? ⟨w.heap.size, 0, none⟩ = some (.bool neg) ∧ w1.cell? ⟨w.heap.size, 1, none⟩ = some v ∧ w1.cell? ⟨w.heap.size, 2, none⟩ = some (.int .i64 e) := by
  refine ⟨?_, ?_, ?_⟩
  · rw [hb.cell (p := ⟨w.heap.size, 0, none⟩) (by simp)]; simp
  · rw [hb.cell (p := ⟨w.heap.size, 1, none⟩) (by simp)]; simp
  · rw [hb.cell (p := ⟨w.heap.size, 2, none⟩) (by simp)]; simp

set_option maxHeartbeats 800000 in
theorem nearMore_in (neg more : Bool) (v : Value) (e : Int) (N : Nat) (w : World) (h : DN w v N) (hN : N ≠ 0) (hb : nd N ≤ 1000000) (he : -10000000 ≤ e) (he' : e ≤ 10000000) (hf : Hid (farB N e = false)) (R : Int) (hR : Hid ((rnd53 N e more : Int) = R)) (hR0 : 0 ≤ R) (hR1 : R < 18446744073709551616) (hLm : lsb53 N e + 1074 ≤ 3000) :
    Calls Try.prog 39 #[NumV neg v e, .bool more] w fun x w' => x = .returned (.int .u64 (madeI neg R)) ∧ Below w.heap.size w w' := by
  unfold NumV
  have HBox : Hid (Below w.heap.size w (w.alloc (.cells #[.bool neg, v, .int .i64 e] 50))) := (Below.refl w.heap.size w).alloc (Nat.le_refl _) _
  have H1 := hide (h.below HBox.out)
  have HN := hide hN
  have HLm := hide hLm
  clear h hN hLm
  go_enter Try.func39, Try.ntmps39
  go_wp2_with fail
  refine (zero_at _ _ _ N false _ H1.out (decide_eq_false HN.out)).mono ?_
  rintro x w1 ⟨rfl, hb1⟩
  have HB1 := hide hb1
  have H2 := hide (H1.out.below hb1)
  obtain ⟨c0, c1, c2⟩ := box_cells hb1
  clear hb1
  go_wp2_with fail
  refine (far_at _ _ _ N false _ H2.out hb he he' hf).mono ?_
  rintro x w2 ⟨rfl, hb2⟩
  have hz : w.heap.size < w1.heap.size := by have := HB1.out.size; simp at this; omega
  have H3 := hide (H2.out.below hb2)
  have d0 : w2.cell? ⟨w.heap.size, 0, none⟩ = some (.bool neg) := (hb2.cell (p := ⟨w.heap.size, 0, none⟩) hz).trans c0
  have d1 : w2.cell? ⟨w.heap.size, 1, none⟩ = some v := (hb2.cell (p := ⟨w.heap.size, 1, none⟩) hz).trans c1
  have d2 : w2.cell? ⟨w.heap.size, 2, none⟩ = some (.int .i64 e) := (hb2.cell (p := ⟨w.heap.size, 2, none⟩) hz).trans c2
  have HB2 : Hid (Below w.heap.size w w2) := (HBox.out.trans (HB1.out.mono (by simp))).trans (hb2.mono (by omega))
  have hz2 : w.heap.size < w2.heap.size := by have := hb2.size; omega
  have HRd : Hid (∀ w', DN w' v N → Calls Try.prog 57 #[v, .int .i64 e, .bool more, .int .i64 53, .int .i64 (-1074)] w' fun x w'' => x = .returned (.int .u64 R) ∧ Below w'.heap.size w' w'') := fun w' h => by
    have := rounded_any v N e more w' h hb he he' HLm.out
    rw [hR.out] at this; exact this
  clear hb2 c0 c1 c2
  go_wp2_with fail
  go_region_held3 (fun w' => w'.cell? ⟨w.heap.size, 0, none⟩ = some (.bool neg) ∧ w'.cell? ⟨w.heap.size, 1, none⟩ = some v ∧ w'.cell? ⟨w.heap.size, 2, none⟩ = some (.int .i64 e)) (first | exact ⟨d0, d1, d2⟩ | exact ⟨(hb3.cell (p := ⟨w.heap.size, 0, none⟩) hz2).trans d0, (hb3.cell (p := ⟨w.heap.size, 1, none⟩) hz2).trans d1, (hb3.cell (p := ⟨w.heap.size, 2, none⟩) hz2).trans d2⟩ | go_keep) (first | ((go_at_call 57; refine (HRd.out _ (by exact H3.out)).mono ?_; rintro x w3 ⟨rfl, hb3⟩)) | ((go_at_call 56; refine (made_any _ _ _ hR0 hR1).mono ?_; rintro x w4 ⟨rfl, rfl⟩)))
  go_wp2_with fail
  go_ret
  exact ⟨rfl, (HB2.out.drew).trans (hb3.mono (by have h9 : w.heap.size < w2.drew.heap.size := hz2; omega))⟩

set_option maxHeartbeats 1600000 in
theorem nearMore_far (neg more : Bool) (v : Value) (e : Int) (N : Nat) (w : World) (h : DN w v N) (hN : N ≠ 0) (hb : nd N ≤ 1000000) (he : -10000000 ≤ e) (he' : e ≤ 10000000) (hf : Hid (farB N e = true)) :
    Calls Try.prog 39 #[NumV neg v e, .bool more] w fun x w' => x = .returned (.int .u64 (if 0 < e ∨ 0 < (bl N : Int) + e then madeI neg 9218868437227405312 else madeI neg 0)) ∧ Below w.heap.size w w' := by
  unfold NumV
  have HBox : Hid (Below w.heap.size w (w.alloc (.cells #[.bool neg, v, .int .i64 e] 50))) := (Below.refl w.heap.size w).alloc (Nat.le_refl _) _
  have H1 := hide (h.below HBox.out)
  have HN := hide hN
  have hbl := bl_nd N
  clear h hN
  generalize hB : (bl N : Int) = B
  have HB := hide hB
  have hB0 : 0 ≤ B := by omega
  have hB1 : B ≤ 32000000 := by omega
  clear hB hbl
  have w1 : IntKind.i64.wrap (B + e) = B + e := by rw [IntKind.wrap_i64]; omega
  have hcase : (0 < e ∧ decide (0 < e) = true) ∨ (decide (0 < e) = false ∧ 0 < B + e ∧ ¬ 0 < e) ∨ (decide (0 < e) = false ∧ ¬ 0 < B + e ∧ ¬ 0 < e) := by
    by_cases h1 : 0 < e
    · exact Or.inl ⟨h1, by simpa using h1⟩
    · by_cases h2 : 0 < B + e
      · exact Or.inr (Or.inl ⟨by simpa using h1, h2, h1⟩)
      · exact Or.inr (Or.inr ⟨by simpa using h1, h2, h1⟩)
  rcases hcase with ⟨g1, g2⟩ | ⟨g1, g2, g3⟩ | ⟨g1, g2, g3⟩
  all_goals first | rw [if_pos (Or.inl g1)] | rw [if_pos (Or.inr g2)] | rw [if_neg (fun h => h.elim g3 g2)]
  all_goals
    go_enter Try.func39, Try.ntmps39
    go_wp2_with fail
    refine (zero_at _ _ _ N false _ H1.out (decide_eq_false HN.out)).mono ?_
    rintro x w1 ⟨rfl, hb1⟩
    have HB1 := hide hb1
    have H2 := hide (H1.out.below hb1)
    obtain ⟨c0, c1, c2⟩ := box_cells hb1
    clear hb1
    go_wp2_with fail
    refine (far_at _ _ _ N true _ H2.out hb he he' hf).mono ?_
    rintro x w2 ⟨rfl, hb2⟩
    have hz : w.heap.size < w1.heap.size := by have := HB1.out.size; simp at this; omega
    have H3 := hide (H2.out.below hb2)
    have d0 : w2.cell? ⟨w.heap.size, 0, none⟩ = some (.bool neg) := (hb2.cell (p := ⟨w.heap.size, 0, none⟩) hz).trans c0
    have d1 : w2.cell? ⟨w.heap.size, 1, none⟩ = some v := (hb2.cell (p := ⟨w.heap.size, 1, none⟩) hz).trans c1
    have d2 : w2.cell? ⟨w.heap.size, 2, none⟩ = some (.int .i64 e) := (hb2.cell (p := ⟨w.heap.size, 2, none⟩) hz).trans c2
    have HB2 : Hid (Below w.heap.size w w2) := (HBox.out.trans (HB1.out.mono (by simp))).trans (hb2.mono (by omega))
    clear hb2 c0 c1 c2
    go_wp2_with fail
    go_quiet ((go_at_call 36; exact Calls.quiet_of_same (len_at v N B _ H3.out (by omega) HB)))
    go_wp2_with (go_at_call 56; refine (made_any _ _ _ (by omega) (by omega)).mono ?_; rintro x w4 ⟨rfl, rfl⟩)
    go_ret
    exact ⟨rfl, below_drewN HB2.out _⟩

theorem lsb_near {N : Nat} {e : Int} (h : farB N e = false) : lsb53 N e + 1074 ≤ 3000 := by
  unfold farB at h
  rw [Bool.or_eq_false_iff] at h
  have h1 := of_decide_eq_false h.1
  unfold lsb53; omega
theorem rnd_lt {N : Nat} {e : Int} {more : Bool} (h : farB N e = false) : rnd53 N e more < 18446744073709551616 := by
  have h1 := lsb_near h
  have h2 := kept_le N e more
  have h3 := lsb_ge N e
  unfold rnd53; omega

theorem nearMore_any (neg more : Bool) (v : Value) (e : Int) (N : Nat) (w : World) (h : DN w v N) (hb : nd N ≤ 1000000) (he : -10000000 ≤ e) (he' : e ≤ 10000000) :
    Calls Try.prog 39 #[NumV neg v e, .bool more] w fun x w' => x = .returned (.int .u64 (nearM neg N e more)) ∧ Below w.heap.size w w' := by
  unfold nearM
  by_cases h0 : N = 0
  · subst h0; rw [if_pos rfl]; exact nearMore_zero neg more v e w h
  · rw [if_neg h0]
    cases hf : farB N e
    · simp only [Bool.false_eq_true, if_false]
      have h1 := rnd_lt (more := more) hf
      exact nearMore_in neg more v e N w h h0 hb he he' hf _ rfl (Int.natCast_nonneg _) (by omega) (lsb_near hf)
    · simp only [if_true]; exact nearMore_far neg more v e N w h h0 hb he he' hf

end Go.Proofs.Ytcbbbkngjdlcjaa
namespace Go.Proofs.Ytcbbbkngjdlcjaa
open Go.RowKit

theorem and1_u64 {E : Int} (h0 : 0 ≤ E) (h1 : E ≤ 18446744073709551615) : bits .and .u64 E 1 = E % 2 := and_one_u64 E h0 h1

/-- What shiftNear reckons, as the walk spells it. -/
def upOne (kept lost : Int) : Int := if 9223372036854775808 < lost ∨ (lost = 9223372036854775808 ∧ kept % 2 = 1) then kept + 1 else kept

theorem lost_eq {u d : Nat} (hd : d ≤ 64) : IntKind.u64.wrap ((u : Int) * 2 ^ (64 - (d : Int)).toNat) = ((u % 2 ^ d * 2 ^ (64 - d) : Nat) : Int) := by
  rw [IntKind.wrap_u64, show (64 - (d : Int)).toNat = 64 - d by omega]
  have e : ((u : Int) * 2 ^ (64 - d)) = ((u * 2 ^ (64 - d) : Nat) : Int) := by rw [Int.natCast_mul, Int.natCast_pow]; rfl
  rw [e]
  have h64 : (18446744073709551616 : Nat) = 2 ^ d * 2 ^ (64 - d) := by rw [← Nat.pow_add, show d + (64 - d) = 64 by omega]
  rw [show (18446744073709551616 : Int) = ((2 ^ d * 2 ^ (64 - d) : Nat) : Int) by rw [← h64]; rfl, ← Int.natCast_emod, Nat.mul_mod_mul_right]
theorem kept_eq {u d : Nat} : (u : Int) / 2 ^ ((d : Int)).toNat = ((u / 2 ^ d : Nat) : Int) := by
  rw [Int.toNat_natCast, Int.natCast_ediv, Int.natCast_pow]; rfl
theorem upOne_rne {u d : Nat} (hd : d ≤ 64) (hd0 : 1 ≤ d) : upOne ((u / 2 ^ d : Nat) : Int) ((u % 2 ^ d * 2 ^ (64 - d) : Nat) : Int) = (rne u d : Int) := by
  unfold upOne rne
  have hp : 0 < 2 ^ (64 - d) := Nat.two_pow_pos _
  have h63 : (9223372036854775808 : Nat) * 2 = 2 ^ d * 2 ^ (64 - d) := by rw [← Nat.pow_add, show d + (64 - d) = 64 by omega]
  have f1 : (9223372036854775808 : Int) < ((u % 2 ^ d * 2 ^ (64 - d) : Nat) : Int) ↔ 2 ^ d < 2 * (u % 2 ^ d) := by
    rw [← Nat.mul_lt_mul_right hp, Nat.mul_assoc]; omega
  have f2 : ((u % 2 ^ d * 2 ^ (64 - d) : Nat) : Int) = (9223372036854775808 : Int) ↔ 2 ^ d = 2 * (u % 2 ^ d) := by
    constructor
    · intro h; apply Nat.eq_of_mul_eq_mul_right hp; rw [Nat.mul_assoc]; omega
    · intro h
      have : 2 ^ d * 2 ^ (64 - d) = 2 * (u % 2 ^ d) * 2 ^ (64 - d) := congrArg (· * 2 ^ (64 - d)) h
      rw [Nat.mul_assoc] at this; omega
  have f3 : ((u / 2 ^ d : Nat) : Int) % 2 = 1 ↔ u / 2 ^ d % 2 = 1 := by omega
  simp only [f1, f2, f3]
  split <;> omega

/-- What Join tells, as bits. -/
def joinN (m e : Int) : Nat := if m = 0 then 0 else if m < 0 then 9223372036854775808 + nearR m.natAbs e else nearR m.natAbs e
end Go.Proofs.Ytcbbbkngjdlcjaa
