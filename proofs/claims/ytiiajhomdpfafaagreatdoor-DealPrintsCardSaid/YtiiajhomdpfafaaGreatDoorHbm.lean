/- text.Hex at any number. text.Hex at any float. What readHex reads of a number's own text, in plain words. Hexadecimal digits, one by one: the same as without the noughts at the end. -/
import Derived.Test.YtiiajhomdpfafaaGreatDoorHbl
import Derived.Lib.AppendIntMem
import Derived.Lib.ItoaNum
import Derived.Test.YtiiajhomdpfafaaGreatDoorHau
import Derived.Test.YtiiajhomdpfafaaGreatDoorHae
import Derived.Test.YtiiajhomdpfafaaGreatDoorHak
namespace Go.Proofs.YtiiajhomdpfafaaGreatDoor
open Go.RowKit

def bsA (l : List UInt8) : ByteArray := ⟨l.toArray⟩
theorem bs_app (a b : List UInt8) : bsA a ++ bsA b = bsA (a ++ b) := by
  apply ByteArray.ext
  show (bsA a ++ bsA b).data = _
  rw [ByteArray.data_append]
  simp [bsA]
theorem bs_toList (l : List UInt8) : (bsA l).data.toList = l := by simp [bsA]
theorem bs_size (l : List UInt8) : (bsA l).size = l.length := by simp [bsA, ByteArray.size]
theorem bs_drop (l : List UInt8) (n : Nat) (hn : l.length = n) : (bsA l).extract 1 n = bsA (l.drop 1) := by
  apply ByteArray.ext
  rw [ByteArray.data_extract]
  simp only [bsA, ← hn, List.extract_toArray, List.extract_eq_take_drop, List.drop_one]
  congr 1
  exact List.take_of_length_le (by simp)
def hexQ (T : List UInt8) (P : Int) : List UInt8 := (if T = [] then [] else 46 :: T) ++ ((if P < 0 then [112] else [112, 43]) ++ Lib.itoa P)
def trimH (M : Nat) : List UInt8 := Lib.trimRightB (((hxL 13 M).map UInt8.ofNat).drop 1) 48
theorem itoaB (n : Int) (h0 : -9223372036854775808 ≤ n) (h1 : n ≤ 9223372036854775807) (w : World) (hT : Lib.TabIs Tryz.prog w "internal/strconv.uint64pow10" .u64 Lib.pow10Tab) :
    Calls Tryz.prog 83 #[.int .i64 n] w fun e w' => e = .returned (.string (bsA (Lib.itoa n))) ∧ Below w.heap.size w w' := by
  refine (Any.strconv_Itoa Tryz.laysM171 n h0 h1 w hT).mono ?_
  rintro e w' ⟨rfl, k, os, rfl⟩
  exact ⟨rfl, Lib.below_grow _ _ (Nat.le_refl _) _ _⟩
theorem fu52 (M : Nat) (h0 : 4503599627370496 ≤ M) (h1 : M < 9007199254740992) (w : World) (h : w.cell? ⟨12, 15, none⟩ = some (.int .u8 4)) : Calls Tryz.prog 153 #[.int .u64 (M : Int), .int .i64 16] w fun e w' => e = .returned (.string (bsA ((hxL 13 M).map UInt8.ofNat))) ∧ Below w.heap.size w w' := by
  have e : (16 : Nat) ^ 13 = 4503599627370496 := by decide
  refine fu16 M 13 (by omega) (by decide) (by rw [e]; omega) (fun k hk => ?_) w h
  have e2 : 16 * 16 ^ k ≤ 16 ^ 13 := by rw [Nat.mul_comm, ← Nat.pow_succ]; exact Nat.pow_le_pow_right (by decide) hk
  exact (Nat.le_div_iff_mul_le (Nat.pow_pos (by decide))).2 (by omega)
theorem dec_len : ∀ (k u : Nat), u < 10 ^ (k + 1) → (Lib.decDigits u).length ≤ k + 1
  | 0, u, h => by rw [Lib.decDigits, dif_pos (by simpa using h)]; simp
  | k + 1, u, h => by
    by_cases h10 : u < 10
    · rw [Lib.decDigits, dif_pos h10]; simp
    · rw [Lib.decDigits, dif_neg h10, List.length_append, List.length_singleton]
      have := dec_len k (u / 10) (by rw [Nat.pow_succ] at h; omega)
      omega
theorem itoa_len (n : Int) (h0 : -5000 ≤ n) (h1 : n ≤ 5000) : (Lib.itoa n).length ≤ 100 := by
  unfold Lib.itoa
  split
  · have := dec_len 4 n.natAbs (by omega)
    rw [List.length_cons]
    omega
  · have := dec_len 4 n.toNat (by omega)
    omega
set_option maxRecDepth 20000 in
set_option maxHeartbeats 6400000 in
theorem tail_any (m k : Nat) (T : List UInt8) (hT : trimH (m * 2 ^ k) = T) (hTl : T.length ≤ 100) (e : Int) (hm0 : 4503599627370496 ≤ m * 2 ^ k) (hm1 : m * 2 ^ k < 9007199254740992) (he0 : -1100 ≤ e) (he1 : e ≤ 1000) (hk : k ≤ 52) (w : World) (h : w.cell? ⟨12, 15, none⟩ = some (.int .u8 4)) (hTb : Lib.TabBelow Tryz.prog w.heap.size w "internal/strconv.uint64pow10" .u64 Lib.pow10Tab) :
    Calls Tryz.prog 112 #[.int .u64 (m : Int), .int .i64 e] w fun e' w' => e' = .returned (.string (bsA (hexQ T (e - k + 52)))) ∧ Below w.heap.size w w' := by
  have HF := hidT (fu52 (m * 2 ^ k) hm0 hm1 w h)
  have HT := hidT hTb
  have HM := hidT (And.intro hm0 hm1)
  clear h hTb
  go_enter Tryz.func112, Tryz.ntmps112
  go_wp2_with fail
  go_loopw [0, 1] (fun mv ev wr => ∃ j : Nat, j ≤ k ∧ mv = .int .u64 ((m * 2 ^ j : Nat) : Int) ∧ ev = .int .i64 (e - (j : Int)) ∧ Hid (wr = w)) (fun _ ev _ => (intOf ev + 2000).toNat)
  case atStart => exact ⟨0, Nat.zero_le _, by simp, by simp, rfl⟩
  case round =>
    obtain ⟨j, hj, rfl, rfl, HW⟩ := hrel
    have hww := HW.out
    subst hww
    by_cases hlt : j < k
    · have HS : Hid (m * 2 ^ (j + 1) = m * 2 ^ j * 2) := by show _ = _; rw [Nat.pow_succ, Nat.mul_assoc]
      have hX : m * 2 ^ j < 4503599627370496 := by
        have h2 : m * 2 ^ (j + 1) ≤ m * 2 ^ k := Nat.mul_le_mul_left _ (Nat.pow_le_pow_right (by decide) hlt)
        have := HS.out
        omega
      obtain ⟨X, hXX⟩ : ∃ X, m * 2 ^ j = X := ⟨_, rfl⟩
      rw [hXX] at hX HS ⊢
      have q0 : (X : Int) / 4503599627370496 = 0 := by omega
      have q1 : IntKind.u64.wrap ((X : Int) * 2) = (X : Int) * 2 := by rw [IntKind.wrap_u64]; omega
      have q2 : (j : Int) ≤ 52 := by omega
      clear hm0 hm1 hXX
      go_wp2_with fail
      go_roundw
      case rel => exact ⟨j + 1, hlt, by rw [HS.out]; simp, by simp; omega, by first | exact rfl | exact trivial⟩
      case measure => simp [intOf]; omega
    · obtain rfl : j = k := by omega
      obtain ⟨M, hMM⟩ : ∃ M, m * 2 ^ j = M := ⟨_, rfl⟩
      rw [hMM] at HM HF hm0 hm1 hT ⊢
      have q0 : (M : Int) / 4503599627370496 = 1 := by omega
      have hlen : (((hxL 13 M).map UInt8.ofNat)).length = 14 := by rw [List.length_map, hxL_len]
      obtain ⟨L, hL⟩ : ∃ L, (hxL 13 M).map UInt8.ofNat = L := ⟨_, rfl⟩
      unfold trimH at hT
      rw [hL] at hT
      rw [hL] at HF hlen
      have hsz : (bsA L).size = 14 := by rw [bs_size]; exact hlen
      clear hMM hL
      go_wp2_with fail
      refine HF.out.mono ?_
      rintro e' w1 ⟨rfl, hb⟩
      have HB := hidT hb
      clear hb
      go_wp2_with fail
      have HTr : Hid (Calls Tryz.prog 152 #[.string ((bsA L).extract 1 14), .string ⟨#[48]⟩] w1 fun e w' => e = .returned (.string (bsA (Lib.trimRightB (L.drop 1) 48))) ∧ w' = w1) := by
        rw [bs_drop L 14 hlen]
        have := trim_one (bsA (L.drop 1)) w1 (by rw [bs_size, List.length_drop, hlen]; decide)
        rw [bs_toList] at this
        exact this
      refine HTr.out.mono ?_
      rintro e' w2 ⟨rfl, hw2⟩
      subst hw2
      rw [hT]
      obtain ⟨E, hE⟩ : ∃ E : Int, e - (j : Int) = E := ⟨_, rfl⟩
      have p0 : -1152 ≤ E := by omega
      have p1 : E ≤ 1000 := by omega
      have HIt := hidT (itoaB (E + 52) (by omega) (by omega) w2 (HT.out w2 HB.out))
      have HEv := hidT hE
      rw [hE]
      clear hsz hT HTr HF he0 he1 hE
      obtain ⟨ST, hST⟩ : ∃ ST, bsA T = ST := ⟨_, rfl⟩
      obtain ⟨SI, hSI⟩ : ∃ SI, bsA (Lib.itoa (E + 52)) = SI := ⟨_, rfl⟩
      obtain ⟨nT, hnT⟩ : ∃ nT, ST.size = nT := ⟨_, rfl⟩
      obtain ⟨nI, hnI⟩ : ∃ nI, SI.size = nI := ⟨_, rfl⟩
      have hnT2 : nT ≤ 100 := by rw [← hnT, ← hST, bs_size]; exact hTl
      have hnI2 : nI ≤ 100 := by rw [← hnI, ← hSI, bs_size]; exact itoa_len _ (by omega) (by omega)
      rw [hST]
      rw [hSI] at HIt
      have HST := hidT (And.intro hST hSI)
      have g1 : ¬ 9223372036854775807 < 1 + nT := by omega
      have g2 : ¬ 9223372036854775807 < nT + 1 := by omega
      have g3 : ¬ 9223372036854775807 < nT + 2 := by omega
      have g4 : ¬ 9223372036854775807 < nT + 1 + nI := by omega
      have g5 : ¬ 9223372036854775807 < nT + 2 + nI := by omega
      have g6 : ¬ 9223372036854775807 < 1 + nT + 1 := by omega
      have g7 : ¬ 9223372036854775807 < 1 + nT + 2 := by omega
      have g8 : ¬ 9223372036854775807 < 1 + nT + 1 + nI := by omega
      have g9 : ¬ 9223372036854775807 < 1 + nT + 2 + nI := by omega
      have HFin : Hid (∀ l : List UInt8, l = hexQ T (E + 52) → ∀ X, X = bsA l → Ending.returned (.string X) = .returned (.string (bsA (hexQ T (e - (j : Int) + 52))))) := fun l hl X hX => by rw [hX, hl, HEv.out]
      clear hST hSI
      have HT0 : Hid (T = [] ∨ T ≠ []) := by by_cases h : T = [] <;> simp [Hid, h]
      rcases HT0.out with hT0 | hT0
      · have n0 : ST.toList.isEmpty = true := by rw [← HST.out.1, Lib.toList_data, bs_toList, hT0]; rfl
        by_cases hp : E + 52 < 0
        · go_wp2_with ((go_at_call 83; refine HIt.out.mono ?_; rintro e' w3 ⟨rfl, hb3⟩; have HB3 := hidT (HB.out.trans (hb3.mono HB.out.size)); clear hb3))
          go_ret
          refine ⟨HFin.out ((T ++ [112]) ++ Lib.itoa (E + 52)) (by unfold hexQ; rw [if_pos hT0, if_pos hp, hT0]; simp) _ ?_, HB3.out⟩
          rw [← HST.out.1, ← HST.out.2]
          show (bsA T ++ bsA [112]) ++ bsA (Lib.itoa (E + 52)) = _
          rw [bs_app, bs_app]
        · go_wp2_with ((go_at_call 83; refine HIt.out.mono ?_; rintro e' w3 ⟨rfl, hb3⟩; have HB3 := hidT (HB.out.trans (hb3.mono HB.out.size)); clear hb3))
          go_ret
          refine ⟨HFin.out ((T ++ [112, 43]) ++ Lib.itoa (E + 52)) (by unfold hexQ; rw [if_pos hT0, if_neg (by omega), hT0]; simp) _ ?_, HB3.out⟩
          rw [← HST.out.1, ← HST.out.2]
          show (bsA T ++ bsA [112, 43]) ++ bsA (Lib.itoa (E + 52)) = _
          rw [bs_app, bs_app]
      · have n0 : ST.toList.isEmpty = false := by
          rw [← HST.out.1, Lib.toList_data, bs_toList]
          cases T with
          | nil => exact absurd rfl hT0
          | cons c r => rfl
        by_cases hp : E + 52 < 0
        · go_wp2_with ((go_at_call 83; refine HIt.out.mono ?_; rintro e' w3 ⟨rfl, hb3⟩; have HB3 := hidT (HB.out.trans (hb3.mono HB.out.size)); clear hb3))
          go_ret
          refine ⟨HFin.out ((([46] ++ T) ++ [112]) ++ Lib.itoa (E + 52)) (by unfold hexQ; rw [if_neg hT0, if_pos hp]; simp) _ ?_, HB3.out⟩
          rw [← HST.out.1, ← HST.out.2]
          show ((bsA [46] ++ bsA T) ++ bsA [112]) ++ bsA (Lib.itoa (E + 52)) = _
          rw [bs_app, bs_app, bs_app]
        · go_wp2_with ((go_at_call 83; refine HIt.out.mono ?_; rintro e' w3 ⟨rfl, hb3⟩; have HB3 := hidT (HB.out.trans (hb3.mono HB.out.size)); clear hb3))
          go_ret
          refine ⟨HFin.out ((([46] ++ T) ++ [112, 43]) ++ Lib.itoa (E + 52)) (by unfold hexQ; rw [if_neg hT0, if_neg (by omega)]; simp) _ ?_, HB3.out⟩
          rw [← HST.out.1, ← HST.out.2]
          show ((bsA [46] ++ bsA T) ++ bsA [112, 43]) ++ bsA (Lib.itoa (E + 52)) = _
          rw [bs_app, bs_app, bs_app]
end Go.Proofs.YtiiajhomdpfafaaGreatDoor
namespace Go.Proofs.YtiiajhomdpfafaaGreatDoor
open Go.RowKit

def upK (m : Nat) : Nat := 52 - m.log2
def hexS (u : Nat) : List UInt8 :=
  (if sgB u then [45] else []) ++ (if szI u = 0 then [48, 120, 48, 112, 43, 48] else [48, 120, 49] ++ hexQ (trimH ((magI (szI u)).toNat * 2 ^ upK (magI (szI u)).toNat)) (splE u - upK (magI (szI u)).toNat + 52))
theorem up_range {m : Nat} (h0 : 0 < m) (h1 : m < 9007199254740992) : 4503599627370496 ≤ m * 2 ^ upK m ∧ m * 2 ^ upK m < 9007199254740992 ∧ upK m ≤ 52 := by
  have hl : m.log2 ≤ 52 := by
    have := (Nat.log2_lt (n := m) (k := 53) (by omega)).2 (by simpa using h1)
    omega
  have ha := Nat.log2_self_le (n := m) (by omega)
  have hb : m < 2 ^ (m.log2 + 1) := Nat.lt_log2_self
  unfold upK
  have e1 : 2 ^ m.log2 * 2 ^ (52 - m.log2) = 4503599627370496 := by rw [← Nat.pow_add, show m.log2 + (52 - m.log2) = 52 by omega]
  have e2 : 2 ^ (m.log2 + 1) * 2 ^ (52 - m.log2) = 9007199254740992 := by rw [← Nat.pow_add, show m.log2 + 1 + (52 - m.log2) = 53 by omega]
  refine ⟨?_, ?_, by omega⟩
  · rw [← e1]; exact Nat.mul_le_mul_right _ ha
  · rw [← e2]; exact Nat.mul_lt_mul_of_pos_right hb (Nat.pow_pos (by decide))
theorem trimH_len (M : Nat) : (trimH M).length ≤ 100 := by
  unfold trimH Lib.trimRightB
  rw [List.length_reverse]
  refine Nat.le_trans (List.Sublist.length_le (List.dropWhile_sublist _)) ?_
  rw [List.length_reverse, List.length_drop, List.length_map, hxL_len]
  decide
theorem ret2_bs {a b : ByteArray} (h : a = b) : Ending.returned (.tuple #[.string a, .int .i64 0]) = .returned (.tuple #[.string b, .int .i64 0]) := by rw [h]
theorem hexQ_len (T : List UInt8) (P : Int) (hT : T.length ≤ 100) (h0 : -5000 ≤ P) (h1 : P ≤ 5000) : (hexQ T P).length ≤ 300 := by
  have := itoa_len P h0 h1
  unfold hexQ
  split <;> split <;> simp <;> omega
set_option maxRecDepth 20000 in
set_option maxHeartbeats 6400000 in
theorem hex_ok (b : Nat) (hb : U64 b) (h : splOk b = true) (w : World) (hd : w.cell? ⟨12, 15, none⟩ = some (.int .u8 4)) (hTb : Lib.TabBelow Tryz.prog w.heap.size w "internal/strconv.uint64pow10" .u64 Lib.pow10Tab) :
    Calls Tryz.prog 75 #[.float .f64 b] w fun e w' => e = .returned (.tuple #[.string (bsA (hexS b)), .int .i64 0]) ∧ Below w.heap.size w w' := by
  have hz : szI (b : Int) < 9218868437227405312 := of_decide_eq_true h
  have hnn : nanB (b : Int) = false := by unfold nanB; exact decide_eq_false (by omega)
  have hS : Hid (∀ w, Calls Tryz.prog 110 #[.float .f64 b] w fun r w' => r = .returned (.tuple #[.int .i64 (splM b), .int .i64 (splE b), .bool true]) ∧ w' = w) := fun w => by
    have := split_as b b w rfl hb
    rw [h] at this
    exact this
  have hN : Hid (∀ w, Calls Tryz.prog 111 #[.float .f64 b] w fun r w' => r = .returned (.bool (sgB b)) ∧ w' = w) := fun w => by
    have := negative_any b w hb
    rw [hnn] at this
    simpa using this
  have hlo := szI_lo (b : Int)
  by_cases h0 : szI (b : Int) = 0
  · have hm : splM (b : Int) = 0 := by unfold splM magI; rw [h0]; simp
    rw [hm] at hS
    have HR : Hid (hexS b = (if sgB b then [45] else []) ++ [48, 120, 48, 112, 43, 48]) := by show _ = _; unfold hexS; rw [if_pos h0]
    generalize hexS b = R at HR ⊢
    generalize splE b = e at hS
    clear h0 hm hz hnn hlo h hb hd hTb
    cases hs : sgB (b : Int)
    all_goals
      rw [hs] at hN HR
      clear hs
      go_enter Tryz.func75, Tryz.ntmps75
      go_wp2_with (first | (go_at_call 110; refine (hS.out _).mono ?_; rintro e w2 ⟨rfl, rfl⟩) | (go_at_call 111; refine (hN.out _).mono ?_; rintro e w2 ⟨rfl, rfl⟩))
      go_ret2
      exact ⟨by rw [HR.out]; rfl, Below.refl _ _⟩
  · obtain ⟨m, hm⟩ : ∃ m, (magI (szI (b : Int))).toNat = m := ⟨_, rfl⟩
    have hmI : magI (szI (b : Int)) = (m : Int) ∧ 0 < m ∧ m < 9007199254740992 := by
      rw [← hm]; unfold magI; split <;> omega
    obtain ⟨E, hE⟩ : ∃ E, splE (b : Int) = E := ⟨_, rfl⟩
    have hEb : -1074 ≤ E ∧ E ≤ 971 := by
      rw [← hE]; unfold splE plcI; rw [h]; simp only [h0, ne_eq, not_false_eq_true, decide_true, Bool.and_true, if_true]; split <;> omega
    obtain ⟨r1, r2, r3⟩ := up_range hmI.2.1 hmI.2.2
    have hM : splM (b : Int) = if sgB (b : Int) then -(m : Int) else (m : Int) := by unfold splM; rw [h, hmI.1]; rfl
    have HTl := hidT (tail_any m (upK m) _ rfl (trimH_len _) E r1 r2 (by omega) (by omega) r3 w hd hTb)
    have HR : Hid (hexS b = (if sgB b then [45] else []) ++ ([48, 120, 49] ++ hexQ (trimH (m * 2 ^ upK m)) (E - upK m + 52))) := by show _ = _; unfold hexS; rw [if_neg h0, hm, hE]
    have hql := hexQ_len (trimH (m * 2 ^ upK m)) (E - upK m + 52) (trimH_len _) (by omega) (by omega)
    generalize hexQ (trimH (m * 2 ^ upK m)) (E - upK m + 52) = Q at HTl HR hql
    generalize hexS b = R at HR ⊢
    obtain ⟨SQ, hSQ⟩ : ∃ SQ, bsA Q = SQ := ⟨_, rfl⟩
    obtain ⟨nQ, hnQ⟩ : ∃ nQ, SQ.size = nQ := ⟨_, rfl⟩
    have hnQ2 : nQ ≤ 300 := by rw [← hnQ, ← hSQ, bs_size]; exact hql
    rw [hSQ] at HTl
    have HSQ := hidT hSQ
    rw [hM, hE] at hS
    have m0 : (0 : Int) < (m : Int) := by omega
    have m1 : (m : Int) < 9007199254740992 := by omega
    have g1 : ¬ 9223372036854775807 < 3 + nQ := by omega
    have g2 : ¬ 9223372036854775807 < 4 + nQ := by omega
    have g3 : ¬ 9223372036854775807 < 1 + 3 + nQ := by omega
    have x1 : max (m : Int) (-(m : Int)) = (m : Int) := by omega
    have x2 : max (-(m : Int)) (m : Int) = (m : Int) := by omega
    have x3 : ((m : Int) == 0) = false := beq_eq_false_iff_ne.2 (by omega)
    have x4 : ((-(m : Int)) == 0) = false := beq_eq_false_iff_ne.2 (by omega)
    have x5 : m ≠ 0 := by omega
    have x6 : IntKind.u64.wrap (m : Int) = (m : Int) := by rw [IntKind.wrap_u64]; omega
    clear h0 hm hz hnn hlo h hb hd hTb hE hmI hEb r1 r2 r3 hM hql hSQ
    cases hs : sgB (b : Int)
    all_goals
      rw [hs] at hN HR hS
      clear hs
      simp only [if_true, Bool.false_eq_true, if_false] at hS
      go_enter Tryz.func75, Tryz.ntmps75
      go_wp2_with (first | (go_at_call 110; refine (hS.out _).mono ?_; rintro e w2 ⟨rfl, rfl⟩) | (go_at_call 111; refine (hN.out _).mono ?_; rintro e w2 ⟨rfl, rfl⟩) | (go_at_call 112; refine HTl.out.mono ?_; rintro e w3 ⟨rfl, hb3⟩; have HB3 := hidT hb3; clear hb3))
      go_ret2
      refine ⟨?_, HB3.out⟩
      rw [HR.out, ← HSQ.out]
      first | exact ret2_bs (by show (bsA [] ++ bsA [48, 120, 49]) ++ bsA Q = _; rw [bs_app, bs_app]; rfl) | exact ret2_bs (by show (bsA [45] ++ bsA [48, 120, 49]) ++ bsA Q = _; rw [bs_app, bs_app]; rfl)
end Go.Proofs.YtiiajhomdpfafaaGreatDoor
namespace Go.Proofs.YtiiajhomdpfafaaGreatDoor
open Go.RowKit

def hxW (acc : Nat) : List UInt8 → Nat
  | [] => acc
  | c :: r => hxW (acc * 16 + hxV c.toNat) r
theorem hxW_snoc : ∀ (l : List UInt8) (acc : Nat) (c : UInt8), hxW acc (l ++ [c]) = hxW acc l * 16 + hxV c.toNat
  | [], _, _ => rfl
  | _ :: l, _, c => hxW_snoc l _ c
theorem hxW_app : ∀ (l z : List UInt8) (acc : Nat), hxW acc (l ++ z) = hxW (hxW acc l) z
  | [], _, _ => rfl
  | _ :: l, z, _ => hxW_app l z _
theorem hxW_zeros : ∀ (z : List UInt8) (acc : Nat), (∀ x ∈ z, x = 48) → hxW acc z = acc * 16 ^ z.length
  | [], acc, _ => by simp [hxW]
  | x :: z, acc, h => by
    have hx := h x (by simp)
    subst hx
    show hxW (acc * 16 + hxV (48 : UInt8).toNat) z = _
    rw [show hxV (48 : UInt8).toNat = 0 from by decide, hxW_zeros z _ (fun x hx => h x (by simp [hx])), List.length_cons, Nat.pow_succ', Nat.add_zero, Nat.mul_assoc]
theorem hxD_val : ∀ d : Fin 16, hxV (UInt8.ofNat (hxD d.val)).toNat = d.val ∧ hxB (UInt8.ofNat (hxD d.val)).toNat = true := by decide
theorem hxL_val : ∀ (k u : Nat), u < 16 ^ (k + 1) → hxW 0 ((hxL k u).map UInt8.ofNat) = u ∧ ∀ c ∈ (hxL k u).map UInt8.ofNat, hxB c.toNat = true
  | 0, u, h => by
    have := hxD_val ⟨u, by simpa using h⟩
    refine ⟨?_, fun c hc => ?_⟩
    · show 0 * 16 + hxV (UInt8.ofNat (hxD u)).toNat = u
      rw [this.1]; simp
    · rw [hxL, List.map_singleton, List.mem_singleton] at hc
      rw [hc]; exact this.2
  | k + 1, u, h => by
    have ih := hxL_val k (u / 16) (by rw [Nat.pow_succ] at h; omega)
    have hd := hxD_val ⟨u % 16, Nat.mod_lt _ (by decide)⟩
    refine ⟨?_, fun c hc => ?_⟩
    · rw [hxL, List.map_append, List.map_singleton, hxW_snoc, ih.1, hd.1]
      simp only []
      omega
    · rw [hxL, List.map_append, List.map_singleton, List.mem_append, List.mem_singleton] at hc
      rcases hc with hc | hc
      · exact ih.2 c hc
      · rw [hc]; exact hd.2
theorem trim_parts (l : List UInt8) (c : UInt8) : ∃ z, l = Lib.trimRightB l c ++ z ∧ ∀ x ∈ z, x = c := by
  refine ⟨(l.reverse.takeWhile (· == c)).reverse, ?_, fun x hx => ?_⟩
  · unfold Lib.trimRightB
    rw [← List.reverse_append, List.takeWhile_append_dropWhile, List.reverse_reverse]
  · rw [List.mem_reverse] at hx
    have := List.all_takeWhile (p := (· == c)) (l := l.reverse)
    rw [List.all_eq_true] at this
    simpa using this x hx
theorem trimH_val (M : Nat) (h0 : 4503599627370496 ≤ M) (h1 : M < 9007199254740992) : (trimH M).length ≤ 13 ∧ (∀ c ∈ trimH M, hxB c.toNat = true) ∧ hxW 1 (trimH M) * 2 ^ (52 - 4 * (trimH M).length) = M := by
  obtain ⟨hv, hb⟩ := hxL_val 13 M (by have : (16 : Nat) ^ (13 + 1) = 72057594037927936 := by decide
                                      omega)
  obtain ⟨L, hL⟩ : ∃ L, (hxL 13 M).map UInt8.ofNat = L := ⟨_, rfl⟩
  have hlen : L.length = 14 := by rw [← hL, List.length_map, hxL_len]
  have hh : L[0]? = some 49 := by
    rw [← hL, List.getElem?_map, hxL_head]
    have : M / 16 ^ 13 = 1 := by
      have e : (16 : Nat) ^ 13 = 4503599627370496 := by decide
      omega
    rw [this]; rfl
  have ht : trimH M = Lib.trimRightB (L.drop 1) 48 := by unfold trimH; rw [hL]
  rw [hL] at hv hb
  obtain ⟨T, hT⟩ : ∃ T, trimH M = T := ⟨_, rfl⟩
  obtain ⟨z, hz1, hz2⟩ := trim_parts (L.drop 1) 48
  rw [← ht, hT] at hz1
  rw [hT]
  have hl13 : T.length + z.length = 13 := by
    have := congrArg List.length hz1
    rw [List.length_drop, hlen, List.length_append] at this
    omega
  cases L with
  | nil => cases hlen
  | cons a r =>
    have ha : a = 49 := by simpa using hh
    subst ha
    have hr : r = T ++ z := hz1
    have hone : hxW 0 (49 :: r) = hxW 1 r := by
      show hxW (0 * 16 + hxV (49 : UInt8).toNat) r = _
      rw [show hxV (49 : UInt8).toNat = 1 from by decide]
    have hw : hxW 1 (T ++ z) = M := by rw [← hr, ← hone]; exact hv
    refine ⟨by omega, fun c hc => hb c (by rw [hr]; simp [hc]), ?_⟩
    rw [hxW_app, hxW_zeros z _ hz2] at hw
    have e16 : (16 : Nat) ^ z.length = 2 ^ (52 - 4 * T.length) := by
      have e4 : 4 * z.length = 52 - 4 * T.length := by omega
      rw [← e4, Nat.pow_mul]
    rw [← e16]; exact hw
end Go.Proofs.YtiiajhomdpfafaaGreatDoor
namespace Go.Proofs.YtiiajhomdpfafaaGreatDoor
open Go.RowKit

def dg16 : Nat → Nat → List UInt8
  | 0, _ => []
  | n + 1, m => if m = 0 then [] else UInt8.ofNat (hxD (m / 281474976710656)) :: dg16 n (m % 281474976710656 * 16)
theorem dg16_len : ∀ n m, (dg16 n m).length ≤ n
  | 0, _ => Nat.le_refl _
  | n + 1, m => by
    unfold dg16
    split
    · simp
    · have := dg16_len n (m % 281474976710656 * 16)
      rw [List.length_cons]; omega
theorem nil_val (acc : Nat) : hxW acc [] * 2 ^ (52 - 4 * ([] : List UInt8).length) = acc * 4503599627370496 + 0 := by
  simp [hxW]
theorem dg16_val : ∀ (n m acc : Nat), n ≤ 13 → m < 4503599627370496 → 2 ^ (52 - 4 * n) ∣ m → hxW acc (dg16 n m) * 2 ^ (52 - 4 * (dg16 n m).length) = acc * 4503599627370496 + m ∧ (∀ c ∈ dg16 n m, hxB c.toNat = true) ∧ ∀ r c, dg16 n m = r ++ [c] → c ≠ 48
  | 0, m, acc, _, hm, hd => by
    have hm0 : m = 0 := by
      obtain ⟨k, hk⟩ := hd
      have : (2 : Nat) ^ (52 - 4 * 0) = 4503599627370496 := by decide
      rw [this] at hk
      rcases Nat.eq_zero_or_pos k with h | h
      · rw [h] at hk; omega
      · omega
    subst hm0
    refine ⟨nil_val acc, (fun c hc => by cases hc), (fun r c h => ?_)⟩
    have := congrArg List.length h
    simp [dg16] at this
  | n + 1, m, acc, hn, hm, hd => by
    by_cases h0 : m = 0
    · subst h0
      have e : dg16 (n + 1) 0 = [] := by unfold dg16; rw [if_pos rfl]
      rw [e]
      refine ⟨nil_val acc, (fun c hc => by cases hc), (fun r c h => ?_)⟩
      have := congrArg List.length h
      simp at this
    · have e : dg16 (n + 1) m = UInt8.ofNat (hxD (m / 281474976710656)) :: dg16 n (m % 281474976710656 * 16) := by
        show (if m = 0 then [] else _) = _
        rw [if_neg h0]
      have hdv : m / 281474976710656 < 16 := by omega
      have hx := hxD_val ⟨m / 281474976710656, hdv⟩
      simp only [] at hx
      have hd2 : 2 ^ (52 - 4 * n) ∣ m % 281474976710656 * 16 := by
        have e1 : (2 : Nat) ^ (52 - 4 * n) = 2 ^ (52 - 4 * (n + 1)) * 16 := by
          rw [show (16 : Nat) = 2 ^ 4 from rfl, ← Nat.pow_add]; congr 1; omega
        rw [e1]
        refine Nat.mul_dvd_mul_right ?_ 16
        have e2 : (281474976710656 : Nat) = 2 ^ (52 - 4 * (n + 1)) * 2 ^ (4 * n) := by
          rw [← Nat.pow_add, show 52 - 4 * (n + 1) + 4 * n = 48 by omega]
        exact (Nat.dvd_mod_iff ⟨_, e2⟩).2 hd
      obtain ⟨i1, i2, i3⟩ := dg16_val n (m % 281474976710656 * 16) (acc * 16 + m / 281474976710656) (by omega) (by omega) hd2
      have hl := dg16_len n (m % 281474976710656 * 16)
      rw [e]
      obtain ⟨T, hT⟩ : ∃ T, dg16 n (m % 281474976710656 * 16) = T := ⟨_, rfl⟩
      rw [hT] at i1 i2 i3 hl ⊢
      refine ⟨?_, fun c hc => ?_, fun r c h => ?_⟩
      · show hxW (acc * 16 + hxV (UInt8.ofNat (hxD (m / 281474976710656))).toNat) T * _ = _
        rw [hx.1, List.length_cons]
        have e3 : (2 : Nat) ^ (52 - 4 * T.length) = 2 ^ (52 - 4 * (T.length + 1)) * 16 := by
          rw [show (16 : Nat) = 2 ^ 4 from rfl, ← Nat.pow_add]; congr 1; omega
        rw [e3, ← Nat.mul_assoc] at i1
        omega
      · rcases List.mem_cons.1 hc with h | h
        · rw [h]; exact hx.2
        · exact i2 c h
      · rcases List.eq_nil_or_concat T with h' | ⟨r', c', h'⟩
        · rw [h'] at h
          have hr : r = [] := by
            have := congrArg List.length h
            simp at this
            exact this
          subst hr
          have hc : UInt8.ofNat (hxD (m / 281474976710656)) = c := by simpa using h
          rw [← hc]
          intro h48
          rw [h', show ([] : List UInt8).length = 0 from rfl] at i1
          have i1' : (acc * 16 + m / 281474976710656) * 4503599627370496 = (acc * 16 + m / 281474976710656) * 4503599627370496 + m % 281474976710656 * 16 := i1
          have hv := hx.1
          rw [h48] at hv
          have : hxV (48 : UInt8).toNat = 0 := by decide
          omega
        · have h'' : T = r' ++ [c'] := by rw [h']; simp
          have e4 : UInt8.ofNat (hxD (m / 281474976710656)) :: T = (UInt8.ofNat (hxD (m / 281474976710656)) :: r') ++ [c'] := by rw [h'']; rfl
          rw [e4] at h
          obtain ⟨_, h2⟩ := List.append_inj' h rfl
          have : c' = c := by simpa using h2
          rw [← this]
          exact i3 r' c' h''
theorem hxV_inj {c d : Nat} (hc : hxB c = true) (hd : hxB d = true) (h : hxV c = hxV d) : c = d := by
  unfold hxB dgB at hc hd
  unfold hxV dgB at h
  simp at hc hd
  simp only [decide_eq_true_eq] at h
  split at h <;> split at h <;> omega
theorem hxV_lt {c : Nat} (hc : hxB c = true) : hxV c < 16 := by
  unfold hxB dgB at hc
  unfold hxV dgB
  simp at hc ⊢
  split <;> omega
theorem hxW_inj : ∀ (n : Nat) (S T : List UInt8), S.length = n → T.length = n → (∀ c ∈ S, hxB c.toNat = true) → (∀ c ∈ T, hxB c.toNat = true) → hxW 1 S = hxW 1 T → S = T
  | 0, S, T, h1, h2, _, _, _ => by rw [List.length_eq_zero_iff.1 h1, List.length_eq_zero_iff.1 h2]
  | n + 1, S, T, h1, h2, hS, hT, h => by
    rcases List.eq_nil_or_concat S with e | ⟨s, c, e⟩
    · rw [e] at h1; simp at h1
    · rcases List.eq_nil_or_concat T with e' | ⟨t, d, e'⟩
      · rw [e'] at h2; simp at h2
      · have e : S = s ++ [c] := by rw [e]; simp
        have e' : T = t ++ [d] := by rw [e']; simp
        subst e e'
        rw [hxW_snoc, hxW_snoc] at h
        have hc := hxV_lt (hS c (by simp))
        have hd := hxV_lt (hT d (by simp))
        have hcd : hxV c.toNat = hxV d.toNat := by omega
        have hcd' := UInt8.toNat_inj.1 (hxV_inj (hS c (by simp)) (hT d (by simp)) hcd)
        have := hxW_inj n s t (by simpa using h1) (by simpa using h2) (fun x hx => hS x (by simp [hx])) (fun x hx => hT x (by simp [hx])) (by omega)
        rw [this, hcd']
theorem hx_zero {c : UInt8} (hc : hxB c.toNat = true) (h : hxV c.toNat = 0) : c = 48 := UInt8.toNat_inj.1 (hxV_inj hc (by decide) (h.trans (by decide)))
theorem hx_uniq {S T : List UInt8} (hl : S.length ≤ T.length) (ht : T.length ≤ 13) (hS : ∀ c ∈ S, hxB c.toNat = true) (hT : ∀ c ∈ T, hxB c.toNat = true) (hz : ∀ r c, T = r ++ [c] → c ≠ 48) (h : hxW 1 S * 2 ^ (52 - 4 * S.length) = hxW 1 T * 2 ^ (52 - 4 * T.length)) : S = T := by
  have e : (2 : Nat) ^ (52 - 4 * S.length) = 16 ^ (T.length - S.length) * 2 ^ (52 - 4 * T.length) := by
    rw [show (16 : Nat) = 2 ^ 4 from rfl, ← Nat.pow_mul, ← Nat.pow_add]; congr 1; omega
  rw [e, ← Nat.mul_assoc] at h
  have h' := Nat.eq_of_mul_eq_mul_right (Nat.pow_pos (by decide)) h
  by_cases hlt : S.length < T.length
  · exfalso
    rcases List.eq_nil_or_concat T with e' | ⟨t, d, e'⟩
    · rw [e'] at hlt; simp at hlt
    · have e' : T = t ++ [d] := by rw [e']; simp
      have hd := hT d (by rw [e']; simp)
      rw [show T.length - S.length = (T.length - S.length - 1) + 1 by omega, Nat.pow_succ, ← Nat.mul_assoc] at h'
      have e3 : hxW 1 T = hxW 1 t * 16 + hxV d.toNat := by rw [e', hxW_snoc]
      have := hxV_lt hd
      exact hz t d e' (hx_zero hd (by omega))
  · have e1 : T.length - S.length = 0 := by omega
    rw [e1, Nat.pow_zero, Nat.mul_one] at h'
    exact hxW_inj T.length S T (by omega) rfl hS hT h'
theorem trim_last (l r : List UInt8) (c d : UInt8) (h : Lib.trimRightB l d = r ++ [c]) : c ≠ d := by
  unfold Lib.trimRightB at h
  have h2 : l.reverse.dropWhile (· == d) = c :: r.reverse := by
    have := congrArg List.reverse h
    simpa using this
  intro e
  subst e
  have := List.head?_dropWhile_not (· == c) l.reverse
  rw [h2] at this
  simp at this
theorem trimH_dg {m : Nat} (h : m < 4503599627370496) : trimH (4503599627370496 + m) = dg16 13 m := by
  obtain ⟨t1, t2, t3⟩ := trimH_val (4503599627370496 + m) (by omega) (by omega)
  obtain ⟨d1, d2, d3⟩ := dg16_val 13 m 1 (by decide) h (by simp)
  have dl := dg16_len 13 m
  have hv : hxW 1 (trimH (4503599627370496 + m)) * 2 ^ (52 - 4 * (trimH (4503599627370496 + m)).length) = hxW 1 (dg16 13 m) * 2 ^ (52 - 4 * (dg16 13 m).length) := by rw [t3, d1]
  rcases Nat.le_total (trimH (4503599627370496 + m)).length (dg16 13 m).length with hl | hl
  · exact hx_uniq hl dl t2 d2 d3 hv
  · exact (hx_uniq hl t1 d2 t2 (fun r c e => trim_last _ r c 48 e) hv.symm).symm
end Go.Proofs.YtiiajhomdpfafaaGreatDoor
