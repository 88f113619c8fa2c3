/- text.Unhex at any text. A number's text is read as that number. The walk of TextBack. -/
import Derived.Test.YtbgmbodedjhfoaaGreatDoorHat
import Derived.Test.YtbgmbodedjhfoaaGreatDoorHag
import Derived.Test.YtbgmbodedjhfoaaGreatDoorHan
import Derived.Test.YtbgmbodedjhfoaaGreatDoorHao
namespace Go.Proofs.YtbgmbodedjhfoaaGreatDoor
open Go.RowKit

def ngB (s : ByteArray) : Bool := decide (byN s 0 = 45)
def bdS (s : ByteArray) : ByteArray := if ngB s then s.extract 1 s.size else s
theorem ext_one (s : ByteArray) (h : 1 ≤ s.size) : ((s.extract 0 1).toList == [45]) = ngB s := by
  rw [Lib.toList_data, ByteArray.data_extract]
  unfold ngB
  rw [byN_eq]
  have hl : 1 ≤ s.data.toList.length := by simpa using h
  obtain ⟨d⟩ := s
  obtain ⟨l⟩ := d
  cases l with
  | nil => simp at hl
  | cons c r =>
    have e : ((c :: r).toArray.extract 0 1).toList = [c] := by simp
    show (((c :: r).toArray.extract 0 1).toList == [45]) = decide (((c :: r).getD 0 0).toNat = 45)
    rw [e]
    show ([c] == [45]) = decide (c.toNat = 45)
    by_cases hc : c = 45
    · subst hc; decide
    · have : c.toNat ≠ 45 := fun h => hc (UInt8.toNat_inj.1 h)
      rw [decide_eq_false this]
      simpa using hc
set_option maxRecDepth 20000 in
set_option maxHeartbeats 6400000 in
theorem has_any (s : ByteArray) (w : World) : Calls Tryz.prog 63 #[.string s, .string ⟨#[45]⟩] w fun e w' => e = .returned (.bool (ngB s)) ∧ w' = w := by
  by_cases h : 1 ≤ s.size
  · have t1 : decide ((1 : Int) ≤ (s.size : Int)) = true := decide_eq_true (by omega)
    have hs1 : (1 : Int) ≤ (s.size : Int) := by omega
    rw [← ext_one s h]
    go_enter Tryz.func63, Tryz.ntmps63
    go_wp2_with fail
    go_ret
    exact ⟨rfl, rfl⟩
  · have t1 : decide ((1 : Int) ≤ (s.size : Int)) = false := decide_eq_false (by omega)
    have hs1 : ¬ (1 : Int) ≤ (s.size : Int) := by omega
    have hb : ngB s = false := by unfold ngB byN; rw [dif_neg (by omega)]; decide
    rw [hb]
    go_enter Tryz.func63, Tryz.ntmps63
    go_wp2_with fail
    go_ret
    exact ⟨rfl, rfl⟩
theorem ng_size {s : ByteArray} (h : ngB s = true) : 1 ≤ s.size := by
  unfold ngB byN at h
  split at h
  · omega
  · simp at h
set_option maxRecDepth 20000 in
set_option maxHeartbeats 6400000 in
theorem cutL_any (s : ByteArray) (w : World) : Calls Tryz.prog 41 #[.string s, .string ⟨#[45]⟩] w fun e w' => e = .returned (.tuple #[.string (bdS s), .bool (ngB s)]) ∧ w' = w := by
  have HH := has_any s w
  unfold bdS
  cases hn : ngB s
  · rw [hn] at HH
    simp only [Bool.false_eq_true, if_false]
    go_enter Tryz.func41, Tryz.ntmps41
    go_wp2_with fail
    refine (turned0 HH).mono ?_
    rintro e9 w9 ⟨rfl, rfl⟩
    go_wp2_with fail
    go_ret2
    exact ⟨rfl, rfl⟩
  · rw [hn] at HH
    simp only [if_true]
    have hz := ng_size hn
    have hs1 : (1 : Int) ≤ (s.size : Int) := by omega
    go_enter Tryz.func41, Tryz.ntmps41
    go_wp2_with fail
    refine (turned0 HH).mono ?_
    rintro e9 w9 ⟨rfl, rfl⟩
    go_wp2_with fail
    go_ret2
    exact ⟨rfl, rfl⟩
set_option maxRecDepth 20000 in
set_option maxHeartbeats 6400000 in
theorem cut_any (s : ByteArray) (w : World) : Calls Tryz.prog 21 #[.string s, .string ⟨#[45]⟩] w fun e w' => e = .returned (.tuple #[.string (bdS s), .bool (ngB s)]) ∧ w' = w := by
  have HH := cutL_any s w
  generalize bdS s = B at *
  generalize ngB s = N at *
  go_enter Tryz.func21, Tryz.ntmps21
  go_wp2_with fail
  refine (turned0 HH).mono ?_
  rintro e9 w9 ⟨rfl, rfl⟩
  go_wp2_with fail
  go_ret2
  exact ⟨rfl, rfl⟩
theorem dgF_lt (s : ByteArray) : ∀ (n i m k : Nat), m < 2 * 16 ^ k → (dgF s n i m).2.2 < 2 * 16 ^ (k + n)
  | 0, i, m, k, h => h
  | n + 1, i, m, k, h => by
    unfold dgF
    split
    · rename_i hx
      have hv : hxV (byN s (i + 1)) < 16 := by
        unfold hxB dgB at hx
        unfold hxV dgB
        simp at hx ⊢
        split <;> omega
      have := dgF_lt s n (i + 1) (m * 16 + hxV (byN s (i + 1))) (k + 1) (by rw [Nat.pow_succ]; omega)
      rw [show k + (n + 1) = k + 1 + n by omega]
      exact this
    · show m < _
      exact Nat.lt_of_lt_of_le h (Nat.mul_le_mul_left 2 (Nat.pow_le_pow_right (by decide) (by omega)))
theorem powF_m {s : ByteArray} {i d m : Nat} {p : Nat × Int} (h : powF s i d m = some p) : p.1 = m := by
  unfold powF endF at h
  split at h
  · split at h
    · split at h
      · cases h; rfl
      · cases h
    · split at h
      · split at h
        · cases h; rfl
        · cases h
      · cases h
  · cases h
theorem midF_lt {s : ByteArray} {m : Nat} {p : Nat × Int} (hm : m < 2) (h : midF s m = some p) : p.1 < 9007199254740992 := by
  unfold midF at h
  split at h
  · unfold digF at h
    rw [powF_m h]
    have := dgF_lt s 13 3 m 0 (by simpa using hm)
    have e : 2 * (16 : Nat) ^ (0 + 13) = 9007199254740992 := by decide
    omega
  · rw [powF_m h]; omega
theorem rhF_lt {s : ByteArray} {p : Nat × Int} (h : rhF s = some p) : p.1 < 9007199254740992 := by
  unfold rhF at h
  split at h
  · split at h
    · exact midF_lt (by decide) h
    · split at h
      · exact midF_lt (by decide) h
      · cases h
  · cases h
def unX (s : ByteArray) (p : Nat × Int) : Nat := if ngB s then joinN p.1 p.2 + 9223372036854775808 else joinN p.1 p.2
def unO (s : ByteArray) : Option Nat := match rhF (bdS s) with
  | none => none
  | some p => if splOk (unX s p) = true ∧ bsA (hexS (unX s p)) = s then some (unX s p) else none
theorem joinN_lt (m : Nat) (e : Int) : joinN m e ≤ 9218868437227405312 := by
  unfold joinN
  have := nearR_le ((m : Int).natAbs) e
  split
  · omega
  · split <;> omega
theorem ba_ne {a b : ByteArray} (h : a ≠ b) : (a.toList == b.toList) = false := by
  rw [beq_eq_false_iff_ne]
  intro e
  rw [Lib.toList_data, Lib.toList_data] at e
  exact h (ByteArray.ext (Array.toList_inj.1 e))
theorem neg_top {J : Nat} (h : J ≤ 9218868437227405312) : Op.negFloat .f64 J = J + 9223372036854775808 := by
  show J ^^^ 9223372036854775808 = _
  have h2 : J < 2 ^ 63 := by omega
  have := Nat.two_pow_add_eq_or_of_lt h2 1
  rw [Nat.mul_one] at this
  rw [show (9223372036854775808 : Nat) = 2 ^ 63 from rfl, Nat.add_comm, this]
  apply Nat.eq_of_testBit_eq
  intro i
  rw [Nat.testBit_xor, Nat.testBit_or, Nat.testBit_two_pow]
  by_cases hi : 63 = i
  · subst hi
    rw [Nat.testBit_lt_two_pow h2]; simp
  · simp [hi]
theorem run_negU (w : World) (x y : Nat) (h : Op.negFloat .f64 x = y) : (Op.unary .neg (.float .f64 x)).run Tryz.prog w = .ok (.float .f64 y) w := by rw [← h]; rfl
theorem below_drewNt {B : Nat} {w w2 : World} {n : Nat} (hb : Below B w w2) : Below B w (w2.drewN n) := ⟨hb.os, hb.tape, hb.output, hb.size, hb.block⟩
set_option maxRecDepth 20000 in
set_option maxHeartbeats 6400000 in
theorem unhex_any (s : ByteArray) (w : World) (hd : w.cell? ⟨11, 15, none⟩ = some (.int .u8 4)) (hTb : Lib.TabBelow Tryz.prog w.heap.size w "internal/strconv.uint64pow10" .u64 Lib.pow10Tab) :
    Calls Tryz.prog 8 #[.string s] w fun e w' => e = .returned (.tuple #[.float .f64 ((unO s).getD 0), .int .i64 (if (unO s).isSome then 0 else 20)]) ∧ Below w.heap.size w w' := by
  have HC := hidT (cut_any s w)
  have HR := hidT (readHex_is (bdS s) w)
  have HO : Hid (unO s = match rhF (bdS s) with
    | none => none
    | some p => if splOk (unX s p) = true ∧ bsA (hexS (unX s p)) = s then some (unX s p) else none) := rfl
  cases hr : rhF (bdS s) with
  | none =>
    have hU : unO s = none := by rw [HO.out, hr]
    rw [hU]
    rw [hr] at HR
    unfold rhV at HR
    clear HO hr hd hTb hU
    generalize bdS s = B at *
    generalize ngB s = N at *
    go_enter Tryz.func8, Tryz.ntmps8
    go_wp2_with fail
    refine (turned0 HC.out).mono ?_
    rintro e9 w9 ⟨rfl, rfl⟩
    go_wp2_with fail
    refine (turned0 HR.out).mono ?_
    rintro e9 w9 ⟨rfl, rfl⟩
    go_wp2_with fail
    go_ret2
    exact ⟨rfl, Below.refl _ _⟩
  | some p =>
    have hlt := rhF_lt hr
    obtain ⟨m, e⟩ := p
    have HJ := hidT (join_any (m : Int) e w (by omega) (by show (m : Int) ≤ _; have : m < 9007199254740992 := hlt; omega))
    have hjl := joinN_lt m e
    rw [hr] at HR HO
    have HX : Hid (unX s (m, e) = if ngB s then joinN (m : Nat) e + 9223372036854775808 else joinN (m : Nat) e) := rfl
    unfold rhV at HR
    simp only [] at HR HO
    obtain ⟨X, hX⟩ : ∃ X, unX s (m, e) = X := ⟨_, rfl⟩
    obtain ⟨J, hJ⟩ : ∃ J, joinN (m : Nat) e = J := ⟨_, rfl⟩
    rw [hX] at HX HO
    rw [hJ] at HX HJ hjl
    clear hr hlt hX hJ
    have hng := fun w => run_negU w J _ (neg_top hjl)
    generalize bdS s = B at *
    cases hn : ngB s
    all_goals
      rw [hn] at HC HX
      clear hn
      have hXJ := HX.out
      simp only [Bool.false_eq_true, if_false, if_true] at hXJ
      clear HX
      have hXu : U64 (X : Int) := ⟨by omega, by omega⟩
      cases hk : splOk (X : Int)
      · have hU : unO s = none := by rw [HO.out, hk]; simp
        rw [hU]
        have HH := fun w => hidT (hex_bad X hXu hk w)
        clear HO hk hU hd hTb hXu
        subst hXJ
        go_enter Tryz.func8, Tryz.ntmps8
        go_wp2_with fail
        refine (turned0 HC.out).mono ?_
        rintro e9 w9 ⟨rfl, rfl⟩
        go_wp2_with fail
        refine (turned0 HR.out).mono ?_
        rintro e9 w9 ⟨rfl, rfl⟩
        go_wp2_with fail
        refine HJ.out.mono ?_
        rintro e9 w9 ⟨rfl, q, rfl⟩
        go_wp2_with fail
        refine (turned0 ((HH _).out)).mono ?_
        rintro e9 w9 ⟨rfl, rfl⟩
        go_wp2_with fail
        go_ret2
        exact ⟨rfl, below_drewNt (Below.refl _ _)⟩
      · have HH : Hid (∀ w1, Below w.heap.size w w1 → Calls Tryz.prog 5 #[.float .f64 X] w1 fun e w' => e = .returned (.tuple #[.string (bsA (hexS X)), .int .i64 0]) ∧ Below w.heap.size w w') := fun w1 hb => (hex_ok X hXu hk w1 ((World.cell?_of_block (w := w) (a := ⟨11, 15, none⟩) (hb.block _ (World.block_lt_of_cell? _ _ hd))).trans hd) (fun w' h' => hTb w' (hb.trans (h'.mono hb.size)))).mono fun e w' ⟨he, hb'⟩ => ⟨he, hb.trans (hb'.mono hb.size)⟩
        obtain ⟨S, hS⟩ : ∃ S, bsA (hexS X) = S := ⟨_, rfl⟩
        rw [hS] at HH
        have HO2 : Hid (unO s = if S = s then some X else none) := by
          show _ = _
          rw [HO.out, hk, hS]; simp
        clear HO hk hd hTb hXu hS
        subst hXJ
        by_cases hE : S = s
        · have hU := HO2.out
          rw [if_pos hE] at hU
          rw [hU]
          subst hE
          have hEq : (S.toList == S.toList) = true := beq_self_eq_true _
          clear HO2 hU
          go_enter Tryz.func8, Tryz.ntmps8
          go_wp2_with fail
          refine (turned0 HC.out).mono ?_
          rintro e9 w9 ⟨rfl, rfl⟩
          go_wp2_with fail
          refine (turned0 HR.out).mono ?_
          rintro e9 w9 ⟨rfl, rfl⟩
          go_wp2_with fail
          refine HJ.out.mono ?_
          rintro e9 w9 ⟨rfl, q, rfl⟩
          go_wp2_with fail
          refine (HH.out _ (below_drewNt (Below.refl _ _))).mono ?_
          rintro e9 w3 ⟨rfl, hb3⟩
          have HB3 := hidT hb3
          clear hb3
          go_wp2_with fail
          go_ret2
          exact ⟨rfl, HB3.out⟩
        · have hU := HO2.out
          rw [if_neg hE] at hU
          rw [hU]
          have hEq : (S.toList == s.toList) = false := ba_ne hE
          clear HO2 hU hE
          go_enter Tryz.func8, Tryz.ntmps8
          go_wp2_with fail
          refine (turned0 HC.out).mono ?_
          rintro e9 w9 ⟨rfl, rfl⟩
          go_wp2_with fail
          refine (turned0 HR.out).mono ?_
          rintro e9 w9 ⟨rfl, rfl⟩
          go_wp2_with fail
          refine HJ.out.mono ?_
          rintro e9 w9 ⟨rfl, q, rfl⟩
          go_wp2_with fail
          refine (HH.out _ (below_drewNt (Below.refl _ _))).mono ?_
          rintro e9 w3 ⟨rfl, hb3⟩
          have HB3 := hidT hb3
          clear hb3
          go_wp2_with fail
          go_ret2
          exact ⟨rfl, HB3.out⟩
end Go.Proofs.YtbgmbodedjhfoaaGreatDoor
namespace Go.Proofs.YtbgmbodedjhfoaaGreatDoor
open Go.RowKit

theorem size_of (b : Nat) (hb : U64 (b : Int)) : b = (szI (b : Int)).toNat + (if sgB (b : Int) then 9223372036854775808 else 0) := by
  have h1 := hb.1
  have h2 := hb.2
  unfold szI sgB
  split
  · rename_i h
    have := of_decide_eq_true h
    omega
  · rename_i h
    have := of_decide_eq_false (Bool.eq_false_iff.2 h)
    omega
theorem nearR_own (b : Nat) (hb : U64 (b : Int)) (hf : splOk (b : Int) = true) (h0 : szI (b : Int) ≠ 0) : nearR (magI (szI b)).toNat (splE b) = (szI (b : Int)).toNat := by
  have h1 := hb.1
  have h2 := hb.2
  have hz : szI (b : Int) < 9218868437227405312 := of_decide_eq_true hf
  have hs : (szI (b : Int)).toNat = b % 9223372036854775808 := by unfold szI; omega
  have hr : b % 9223372036854775808 < 9218868437227405312 := by unfold szI at hz; omega
  have hn : b % 9223372036854775808 ≠ 0 := by unfold szI at h0; omega
  have em : magI (szI b) = (mg (b % 9223372036854775808) : Int) := by unfold magI mg szI; split <;> split <;> omega
  have ep : splE b = -1074 + (pl (b % 9223372036854775808) : Int) := by
    unfold splE plcI pl; rw [hf]; simp only [h0, ne_eq, not_false_eq_true, decide_true, Bool.and_true, if_true]; unfold szI; split <;> omega
  rw [em, ep, Int.toNat_natCast, hs]
  exact nearR_mg (by omega) hr
def hexB (u : Nat) : List UInt8 := if szI u = 0 then [48, 120, 48, 112, 43, 48] else [48, 120, 49] ++ hexQ (trimH ((magI (szI u)).toNat * 2 ^ upK (magI (szI u)).toNat)) (splE u - upK (magI (szI u)).toNat + 52)
theorem hexS_eq (u : Nat) : hexS u = (if sgB u then [45] else []) ++ hexB u := rfl
theorem hexB_head (u : Nat) : ∃ r, hexB u = 48 :: r := by
  unfold hexB
  split
  · exact ⟨_, rfl⟩
  · exact ⟨_, rfl⟩
theorem body_read (b : Nat) (hb : U64 (b : Int)) (hf : splOk (b : Int) = true) : ∃ p, rhF (bsA (hexB b)) = some p ∧ joinN (p.1 : Nat) p.2 = (szI (b : Int)).toNat := by
  by_cases h0 : szI (b : Int) = 0
  · refine ⟨(0, 0), ?_, ?_⟩
    · unfold hexB; rw [if_pos h0]; exact zero_read
    · rw [h0]; decide
  · have hz : szI (b : Int) < 9218868437227405312 := of_decide_eq_true hf
    have hlo := szI_lo (b : Int)
    obtain ⟨m, hm⟩ : ∃ m, (magI (szI (b : Int))).toNat = m := ⟨_, rfl⟩
    have hmI : magI (szI (b : Int)) = (m : Int) ∧ 0 < m ∧ m < 9007199254740992 := by
      rw [← hm]; unfold magI; split <;> omega
    obtain ⟨E, hE⟩ : ∃ E, splE (b : Int) = E := ⟨_, rfl⟩
    have hEb : -1074 ≤ E ∧ E ≤ 971 := by
      rw [← hE]; unfold splE plcI; rw [hf]; simp only [h0, ne_eq, not_false_eq_true, decide_true, Bool.and_true, if_true]; split <;> omega
    obtain ⟨r1, r2, r3⟩ := up_range hmI.2.1 hmI.2.2
    obtain ⟨t1, t2, t3⟩ := trimH_val _ r1 r2
    have hown := nearR_own b hb hf h0
    rw [hm, hE] at hown
    obtain ⟨T, hT⟩ : ∃ T, trimH (m * 2 ^ upK m) = T := ⟨_, rfl⟩
    rw [hT] at t1 t2 t3
    have hread := hex_read T (E - upK m + 52) t2 t1 (by omega) (by omega)
    refine ⟨(hxW 1 T, E - upK m + 52 - T.length * 4), ?_, ?_⟩
    · unfold hexB
      rw [if_neg h0, hm, hE, hT]
      exact hread
    · have hw0 : hxW 1 T ≠ 0 := by
        intro e
        rw [e, Nat.zero_mul] at t3
        omega
      show joinN ((hxW 1 T : Nat) : Int) (E - upK m + 52 - T.length * 4) = _
      unfold joinN
      rw [if_neg (by omega), if_neg (by omega), Int.natAbs_natCast]
      have e1 := nearR_scale hw0 (52 - 4 * T.length) (E - upK m + 52 - T.length * 4)
      rw [← e1, t3]
      have e2 := nearR_scale (M := m) (by omega) (upK m) E
      rw [show E - (upK m : Int) + 52 - (T.length : Int) * 4 - ((52 - 4 * T.length : Nat) : Int) = E - upK m by omega, e2]
      exact hown
theorem hex_back (b : Nat) (hb : U64 (b : Int)) (hf : splOk (b : Int) = true) : unO (bsA (hexS b)) = some b := by
  obtain ⟨p, hp, hj⟩ := body_read b hb hf
  obtain ⟨r, hr⟩ := hexB_head b
  have hs := size_of b hb
  have hng : ngB (bsA (hexS b)) = sgB (b : Int) := by
    unfold ngB
    rw [hexS_eq, byN_bs, hr]
    cases sgB (b : Int)
    · simp
    · simp
  have hbd : bdS (bsA (hexS b)) = bsA (hexB b) := by
    unfold bdS
    rw [hng, hexS_eq]
    cases sgB (b : Int)
    · simp
    · simp only [if_true]
      rw [bs_size, bs_drop _ _ rfl]
      simp
  have hx : unX (bsA (hexS b)) p = b := by
    unfold unX
    rw [hng, hj]
    cases hsg : sgB (b : Int)
    · rw [hsg] at hs; simpa using hs.symm
    · rw [hsg] at hs; simpa using hs.symm
  unfold unO
  rw [hbd, hp]
  simp only []
  rw [hx, if_pos ⟨hf, rfl⟩]
theorem unO_some {s : ByteArray} {z : Nat} (h : unO s = some z) : splOk (z : Int) = true ∧ bsA (hexS z) = s ∧ U64 (z : Int) := by
  unfold unO at h
  split at h
  · cases h
  · rename_i p hp
    split at h
    · rename_i hc
      have e : unX s p = z := by simpa using h
      rw [e] at hc
      refine ⟨hc.1, hc.2, by omega, ?_⟩
      have := joinN_lt p.1 p.2
      rw [← e]; unfold unX
      split <;> omega
    · cases h
end Go.Proofs.YtbgmbodedjhfoaaGreatDoor
namespace Go.Proofs.YtbgmbodedjhfoaaGreatDoor
open Go.RowKit

set_option maxHeartbeats 400000 in
theorem bits_fin (x : Nat) (w : World) : Calls Tryz.prog 7 #[.float .f64 x] w fun e w' => e = .returned (.int .u64 (x : Int)) ∧ w' = w := by
  have h1 := call_bits
  go_enter Tryz.func7, Tryz.ntmps7
  go_wp2
  go_ret
  exact ⟨rfl, rfl⟩
def hxA (x : Nat) : ByteArray := if splOk (x : Int) then bsA (hexS x) else ⟨#[]⟩
theorem hex_both (x : Nat) (hx : U64 (x : Int)) {W : World} (w : World) (hb : Below W.heap.size W w) (hd : W.cell? ⟨11, 15, none⟩ = some (.int .u8 4)) (hTb : Lib.TabBelow Tryz.prog W.heap.size W "internal/strconv.uint64pow10" .u64 Lib.pow10Tab) :
    Calls Tryz.prog 5 #[.float .f64 x] w fun e w' => e = .returned (.tuple #[.string (hxA x), .int .i64 (if splOk (x : Int) then 0 else 20)]) ∧ Below W.heap.size W w' := by
  unfold hxA
  cases hk : splOk (x : Int)
  · exact (hex_bad x hx hk w).mono fun _ _ ⟨he, hw⟩ => ⟨he, by rw [hw]; exact hb⟩
  · exact (hex_ok x hx hk w ((World.cell?_of_block (w := W) (a := ⟨11, 15, none⟩) (hb.block _ (World.block_lt_of_cell? _ _ hd))).trans hd) (fun w' h' => hTb w' (hb.trans (h'.mono hb.size)))).mono fun e w' ⟨he, hb'⟩ => ⟨he, hb.trans (hb'.mono hb.size)⟩
theorem unhex_both (s : ByteArray) {W : World} (w : World) (hb : Below W.heap.size W w) (hd : W.cell? ⟨11, 15, none⟩ = some (.int .u8 4)) (hTb : Lib.TabBelow Tryz.prog W.heap.size W "internal/strconv.uint64pow10" .u64 Lib.pow10Tab) :
    Calls Tryz.prog 8 #[.string s] w fun e w' => e = .returned (.tuple #[.float .f64 ((unO s).getD 0), .int .i64 (if (unO s).isSome then 0 else 20)]) ∧ Below W.heap.size W w' :=
  (unhex_any s w ((World.cell?_of_block (w := W) (a := ⟨11, 15, none⟩) (hb.block _ (World.block_lt_of_cell? _ _ hd))).trans hd) (fun w' h' => hTb w' (hb.trans (h'.mono hb.size)))).mono fun _ _ ⟨he, hb'⟩ => ⟨he, hb.trans (hb'.mono hb.size)⟩
end Go.Proofs.YtbgmbodedjhfoaaGreatDoor
