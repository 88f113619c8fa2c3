/- The document's Decimal: a whole number's text. The document's Whole: an int's text. The document's Hex. The document's Hex at any bits. -/
import Derived.Test.YtiiajhomdpfafaaGreatDoorHbn
import Derived.Test.YtiiajhomdpfafaaGreatDoorHau
import Derived.Test.YtiiajhomdpfafaaGreatDoorHaw
import Derived.Test.YtiiajhomdpfafaaGreatDoorHbm
namespace Go.Proofs.YtiiajhomdpfafaaGreatDoor
open Go.RowKit

def dcL (n : Nat) : List UInt8 := if n = 0 then [] else Lib.decDigits n
theorem dcL_step {n : Nat} (h : n ≠ 0) : dcL n = dcL (n / 10) ++ [UInt8.ofNat (48 + n % 10)] := by
  unfold dcL
  rw [if_neg h, Lib.decDigits]
  by_cases h10 : n < 10
  · rw [dif_pos h10, if_pos (by omega), List.nil_append, show n % 10 = n by omega]
  · rw [dif_neg h10, if_neg (by omega)]
theorem dec_dcL {n : Nat} : Lib.decDigits n = if dcL n = [] then [48] else dcL n := by
  unfold dcL
  by_cases h : n = 0
  · subst h; rw [if_pos rfl, if_pos rfl, Lib.decDigits]; rfl
  · have : Lib.decDigits n ≠ [] := by rw [Lib.decDigits]; split <;> simp
    rw [if_neg h, if_neg this]
theorem dn_ten (w : World) : DN (w.alloc (.cells #[.int .u64 10] 48)) (.slice (some ⟨w.heap.size, 0, none⟩) 1 1) 10 := by
  refine Or.inr ⟨by decide, w.heap.size, 1, by rw [show nd 10 = 1 by decide], by decide, by simp, fun i hi => ?_⟩
  rw [show nd 10 = 1 by decide] at hi
  rw [show i = 0 by omega]
  simp
  decide
theorem nd_small {N : Nat} (h0 : N ≠ 0) (hN : N < 4294967296) : nd N = 1 := by
  unfold nd
  rw [if_neg h0]
  have := (Nat.log2_lt h0).2 (show N < 2 ^ 32 from hN)
  omega
theorem dn_small {w : World} {v : Value} {N : Nat} (h : DN w v N) (h0 : N ≠ 0) (hN : N < 4294967296) : ∃ g c, v = .slice (some ⟨g, 0, none⟩) 1 c ∧ 1 ≤ c ∧ g < w.heap.size ∧ w.cell? ⟨g, 0, none⟩ = some (.int .u64 (N : Int)) := by
  rcases h with ⟨h, _⟩ | ⟨_, g, c, hv, hc, hg, hr⟩
  · exact absurd h h0
  · have hn := nd_small h0 hN
    rw [hn] at hv hc hr
    have h0' := hr 0 (by decide)
    have e : dgt N 0 = N := by unfold dgt; simp; omega
    rw [e] at h0'
    exact ⟨g, c, hv, hc, hg, h0'⟩
theorem al_belT (w : World) (o : Obj) : Below w.heap.size w (w.alloc o) := (Below.refl _ _).alloc (Nat.le_refl _) o
def strN : Value → Nat
  | .string b => b.size
  | _ => 0
theorem conv_one (w : World) (c : Nat) : (convert 109 9 (.slice (some ⟨w.heap.size, 0, none⟩) 1 1)).run Tryz.prog (w.alloc (.cells #[.int .u8 (c : Int)] 5)) = .ok (.string (bsA [UInt8.ofNat c])) (w.alloc (.cells #[.int .u8 (c : Int)] 5)) := by
  rw [run_convert_bytes_string _ 109 9 5 _ _ _ Tryz.underlying109 Tryz.underlying5 Tryz.underlying9]
  rw [run_bytesToString _ ⟨w.heap.size, 0, none⟩ 1 1 [(c : Int)] ?_]
  · rfl
  · have hcs : ∀ j v, ([(c : Int)].map (Value.int .u8))[j]? = some v → (w.alloc (.cells #[.int .u8 (c : Int)] 5)).cell? (Addr.add ⟨w.heap.size, 0, none⟩ j) = some v := fun j v hv => by
      rw [Addr.add_lit]
      cases j with
      | zero => simp at hv; subst hv; simp
      | succ j => simp at hv
    exact run_loadCells_list (P := Tryz.prog) _ ⟨w.heap.size, 0, none⟩ _ hcs
theorem conv_oneI (w : World) (x : Int) (c : Nat) (h : x = (c : Int)) : (convert 109 9 (.slice (some ⟨w.heap.size, 0, none⟩) 1 1)).run Tryz.prog (w.alloc (.cells #[.int .u8 x] 5)) = .ok (.string (bsA [UInt8.ofNat c])) (w.alloc (.cells #[.int .u8 x] 5)) := by
  subst h; exact conv_one w c
theorem dcL_len (n : Nat) (h : n ≤ 100000) : (dcL n).length ≤ 6 := by
  unfold dcL
  split
  · simp
  · exact dec_len 5 n (by omega)
set_option maxRecDepth 20000 in
set_option maxHeartbeats 6400000 in
theorem decimal_any (v : Value) (A : Nat) (w : World) (hA : DN w v A) (hb : A ≤ 100000) : Calls Tryz.prog 100 #[v] w fun e w' => e = .returned (.string (bsA (Lib.decDigits A))) ∧ Below w.heap.size w w' := by
  obtain ⟨p, l, c, rfl⟩ := dn_shape hA
  have HA := hidT hA
  clear hA
  go_enter Tryz.func100, Tryz.ntmps100
  go_wp2_with fail
  go_loopw [0, 3] (fun d sv wr => ∃ (q : Option Addr) (n cq B : Nat) (S : List UInt8), d = .slice q n cq ∧ sv = .string (bsA S) ∧ B ≤ 100000 ∧ Hid (DN wr d B) ∧ Hid (dcL B ++ S = dcL A) ∧ Hid (Below w.heap.size w wr)) (fun _ sv _ => 10 - strN sv)
  case atStart => exact ⟨p, l, c, A, [], rfl, rfl, hb, HA, by show _ = _; simp, Below.refl _ _⟩
  case round =>
    obtain ⟨q, n, cq, B, S, rfl, rfl, hBA, HD, HS, HB⟩ := hrel
    have hlen : (dcL B).length + S.length ≤ 6 := by rw [← List.length_append, HS.out]; exact dcL_len A hb
    by_cases h0 : B = 0
    · subst h0
      obtain rfl : n = 0 := by
        rcases HD.out with ⟨_, p', c', hv⟩ | ⟨h, _⟩
        · injection hv
        · exact absurd rfl h
      have hS : S = dcL A := HS.out
      have hdc := dec_dcL (n := A)
      rw [← hS] at hdc
      obtain ⟨SS, hSS⟩ : ∃ SS, bsA S = SS := ⟨_, rfl⟩
      by_cases hS0 : S = []
      · rw [if_pos hS0] at hdc
        have z : SS.toList.isEmpty = true := by rw [← hSS, Lib.toList_data, bs_toList, hS0]; rfl
        have HR := hidT hdc
        rw [hSS]
        clear hS hdc HS HD hS0 hSS
        go_wp2_with fail
        go_ret
        exact ⟨by rw [HR.out]; rfl, HB.out⟩
      · rw [if_neg hS0] at hdc
        have z : SS.toList.isEmpty = false := by
          rw [← hSS, Lib.toList_data, bs_toList]
          cases S with
          | nil => exact absurd rfl hS0
          | cons c r => rfl
        have HR := hidT (And.intro hdc hSS)
        rw [hSS]
        clear hS hdc HS HD hS0 hSS
        go_wp2_with fail
        go_ret
        exact ⟨by rw [HR.out.1, HR.out.2]; rfl, HB.out⟩
    · obtain ⟨g, c', hv, hc', hg, hcell⟩ := dn_small HD.out h0 (by omega)
      injection hv with hv1 hv2 hv3
      subst hv1 hv2 hv3
      clear hc' hg hcell
      have hst := dcL_step h0
      have HS2 : Hid (dcL (B / 10) ++ (UInt8.ofNat (48 + B % 10) :: S) = dcL A) := by
        show _ = _
        rw [← HS.out, hst, List.append_assoc]; rfl
      have hl2 : S.length + 1 ≤ 6 := by rw [hst, List.length_append, List.length_singleton] at hlen; omega
      have HDv := hidT (divDigits_any (.slice (some ⟨g, 0, none⟩) 1 cq) (.slice (some ⟨wr.heap.size, 0, none⟩) 1 1) B 10 (wr.alloc (.cells #[.int .u64 10] 48)) (HD.out.below (al_belT wr _)) (dn_ten wr) h0 (by decide) (by rw [nd_small h0 (by omega)]; decide) (by decide))
      have HBa := hidT (HB.out.trans ((al_belT wr (.cells #[.int .u64 10] 48)).mono HB.out.size))
      clear hst HD HS HB hlen
      go_wp2_with fail
      refine HDv.out.mono ?_
      rintro e w2 ⟨dq, dr, rfl, hq, hr, _, _, hb2⟩
      obtain ⟨qp, qn, qc, rfl⟩ := dn_shape hq
      have hsz : (bsA S).size ≤ 5 := by rw [bs_size]; omega
      by_cases hr0 : B % 10 = 0
      · obtain ⟨rp, rc, rfl⟩ : ∃ rp rc, dr = .slice rp 0 rc := by
          rcases hr with ⟨_, p', c', hv⟩ | ⟨h, _⟩
          · exact ⟨p', c', hv⟩
          · exact absurd hr0 h
        have H2 := hidT (And.intro hq (HBa.out.trans (hb2.mono HBa.out.size)))
        have H4 : Hid (DN (w2.alloc (.cells #[.int .u8 48] 5)) (.slice qp qn qc) (B / 10) ∧ Below w.heap.size w (w2.alloc (.cells #[.int .u8 48] 5))) := ⟨H2.out.1.below (al_belT _ _), H2.out.2.trans ((al_belT _ _).mono H2.out.2.size)⟩
        have hcv := conv_oneI w2 48 (48 + B % 10) (by omega)
        obtain ⟨SS, hSS⟩ : ∃ SS, bsA S = SS := ⟨_, rfl⟩
        obtain ⟨C1, hC1⟩ : ∃ C1, bsA [UInt8.ofNat (48 + B % 10)] = C1 := ⟨_, rfl⟩
        have hc1 : C1.size = 1 := by rw [← hC1, bs_size]; rfl
        have HX : Hid (C1 ++ SS = bsA (UInt8.ofNat (48 + B % 10) :: S)) := by
          show _ = _
          rw [← hC1, ← hSS, bs_app]; rfl
        have HZ : Hid ((C1 ++ SS).size = SS.size + 1) := by
          show _ = _
          rw [← hC1, ← hSS, bs_app, bs_size, bs_size]; simp
        have HSz : Hid ((bsA S).size = SS.size) := congrArg ByteArray.size hSS
        rw [hSS] at hsz ⊢
        rw [hC1] at hcv
        have g1 : ¬ 9223372036854775807 < C1.size + SS.size := by omega
        have g2 : ¬ 9223372036854775807 < 1 + SS.size := by omega
        clear hq hr hb2 HDv HBa hC1 hSS
        go_wp2_with fail
        go_roundw
        case rel => exact ⟨qp, qn, qc, B / 10, UInt8.ofNat (48 + B % 10) :: S, rfl, by rw [HX.out], by omega, H4.out.1, HS2, H4.out.2⟩
        case measure =>
          show 10 - (C1 ++ SS).size < 10 - (bsA S).size
          rw [HZ.out, HSz.out]
          omega
      · obtain ⟨g2, rc, rfl, hrc, hg2, hcl⟩ := dn_small hr hr0 (by omega)
        have k1 : IntKind.u8.wrap (((B % 10 : Nat) : Int)) = ((B % 10 : Nat) : Int) := by rw [IntKind.wrap_u8]; omega
        have k2 : IntKind.u8.wrap (48 + ((B % 10 : Nat) : Int)) = 48 + ((B % 10 : Nat) : Int) := by rw [IntKind.wrap_u8]; omega
        have H2 := hidT (And.intro hq (HBa.out.trans (hb2.mono HBa.out.size)))
        have H4 : Hid (DN (w2.alloc (.cells #[.int .u8 (48 + ((B % 10 : Nat) : Int))] 5)) (.slice qp qn qc) (B / 10) ∧ Below w.heap.size w (w2.alloc (.cells #[.int .u8 (48 + ((B % 10 : Nat) : Int))] 5))) := ⟨H2.out.1.below (al_belT _ _), H2.out.2.trans ((al_belT _ _).mono H2.out.2.size)⟩
        have hcv := conv_oneI w2 (48 + ((B % 10 : Nat) : Int)) (48 + B % 10) (by omega)
        obtain ⟨SS, hSS⟩ : ∃ SS, bsA S = SS := ⟨_, rfl⟩
        obtain ⟨C1, hC1⟩ : ∃ C1, bsA [UInt8.ofNat (48 + B % 10)] = C1 := ⟨_, rfl⟩
        have hc1 : C1.size = 1 := by rw [← hC1, bs_size]; rfl
        have HX : Hid (C1 ++ SS = bsA (UInt8.ofNat (48 + B % 10) :: S)) := by
          show _ = _
          rw [← hC1, ← hSS, bs_app]; rfl
        have HZ : Hid ((C1 ++ SS).size = SS.size + 1) := by
          show _ = _
          rw [← hC1, ← hSS, bs_app, bs_size, bs_size]; simp
        have HSz : Hid ((bsA S).size = SS.size) := congrArg ByteArray.size hSS
        rw [hSS] at hsz ⊢
        rw [hC1] at hcv
        have g1 : ¬ 9223372036854775807 < C1.size + SS.size := by omega
        have g2 : ¬ 9223372036854775807 < 1 + SS.size := by omega
        obtain ⟨R, hR⟩ : ∃ R, ((B % 10 : Nat) : Int) = R := ⟨_, rfl⟩
        rw [hR] at hcl k1 k2 hcv
        rw [hR] at H4
        clear hq hr hb2 HDv HBa hC1 hSS
        go_wp2_with fail
        go_roundw
        case rel => exact ⟨qp, qn, qc, B / 10, UInt8.ofNat (48 + B % 10) :: S, rfl, by rw [HX.out], by omega, H4.out.1, HS2, H4.out.2⟩
        case measure =>
          show 10 - (C1 ++ SS).size < 10 - (bsA S).size
          rw [HZ.out, HSz.out]
          omega
end Go.Proofs.YtiiajhomdpfafaaGreatDoor
namespace Go.Proofs.YtiiajhomdpfafaaGreatDoor
open Go.RowKit

set_option maxRecDepth 20000 in
set_option maxHeartbeats 6400000 in
theorem wholeT_any (n : Int) (w : World) (h0 : -5000 ≤ n) (h1 : n ≤ 5000) : Calls Tryz.prog 61 #[.int .i64 n] w fun e w' => e = .returned (.string (bsA (Lib.itoa n))) ∧ Below w.heap.size w w' := by
  have HWa : Hid (∀ wa, Below w.heap.size w wa → Calls Tryz.prog 99 #[.int .i64 n] wa fun x w' => ∃ p l c, x = .returned (.agg #[.bool (decide (n < 0)), .slice p l c, .int .i64 0]) ∧ DN w' (.slice p l c) n.natAbs ∧ Below w.heap.size w w' ∧ Below wa.heap.size wa w') := fun wa hb => (wholeN_any n wa (by omega) (by omega)).mono fun x w' ⟨v, hx, hd, hb'⟩ => by
    obtain ⟨p, l, c, rfl⟩ := dn_shape hd
    exact ⟨p, l, c, hx, hd, hb.trans (hb'.mono hb.size), hb'⟩
  have HDc : Hid (∀ wa p l c, Below w.heap.size w wa → DN wa (.slice p l c) n.natAbs → Calls Tryz.prog 100 #[.slice p l c] wa fun e w' => e = .returned (.string (bsA (Lib.decDigits n.natAbs))) ∧ Below w.heap.size w w') := fun wa p l c hb hd => (decimal_any _ _ wa hd (by omega)).mono fun e w' ⟨he, hb'⟩ => ⟨he, hb.trans (hb'.mono hb.size)⟩
  have HI : Hid (Lib.itoa n = if n < 0 then 45 :: Lib.decDigits n.natAbs else Lib.decDigits n.natAbs) := by
    show _ = _
    unfold Lib.itoa
    by_cases h : n < 0
    · rw [if_pos h, if_pos h]
    · rw [if_neg h, if_neg h, show n.toNat = n.natAbs by omega]
  have hl := dec_len 4 n.natAbs (by omega)
  obtain ⟨D, hD⟩ : ∃ D, Lib.decDigits n.natAbs = D := ⟨_, rfl⟩
  obtain ⟨N, hN⟩ : ∃ N, n.natAbs = N := ⟨_, rfl⟩
  rw [hD] at HDc HI hl
  rw [hN] at HDc HWa
  obtain ⟨R, hR⟩ : ∃ R, Lib.itoa n = R := ⟨_, rfl⟩
  rw [hR] at HI ⊢
  have hDs : (bsA D).size ≤ 5 := by rw [bs_size]; exact hl
  clear hD hN hR h0 h1 hl
  by_cases hn : n < 0
  · rw [decide_eq_true hn] at HWa
    rw [if_pos hn] at HI
    have HR : Hid (bsA R = bsA [45] ++ bsA D) := by show _ = _; rw [HI.out, bs_app]; rfl
    obtain ⟨DD, hDD⟩ : ∃ DD, bsA D = DD := ⟨_, rfl⟩
    rw [hDD] at HDc HR hDs
    clear hDD hn HI
    go_enter Tryz.func61, Tryz.ntmps61
    go_wp2_with fail
    refine (HWa.out _ (Below.refl _ _)).mono ?_
    rintro e w1 ⟨p, l, c, rfl, hd, hb1, _⟩
    have H1 := hidT (And.intro hd hb1)
    have HC : Hid (∀ o, DN (w1.alloc o) (.slice p l c) N ∧ Below w.heap.size w (w1.alloc o)) := fun o => ⟨hd.below (al_belT _ _), hb1.trans ((al_belT _ _).mono hb1.size)⟩
    clear hd hb1 HWa
    go_wp2_with fail
    refine (HDc.out _ _ _ _ (HC.out _).2 (HC.out _).1).mono ?_
    rintro e w2 ⟨rfl, hb2⟩
    have H2 := hidT hb2
    clear hb2
    have g1 : ¬ 9223372036854775807 < 1 + DD.size := by omega
    go_wp2_with fail
    go_ret
    exact ⟨by rw [HR.out]; rfl, H2.out⟩
  · rw [decide_eq_false hn] at HWa
    rw [if_neg hn] at HI
    have HR : Hid (bsA R = bsA D) := congrArg bsA HI.out
    obtain ⟨DD, hDD⟩ : ∃ DD, bsA D = DD := ⟨_, rfl⟩
    rw [hDD] at HDc HR hDs
    clear hDD hn HI
    go_enter Tryz.func61, Tryz.ntmps61
    go_wp2_with fail
    refine (HWa.out _ (Below.refl _ _)).mono ?_
    rintro e w1 ⟨p, l, c, rfl, hd, hb1, _⟩
    have H1 := hidT (And.intro hd hb1)
    have HC : Hid (∀ o, DN (w1.alloc o) (.slice p l c) N ∧ Below w.heap.size w (w1.alloc o)) := fun o => ⟨hd.below (al_belT _ _), hb1.trans ((al_belT _ _).mono hb1.size)⟩
    clear hd hb1 HWa
    go_wp2_with fail
    refine (HDc.out _ _ _ _ (HC.out _).2 (HC.out _).1).mono ?_
    rintro e w2 ⟨rfl, hb2⟩
    have H2 := hidT hb2
    clear hb2
    have g1 : ¬ 9223372036854775807 < 1 + DD.size := by omega
    go_wp2_with fail
    go_ret
    exact ⟨by rw [HR.out]; rfl, H2.out⟩
end Go.Proofs.YtiiajhomdpfafaaGreatDoor
namespace Go.Proofs.YtiiajhomdpfafaaGreatDoor
open Go.RowKit

set_option maxHeartbeats 400000 in
theorem neg2_any (u : Int) (w : World) : Calls Tryz.prog 132 #[.int .u64 u] w fun e w' => e = .returned (.bool (sgB u)) ∧ w' = w := by
  go_enter Tryz.func132, Tryz.ntmps132
  go_wp2_with fail
  go_ret
  exact ⟨rfl, rfl⟩
set_option maxHeartbeats 400000 in
theorem size2_any (u : Int) (w : World) (h : U64 u) : Calls Tryz.prog 134 #[.int .u64 u] w fun e w' => e = .returned (.int .u64 (szI u)) ∧ w' = w := by
  have hz := andNot_sz h
  go_enter Tryz.func134, Tryz.ntmps134
  go_wp2_with fail
  go_ret
  exact ⟨rfl, rfl⟩
theorem sub_fin : ∀ D : Fin 16, ((ByteArray.mk #[48, 49, 50, 51, 52, 53, 54, 55, 56, 57, 97, 98, 99, 100, 101, 102]).extract D.val (D.val + 1)).data.toList = [UInt8.ofNat (hxD D.val)] := by decide +kernel
theorem sub_dig {D : Nat} (h : D < 16) : (ByteArray.mk #[48, 49, 50, 51, 52, 53, 54, 55, 56, 57, 97, 98, 99, 100, 101, 102]).extract D (D + 1) = bsA [UInt8.ofNat (hxD D)] := by
  have := sub_fin ⟨D, h⟩
  exact ByteArray.ext (Array.toList_inj.1 this)
theorem dig_facts (mj : Nat) (h : mj < 4503599627370496) : ∃ D R2 : Nat, mj / 281474976710656 = D ∧ mj % 281474976710656 = R2 ∧ D < 16 ∧ (mj : Int) / 281474976710656 = (D : Int) ∧ IntKind.i64.wrap ((D : Int) * 281474976710656) = (D : Int) * 281474976710656 ∧ IntKind.i64.wrap ((mj : Int) - (D : Int) * 281474976710656) = (R2 : Int) ∧ IntKind.i64.wrap ((R2 : Int) * 16) = (R2 : Int) * 16 ∧ IntKind.i64.wrap ((D : Int) + 1) = (D : Int) + 1 := by
  refine ⟨_, _, rfl, rfl, by omega, by omega, ?_, ?_, ?_, ?_⟩
  · rw [IntKind.wrap_i64]; omega
  · rw [IntKind.wrap_i64]; omega
  · rw [IntKind.wrap_i64]; omega
  · rw [IntKind.wrap_i64]; omega
structure DgI (m0 : Nat) (PRE : List UInt8) (j mj : Nat) (S : List UInt8) : Prop where
  s : ∃ dn, S = PRE ++ dn ∧ dn.length = j ∧ dn ++ dg16 (13 - j) mj = dg16 13 m0
  jl : j ≤ 13
  ml : mj < 4503599627370496
  d : 2 ^ (52 - 4 * (13 - j)) ∣ mj
theorem DgI.lt {m0 : Nat} {PRE : List UInt8} {j mj : Nat} {S : List UInt8} (h : DgI m0 PRE j mj S) (h0 : mj ≠ 0) : j < 13 := by
  rcases Nat.lt_or_ge j 13 with hj | hj
  · exact hj
  · have hd := h.d
    have hm := h.ml
    rw [show 52 - 4 * (13 - j) = 52 by omega, show (2 : Nat) ^ 52 = 4503599627370496 by decide] at hd
    obtain ⟨k, hk⟩ := hd
    rcases Nat.eq_zero_or_pos k with h' | h'
    · rw [h'] at hk; omega
    · omega
theorem DgI.next {m0 : Nat} {PRE : List UInt8} {j mj : Nat} {S : List UInt8} (h : DgI m0 PRE j mj S) (h0 : mj ≠ 0) : DgI m0 PRE (j + 1) (mj % 281474976710656 * 16) (S ++ [UInt8.ofNat (hxD (mj / 281474976710656))]) := by
  have hj := h.lt h0
  obtain ⟨dn, h1, h2, h3⟩ := h.s
  have hm := h.ml
  refine ⟨⟨dn ++ [UInt8.ofNat (hxD (mj / 281474976710656))], by rw [h1, List.append_assoc], by rw [List.length_append, h2]; rfl, ?_⟩, by omega, by omega, ?_⟩
  · rw [← h3, show 13 - j = 13 - (j + 1) + 1 by omega]
    have e : dg16 (13 - (j + 1) + 1) mj = UInt8.ofNat (hxD (mj / 281474976710656)) :: dg16 (13 - (j + 1)) (mj % 281474976710656 * 16) := by
      show (if mj = 0 then [] else _) = _
      rw [if_neg h0]
    rw [e, List.append_assoc]; rfl
  · have e1 : (2 : Nat) ^ (52 - 4 * (13 - (j + 1))) = 2 ^ (52 - 4 * (13 - j)) * 16 := by
      rw [show (16 : Nat) = 2 ^ 4 from rfl, ← Nat.pow_add, show 52 - 4 * (13 - j) + 4 = 52 - 4 * (13 - (j + 1)) by omega]
    rw [e1]
    refine Nat.mul_dvd_mul_right ?_ 16
    have e2 : (281474976710656 : Nat) = 2 ^ (52 - 4 * (13 - j)) * 2 ^ (48 - (52 - 4 * (13 - j))) := by
      rw [← Nat.pow_add, show 52 - 4 * (13 - j) + (48 - (52 - 4 * (13 - j))) = 48 by omega]
    exact (Nat.dvd_mod_iff ⟨_, e2⟩).2 h.d
theorem DgI.last {m0 : Nat} {PRE : List UInt8} {j : Nat} {S : List UInt8} (h : DgI m0 PRE j 0 S) : S = PRE ++ dg16 13 m0 := by
  obtain ⟨dn, h1, _, h3⟩ := h.s
  have e : dg16 (13 - j) 0 = [] := by
    cases 13 - j with
    | zero => rfl
    | succ k => show (if (0 : Nat) = 0 then [] else _) = _; rw [if_pos rfl]
  rw [e, List.append_nil] at h3
  rw [h1, h3]
theorem DgI.zero {m0 : Nat} (PRE : List UInt8) (h : m0 < 4503599627370496) : DgI m0 PRE 0 m0 PRE :=
  ⟨⟨[], by rw [List.append_nil], rfl, by rw [List.nil_append, Nat.sub_zero]⟩, by omega, h, by rw [show 52 - 4 * (13 - 0) = 0 by decide, Nat.pow_zero]; exact Nat.one_dvd _⟩
theorem DgI.len {m0 : Nat} {PRE : List UInt8} {j mj : Nat} {S : List UInt8} (h : DgI m0 PRE j mj S) : S.length = PRE.length + j := by
  obtain ⟨dn, h1, h2, _⟩ := h.s
  rw [h1, List.length_append, h2]
set_option maxRecDepth 200000 in
set_option maxHeartbeats 6400000 in
theorem hexD_in (u : Nat) (w : World) (sg : Bool) (m : Nat) (E : Int) (hm0 : 0 < m) (hm1 : m < 9007199254740992) (hE0 : -1074 ≤ E) (hE1 : E ≤ 971) (R : List UInt8)
    (HR : Hid (R = (if sg then [45] else []) ++ ([48, 120, 49] ++ hexQ (trimH (m * 2 ^ upK m)) (E - upK m + 52))))
    (HNu : Hid (∀ w, Calls Tryz.prog 65 #[.int .u64 (u : Int)] w fun e w' => e = .returned (.bool true) ∧ w' = w))
    (HNe : Hid (∀ w, Calls Tryz.prog 132 #[.int .u64 (u : Int)] w fun e w' => e = .returned (.bool sg) ∧ w' = w))
    (HSz : Hid (∀ w, Calls Tryz.prog 134 #[.int .u64 (u : Int)] w fun e w' => e = .returned (.int .u64 (szI u)) ∧ w' = w))
    (HSp : Hid (∀ w, Calls Tryz.prog 133 #[.int .u64 (szI u)] w fun e w' => e = .returned (.tuple #[.int .i64 (m : Int), .int .i64 E, .bool true]) ∧ Below w.heap.size w w')) :
    Calls Tryz.prog 98 #[.int .u64 (u : Int)] w fun e w' => e = .returned (.tuple #[.string (bsA R), .int .i64 0]) ∧ Below w.heap.size w w' := by
  obtain ⟨r1, r2, r3⟩ := up_range hm0 hm1
  obtain ⟨k, hk⟩ : ∃ k, upK m = k := ⟨_, rfl⟩
  rw [hk] at HR r1 r2 r3
  have z0 : ((m : Int) == 0) = false := beq_eq_false_iff_ne.2 (by omega)
  have z1 : m ≠ 0 := by omega
  clear hk
  cases sg
  · go_enter Tryz.func98, Tryz.ntmps98
    go_wp2_with (first | (go_at_call 65; refine (HNu.out _).mono ?_; rintro e w2 ⟨rfl, rfl⟩) | (go_at_call 132; refine (HNe.out _).mono ?_; rintro e w2 ⟨rfl, rfl⟩) | (go_at_call 134; refine (HSz.out _).mono ?_; rintro e w2 ⟨rfl, rfl⟩) | (go_at_call 133; refine (HSp.out _).mono ?_; rintro e w2 ⟨rfl, hb2⟩; have HB2 := hidT hb2; clear hb2))
    go_loopw [5, 6] (fun mv ev wr => ∃ j : Nat, j ≤ k ∧ mv = .int .i64 ((m * 2 ^ j : Nat) : Int) ∧ ev = .int .i64 (E - (j : Int)) ∧ Hid (wr = w2)) (fun _ ev _ => (intOf ev + 2000).toNat)
    case atStart => exact ⟨0, Nat.zero_le _, by simp, by simp, rfl⟩
    case round =>
      obtain ⟨j, hj, rfl, rfl, HW⟩ := hrel
      have hww := HW.out
      subst hww
      by_cases hlt : j < k
      · have HS : Hid (m * 2 ^ (j + 1) = m * 2 ^ j * 2) := by show _ = _; rw [Nat.pow_succ, Nat.mul_assoc]
        have hX : m * 2 ^ j < 4503599627370496 := by
          have h2 : m * 2 ^ (j + 1) ≤ m * 2 ^ k := Nat.mul_le_mul_left _ (Nat.pow_le_pow_right (by decide) hlt)
          have := HS.out
          omega
        obtain ⟨X, hXX⟩ : ∃ X, m * 2 ^ j = X := ⟨_, rfl⟩
        rw [hXX] at hX HS ⊢
        have q0 : (X : Int) < 4503599627370496 := by omega
        have q1 : IntKind.i64.wrap (2 * (X : Int)) = 2 * (X : Int) := by rw [IntKind.wrap_i64]; omega
        have q2 : (j : Int) ≤ 52 := by omega
        have q3 : IntKind.i64.wrap (E - (j : Int) - 1) = E - (j : Int) - 1 := by rw [IntKind.wrap_i64]; omega
        clear r1 r2 hXX
        go_wp2_with fail
        go_roundw
        case rel => exact ⟨j + 1, hlt, by rw [HS.out]; congr 1; omega, by congr 1; omega, by first | exact rfl | exact trivial⟩
        case measure => simp [intOf]; omega
      · obtain rfl : j = k := by omega
        obtain ⟨m0, hM⟩ : ∃ m0, m * 2 ^ j = 4503599627370496 + m0 := ⟨m * 2 ^ j - 4503599627370496, by omega⟩
        have hm2 : m0 < 4503599627370496 := by omega
        rw [hM] at HR
        have HT := hidT (trimH_dg hm2)
        rw [HT.out] at HR
        obtain ⟨X, hX⟩ : ∃ X, m * 2 ^ j = X := ⟨_, rfl⟩
        rw [hX] at hM ⊢
        have q0 : ¬ (X : Int) < 4503599627370496 := by omega
        obtain ⟨P, hP⟩ : ∃ P : Int, E - (j : Int) + 52 = P := ⟨_, rfl⟩
        have hP0 : -5000 ≤ P := by omega
        have hP1 : P ≤ 5000 := by omega
        rw [hP] at HR
        have q1 : IntKind.i64.wrap (E - (j : Int) + 52) = P := by rw [IntKind.wrap_i64]; omega
        have q2 : IntKind.i64.wrap ((X : Int) - 4503599627370496) = (m0 : Int) := by rw [IntKind.wrap_i64]; omega
        clear hX hM hP r1 r2
        have HM2 := hidT hm2
        clear hm0 hm1 hE0 hE1 z0 z1 r3 hj hlt HNu HNe HSz HSp hm2
        generalize hS0 : (⟨#[]⟩ : ByteArray) = S0
        have hSb : S0 = bsA ([] : List UInt8) := hS0.symm.trans rfl
        have hz0 : S0.size ≤ 1 := by rw [hSb, bs_size]; decide
        have g1 : ¬ 9223372036854775807 < S0.size + 3 := by omega
        have g2 : ¬ 9223372036854775807 < S0.size + 3 + 1 := by omega
        have HSb := hidT hSb
        clear hz0 hS0 hSb
        by_cases h0 : m0 = 0
        · subst h0
          have q2' : IntKind.i64.wrap ((X : Int) - 4503599627370496) = 0 := q2
          obtain ⟨PRE, hPRE⟩ : ∃ PRE, ([] : List UInt8) ++ [48, 120, 49] = PRE := ⟨_, rfl⟩
          have hPl : PRE.length ≤ 6 := by rw [← hPRE]; decide
          have HP : Hid (S0 ++ ⟨#[48, 120, 49]⟩ = bsA PRE) := by
            show _ = _
            rw [HSb.out, ← hPRE]
            exact bs_app ([] : List UInt8) [48, 120, 49]
          have HPr := hidT hPRE
          clear hPRE q2
          go_wp2_with fail
          rw [HP.out]
          go_loopw [4, 5] (fun sv mv wq => ∃ (j2 mj : Nat) (S : List UInt8), sv = .string (bsA S) ∧ mv = .int .i64 (mj : Int) ∧ Hid (DgI 0 PRE j2 mj S) ∧ Hid (wq = wr)) (fun sv _ _ => 40 - strN sv)
          case atStart => exact ⟨0, 0, PRE, rfl, rfl, DgI.zero PRE HM2.out, rfl⟩
          case round =>
            obtain ⟨j2, mj, S, rfl, rfl, HI, HW2⟩ := hrel
            have hww2 := HW2.out
            subst hww2
            have hSl := HI.out.len
            have hjl := HI.out.jl
            have hml := HI.out.ml
            by_cases h00 : mj = 0
            · subst h00
              have hS := HI.out.last
              obtain ⟨SS, hSS⟩ : ∃ SS, bsA S = SS := ⟨_, rfl⟩
              have hsz : SS.size ≤ 30 := by rw [← hSS, bs_size]; omega
              have hil := itoa_len P hP0 hP1
              have HWh : Hid (∀ wa, Calls Tryz.prog 61 #[.int .i64 P] wa fun e w' => e = .returned (.string (bsA (Lib.itoa P))) ∧ Below wa.heap.size wa w') := fun wa => wholeT_any P wa hP0 hP1
              have hRR : R = S ++ ((if P < 0 then [112] else [112, 43]) ++ Lib.itoa P) := by
                rw [HR.out, hS]
                unfold hexQ
                rw [show dg16 13 0 = [] from rfl, if_pos rfl, ← HPr.out]
                simp
              obtain ⟨I, hI⟩ : ∃ I, Lib.itoa P = I := ⟨_, rfl⟩
              rw [hI] at HWh hRR hil
              obtain ⟨II, hII⟩ : ∃ II, bsA I = II := ⟨_, rfl⟩
              have hIs : II.size ≤ 100 := by rw [← hII, bs_size]; exact hil
              rw [hII] at HWh
              rw [hSS]
              have g3 : ¬ 9223372036854775807 < SS.size + 1 := by omega
              have g4 : ¬ 9223372036854775807 < SS.size + 1 + II.size := by omega
              have g5 : ¬ 9223372036854775807 < SS.size + 2 := by omega
              have g6 : ¬ 9223372036854775807 < SS.size + 2 + II.size := by omega
              by_cases hp : P < 0
              · have HF : Hid (SS ++ bsA [112] ++ II = bsA R) := by
                  show _ = _
                  rw [hRR, if_pos hp, ← hSS, ← hII, bs_app, bs_app, List.append_assoc]
                clear hRR hSS hII hI hS hil HI HR hjl hSl hml
                go_wp2_with ((go_at_call 61; refine (HWh.out _).mono ?_; rintro e w5 ⟨rfl, hb5⟩; have HB5 := hidT hb5; clear hb5))
                go_ret2
                exact ⟨by rw [← HF.out]; rfl, HB2.out.trans (HB5.out.mono HB2.out.size)⟩
              · have HF : Hid (SS ++ bsA [112, 43] ++ II = bsA R) := by
                  show _ = _
                  rw [hRR, if_neg hp, ← hSS, ← hII, bs_app, bs_app, List.append_assoc]
                clear hRR hSS hII hI hS hil HI HR hjl hSl hml
                go_wp2_with ((go_at_call 61; refine (HWh.out _).mono ?_; rintro e w5 ⟨rfl, hb5⟩; have HB5 := hidT hb5; clear hb5))
                go_ret2
                exact ⟨by rw [← HF.out]; rfl, HB2.out.trans (HB5.out.mono HB2.out.size)⟩
            · have hj13 := HI.out.lt h00
              have q5 : 0 < mj := by omega
              have HNx := hidT (HI.out.next h00)
              obtain ⟨D, R2, hD, hR2, hDl, e1, e2, e3, e4, e5⟩ := dig_facts mj HI.out.ml
              rw [hD, hR2] at HNx
              obtain ⟨SS, hSS⟩ : ∃ SS, bsA S = SS := ⟨_, rfl⟩
              have hsz : SS.size ≤ 30 := by rw [← hSS, bs_size]; omega
              have HSS : Hid (SS ++ (ByteArray.mk #[48, 49, 50, 51, 52, 53, 54, 55, 56, 57, 97, 98, 99, 100, 101, 102]).extract D (D + 1) = bsA (S ++ [UInt8.ofNat (hxD D)])) := by
                show _ = _
                rw [sub_dig hDl, ← hSS, bs_app]
              have HZ : Hid ((SS ++ (ByteArray.mk #[48, 49, 50, 51, 52, 53, 54, 55, 56, 57, 97, 98, 99, 100, 101, 102]).extract D (D + 1)).size = SS.size + 1) := by
                show _ = _
                rw [sub_dig hDl, ← hSS, bs_app, bs_size, bs_size]; simp
              rw [hSS]
              clear hD hR2 h00 hml hSS
              go_wp2_with fail
              go_roundw
              case rel => exact ⟨j2 + 1, R2 * 16, S ++ [UInt8.ofNat (hxD D)], by rw [HSS.out], by congr 1, HNx, by first | exact rfl | exact trivial⟩
              case measure =>
                show 40 - (SS ++ _).size < 40 - SS.size
                rw [HZ.out]
                omega
        · have q4 : 0 < m0 := by omega
          obtain ⟨PRE, hPRE⟩ : ∃ PRE, ([] : List UInt8) ++ [48, 120, 49] ++ [46] = PRE := ⟨_, rfl⟩
          have hPl : PRE.length ≤ 6 := by rw [← hPRE]; decide
          have HP : Hid (S0 ++ ⟨#[48, 120, 49]⟩ ++ ⟨#[46]⟩ = bsA PRE) := by
            show _ = _
            rw [HSb.out, ← hPRE]
            exact (congrArg (· ++ bsA [46]) (bs_app ([] : List UInt8) [48, 120, 49])).trans (bs_app _ [46])
          have HPr := hidT hPRE
          have HTn : Hid (¬ dg16 13 m0 = []) := fun e => by
            have e2 : dg16 13 m0 = UInt8.ofNat (hxD (m0 / 281474976710656)) :: dg16 12 (m0 % 281474976710656 * 16) := by
              show (if m0 = 0 then [] else _) = _
              rw [if_neg h0]
            rw [e2] at e; cases e
          clear h0 hPRE
          go_wp2_with fail
          rw [HP.out]
          go_loopw [4, 5] (fun sv mv wq => ∃ (j2 mj : Nat) (S : List UInt8), sv = .string (bsA S) ∧ mv = .int .i64 (mj : Int) ∧ Hid (DgI m0 PRE j2 mj S) ∧ Hid (wq = wr)) (fun sv _ _ => 40 - strN sv)
          case atStart => exact ⟨0, m0, PRE, rfl, rfl, DgI.zero PRE HM2.out, rfl⟩
          case round =>
            obtain ⟨j2, mj, S, rfl, rfl, HI, HW2⟩ := hrel
            have hww2 := HW2.out
            subst hww2
            have hSl := HI.out.len
            have hjl := HI.out.jl
            have hml := HI.out.ml
            by_cases h00 : mj = 0
            · subst h00
              have hS := HI.out.last
              obtain ⟨SS, hSS⟩ : ∃ SS, bsA S = SS := ⟨_, rfl⟩
              have hsz : SS.size ≤ 30 := by rw [← hSS, bs_size]; omega
              have hil := itoa_len P hP0 hP1
              have HWh : Hid (∀ wa, Calls Tryz.prog 61 #[.int .i64 P] wa fun e w' => e = .returned (.string (bsA (Lib.itoa P))) ∧ Below wa.heap.size wa w') := fun wa => wholeT_any P wa hP0 hP1
              have hRR : R = S ++ ((if P < 0 then [112] else [112, 43]) ++ Lib.itoa P) := by
                rw [HR.out, hS]
                unfold hexQ
                rw [if_neg HTn.out, ← HPr.out]
                simp
              obtain ⟨I, hI⟩ : ∃ I, Lib.itoa P = I := ⟨_, rfl⟩
              rw [hI] at HWh hRR hil
              obtain ⟨II, hII⟩ : ∃ II, bsA I = II := ⟨_, rfl⟩
              have hIs : II.size ≤ 100 := by rw [← hII, bs_size]; exact hil
              rw [hII] at HWh
              rw [hSS]
              have g3 : ¬ 9223372036854775807 < SS.size + 1 := by omega
              have g4 : ¬ 9223372036854775807 < SS.size + 1 + II.size := by omega
              have g5 : ¬ 9223372036854775807 < SS.size + 2 := by omega
              have g6 : ¬ 9223372036854775807 < SS.size + 2 + II.size := by omega
              by_cases hp : P < 0
              · have HF : Hid (SS ++ bsA [112] ++ II = bsA R) := by
                  show _ = _
                  rw [hRR, if_pos hp, ← hSS, ← hII, bs_app, bs_app, List.append_assoc]
                clear hRR hSS hII hI hS hil HI HR hjl hSl hml
                go_wp2_with ((go_at_call 61; refine (HWh.out _).mono ?_; rintro e w5 ⟨rfl, hb5⟩; have HB5 := hidT hb5; clear hb5))
                go_ret2
                exact ⟨by rw [← HF.out]; rfl, HB2.out.trans (HB5.out.mono HB2.out.size)⟩
              · have HF : Hid (SS ++ bsA [112, 43] ++ II = bsA R) := by
                  show _ = _
                  rw [hRR, if_neg hp, ← hSS, ← hII, bs_app, bs_app, List.append_assoc]
                clear hRR hSS hII hI hS hil HI HR hjl hSl hml
                go_wp2_with ((go_at_call 61; refine (HWh.out _).mono ?_; rintro e w5 ⟨rfl, hb5⟩; have HB5 := hidT hb5; clear hb5))
                go_ret2
                exact ⟨by rw [← HF.out]; rfl, HB2.out.trans (HB5.out.mono HB2.out.size)⟩
            · have hj13 := HI.out.lt h00
              have q5 : 0 < mj := by omega
              have HNx := hidT (HI.out.next h00)
              obtain ⟨D, R2, hD, hR2, hDl, e1, e2, e3, e4, e5⟩ := dig_facts mj HI.out.ml
              rw [hD, hR2] at HNx
              obtain ⟨SS, hSS⟩ : ∃ SS, bsA S = SS := ⟨_, rfl⟩
              have hsz : SS.size ≤ 30 := by rw [← hSS, bs_size]; omega
              have HSS : Hid (SS ++ (ByteArray.mk #[48, 49, 50, 51, 52, 53, 54, 55, 56, 57, 97, 98, 99, 100, 101, 102]).extract D (D + 1) = bsA (S ++ [UInt8.ofNat (hxD D)])) := by
                show _ = _
                rw [sub_dig hDl, ← hSS, bs_app]
              have HZ : Hid ((SS ++ (ByteArray.mk #[48, 49, 50, 51, 52, 53, 54, 55, 56, 57, 97, 98, 99, 100, 101, 102]).extract D (D + 1)).size = SS.size + 1) := by
                show _ = _
                rw [sub_dig hDl, ← hSS, bs_app, bs_size, bs_size]; simp
              rw [hSS]
              clear hD hR2 h00 hml hSS
              go_wp2_with fail
              go_roundw
              case rel => exact ⟨j2 + 1, R2 * 16, S ++ [UInt8.ofNat (hxD D)], by rw [HSS.out], by congr 1, HNx, by first | exact rfl | exact trivial⟩
              case measure =>
                show 40 - (SS ++ _).size < 40 - SS.size
                rw [HZ.out]
                omega
  · go_enter Tryz.func98, Tryz.ntmps98
    go_wp2_with (first | (go_at_call 65; refine (HNu.out _).mono ?_; rintro e w2 ⟨rfl, rfl⟩) | (go_at_call 132; refine (HNe.out _).mono ?_; rintro e w2 ⟨rfl, rfl⟩) | (go_at_call 134; refine (HSz.out _).mono ?_; rintro e w2 ⟨rfl, rfl⟩) | (go_at_call 133; refine (HSp.out _).mono ?_; rintro e w2 ⟨rfl, hb2⟩; have HB2 := hidT hb2; clear hb2))
    go_loopw [5, 6] (fun mv ev wr => ∃ j : Nat, j ≤ k ∧ mv = .int .i64 ((m * 2 ^ j : Nat) : Int) ∧ ev = .int .i64 (E - (j : Int)) ∧ Hid (wr = w2)) (fun _ ev _ => (intOf ev + 2000).toNat)
    case atStart => exact ⟨0, Nat.zero_le _, by simp, by simp, rfl⟩
    case round =>
      obtain ⟨j, hj, rfl, rfl, HW⟩ := hrel
      have hww := HW.out
      subst hww
      by_cases hlt : j < k
      · have HS : Hid (m * 2 ^ (j + 1) = m * 2 ^ j * 2) := by show _ = _; rw [Nat.pow_succ, Nat.mul_assoc]
        have hX : m * 2 ^ j < 4503599627370496 := by
          have h2 : m * 2 ^ (j + 1) ≤ m * 2 ^ k := Nat.mul_le_mul_left _ (Nat.pow_le_pow_right (by decide) hlt)
          have := HS.out
          omega
        obtain ⟨X, hXX⟩ : ∃ X, m * 2 ^ j = X := ⟨_, rfl⟩
        rw [hXX] at hX HS ⊢
        have q0 : (X : Int) < 4503599627370496 := by omega
        have q1 : IntKind.i64.wrap (2 * (X : Int)) = 2 * (X : Int) := by rw [IntKind.wrap_i64]; omega
        have q2 : (j : Int) ≤ 52 := by omega
        have q3 : IntKind.i64.wrap (E - (j : Int) - 1) = E - (j : Int) - 1 := by rw [IntKind.wrap_i64]; omega
        clear r1 r2 hXX
        go_wp2_with fail
        go_roundw
        case rel => exact ⟨j + 1, hlt, by rw [HS.out]; congr 1; omega, by congr 1; omega, by first | exact rfl | exact trivial⟩
        case measure => simp [intOf]; omega
      · obtain rfl : j = k := by omega
        obtain ⟨m0, hM⟩ : ∃ m0, m * 2 ^ j = 4503599627370496 + m0 := ⟨m * 2 ^ j - 4503599627370496, by omega⟩
        have hm2 : m0 < 4503599627370496 := by omega
        rw [hM] at HR
        have HT := hidT (trimH_dg hm2)
        rw [HT.out] at HR
        obtain ⟨X, hX⟩ : ∃ X, m * 2 ^ j = X := ⟨_, rfl⟩
        rw [hX] at hM ⊢
        have q0 : ¬ (X : Int) < 4503599627370496 := by omega
        obtain ⟨P, hP⟩ : ∃ P : Int, E - (j : Int) + 52 = P := ⟨_, rfl⟩
        have hP0 : -5000 ≤ P := by omega
        have hP1 : P ≤ 5000 := by omega
        rw [hP] at HR
        have q1 : IntKind.i64.wrap (E - (j : Int) + 52) = P := by rw [IntKind.wrap_i64]; omega
        have q2 : IntKind.i64.wrap ((X : Int) - 4503599627370496) = (m0 : Int) := by rw [IntKind.wrap_i64]; omega
        clear hX hM hP r1 r2
        have HM2 := hidT hm2
        clear hm0 hm1 hE0 hE1 z0 z1 r3 hj hlt HNu HNe HSz HSp hm2
        generalize hS0 : (⟨#[45]⟩ : ByteArray) = S0
        have hSb : S0 = bsA ([45] : List UInt8) := hS0.symm.trans rfl
        have hz0 : S0.size ≤ 1 := by rw [hSb, bs_size]; decide
        have g1 : ¬ 9223372036854775807 < S0.size + 3 := by omega
        have g2 : ¬ 9223372036854775807 < S0.size + 3 + 1 := by omega
        have HSb := hidT hSb
        clear hz0 hS0 hSb
        by_cases h0 : m0 = 0
        · subst h0
          have q2' : IntKind.i64.wrap ((X : Int) - 4503599627370496) = 0 := q2
          obtain ⟨PRE, hPRE⟩ : ∃ PRE, ([45] : List UInt8) ++ [48, 120, 49] = PRE := ⟨_, rfl⟩
          have hPl : PRE.length ≤ 6 := by rw [← hPRE]; decide
          have HP : Hid (S0 ++ ⟨#[48, 120, 49]⟩ = bsA PRE) := by
            show _ = _
            rw [HSb.out, ← hPRE]
            exact bs_app ([45] : List UInt8) [48, 120, 49]
          have HPr := hidT hPRE
          clear hPRE q2
          go_wp2_with fail
          rw [HP.out]
          go_loopw [4, 5] (fun sv mv wq => ∃ (j2 mj : Nat) (S : List UInt8), sv = .string (bsA S) ∧ mv = .int .i64 (mj : Int) ∧ Hid (DgI 0 PRE j2 mj S) ∧ Hid (wq = wr)) (fun sv _ _ => 40 - strN sv)
          case atStart => exact ⟨0, 0, PRE, rfl, rfl, DgI.zero PRE HM2.out, rfl⟩
          case round =>
            obtain ⟨j2, mj, S, rfl, rfl, HI, HW2⟩ := hrel
            have hww2 := HW2.out
            subst hww2
            have hSl := HI.out.len
            have hjl := HI.out.jl
            have hml := HI.out.ml
            by_cases h00 : mj = 0
            · subst h00
              have hS := HI.out.last
              obtain ⟨SS, hSS⟩ : ∃ SS, bsA S = SS := ⟨_, rfl⟩
              have hsz : SS.size ≤ 30 := by rw [← hSS, bs_size]; omega
              have hil := itoa_len P hP0 hP1
              have HWh : Hid (∀ wa, Calls Tryz.prog 61 #[.int .i64 P] wa fun e w' => e = .returned (.string (bsA (Lib.itoa P))) ∧ Below wa.heap.size wa w') := fun wa => wholeT_any P wa hP0 hP1
              have hRR : R = S ++ ((if P < 0 then [112] else [112, 43]) ++ Lib.itoa P) := by
                rw [HR.out, hS]
                unfold hexQ
                rw [show dg16 13 0 = [] from rfl, if_pos rfl, ← HPr.out]
                simp
              obtain ⟨I, hI⟩ : ∃ I, Lib.itoa P = I := ⟨_, rfl⟩
              rw [hI] at HWh hRR hil
              obtain ⟨II, hII⟩ : ∃ II, bsA I = II := ⟨_, rfl⟩
              have hIs : II.size ≤ 100 := by rw [← hII, bs_size]; exact hil
              rw [hII] at HWh
              rw [hSS]
              have g3 : ¬ 9223372036854775807 < SS.size + 1 := by omega
              have g4 : ¬ 9223372036854775807 < SS.size + 1 + II.size := by omega
              have g5 : ¬ 9223372036854775807 < SS.size + 2 := by omega
              have g6 : ¬ 9223372036854775807 < SS.size + 2 + II.size := by omega
              by_cases hp : P < 0
              · have HF : Hid (SS ++ bsA [112] ++ II = bsA R) := by
                  show _ = _
                  rw [hRR, if_pos hp, ← hSS, ← hII, bs_app, bs_app, List.append_assoc]
                clear hRR hSS hII hI hS hil HI HR hjl hSl hml
                go_wp2_with ((go_at_call 61; refine (HWh.out _).mono ?_; rintro e w5 ⟨rfl, hb5⟩; have HB5 := hidT hb5; clear hb5))
                go_ret2
                exact ⟨by rw [← HF.out]; rfl, HB2.out.trans (HB5.out.mono HB2.out.size)⟩
              · have HF : Hid (SS ++ bsA [112, 43] ++ II = bsA R) := by
                  show _ = _
                  rw [hRR, if_neg hp, ← hSS, ← hII, bs_app, bs_app, List.append_assoc]
                clear hRR hSS hII hI hS hil HI HR hjl hSl hml
                go_wp2_with ((go_at_call 61; refine (HWh.out _).mono ?_; rintro e w5 ⟨rfl, hb5⟩; have HB5 := hidT hb5; clear hb5))
                go_ret2
                exact ⟨by rw [← HF.out]; rfl, HB2.out.trans (HB5.out.mono HB2.out.size)⟩
            · have hj13 := HI.out.lt h00
              have q5 : 0 < mj := by omega
              have HNx := hidT (HI.out.next h00)
              obtain ⟨D, R2, hD, hR2, hDl, e1, e2, e3, e4, e5⟩ := dig_facts mj HI.out.ml
              rw [hD, hR2] at HNx
              obtain ⟨SS, hSS⟩ : ∃ SS, bsA S = SS := ⟨_, rfl⟩
              have hsz : SS.size ≤ 30 := by rw [← hSS, bs_size]; omega
              have HSS : Hid (SS ++ (ByteArray.mk #[48, 49, 50, 51, 52, 53, 54, 55, 56, 57, 97, 98, 99, 100, 101, 102]).extract D (D + 1) = bsA (S ++ [UInt8.ofNat (hxD D)])) := by
                show _ = _
                rw [sub_dig hDl, ← hSS, bs_app]
              have HZ : Hid ((SS ++ (ByteArray.mk #[48, 49, 50, 51, 52, 53, 54, 55, 56, 57, 97, 98, 99, 100, 101, 102]).extract D (D + 1)).size = SS.size + 1) := by
                show _ = _
                rw [sub_dig hDl, ← hSS, bs_app, bs_size, bs_size]; simp
              rw [hSS]
              clear hD hR2 h00 hml hSS
              go_wp2_with fail
              go_roundw
              case rel => exact ⟨j2 + 1, R2 * 16, S ++ [UInt8.ofNat (hxD D)], by rw [HSS.out], by congr 1, HNx, by first | exact rfl | exact trivial⟩
              case measure =>
                show 40 - (SS ++ _).size < 40 - SS.size
                rw [HZ.out]
                omega
        · have q4 : 0 < m0 := by omega
          obtain ⟨PRE, hPRE⟩ : ∃ PRE, ([45] : List UInt8) ++ [48, 120, 49] ++ [46] = PRE := ⟨_, rfl⟩
          have hPl : PRE.length ≤ 6 := by rw [← hPRE]; decide
          have HP : Hid (S0 ++ ⟨#[48, 120, 49]⟩ ++ ⟨#[46]⟩ = bsA PRE) := by
            show _ = _
            rw [HSb.out, ← hPRE]
            exact (congrArg (· ++ bsA [46]) (bs_app ([45] : List UInt8) [48, 120, 49])).trans (bs_app _ [46])
          have HPr := hidT hPRE
          have HTn : Hid (¬ dg16 13 m0 = []) := fun e => by
            have e2 : dg16 13 m0 = UInt8.ofNat (hxD (m0 / 281474976710656)) :: dg16 12 (m0 % 281474976710656 * 16) := by
              show (if m0 = 0 then [] else _) = _
              rw [if_neg h0]
            rw [e2] at e; cases e
          clear h0 hPRE
          go_wp2_with fail
          rw [HP.out]
          go_loopw [4, 5] (fun sv mv wq => ∃ (j2 mj : Nat) (S : List UInt8), sv = .string (bsA S) ∧ mv = .int .i64 (mj : Int) ∧ Hid (DgI m0 PRE j2 mj S) ∧ Hid (wq = wr)) (fun sv _ _ => 40 - strN sv)
          case atStart => exact ⟨0, m0, PRE, rfl, rfl, DgI.zero PRE HM2.out, rfl⟩
          case round =>
            obtain ⟨j2, mj, S, rfl, rfl, HI, HW2⟩ := hrel
            have hww2 := HW2.out
            subst hww2
            have hSl := HI.out.len
            have hjl := HI.out.jl
            have hml := HI.out.ml
            by_cases h00 : mj = 0
            · subst h00
              have hS := HI.out.last
              obtain ⟨SS, hSS⟩ : ∃ SS, bsA S = SS := ⟨_, rfl⟩
              have hsz : SS.size ≤ 30 := by rw [← hSS, bs_size]; omega
              have hil := itoa_len P hP0 hP1
              have HWh : Hid (∀ wa, Calls Tryz.prog 61 #[.int .i64 P] wa fun e w' => e = .returned (.string (bsA (Lib.itoa P))) ∧ Below wa.heap.size wa w') := fun wa => wholeT_any P wa hP0 hP1
              have hRR : R = S ++ ((if P < 0 then [112] else [112, 43]) ++ Lib.itoa P) := by
                rw [HR.out, hS]
                unfold hexQ
                rw [if_neg HTn.out, ← HPr.out]
                simp
              obtain ⟨I, hI⟩ : ∃ I, Lib.itoa P = I := ⟨_, rfl⟩
              rw [hI] at HWh hRR hil
              obtain ⟨II, hII⟩ : ∃ II, bsA I = II := ⟨_, rfl⟩
              have hIs : II.size ≤ 100 := by rw [← hII, bs_size]; exact hil
              rw [hII] at HWh
              rw [hSS]
              have g3 : ¬ 9223372036854775807 < SS.size + 1 := by omega
              have g4 : ¬ 9223372036854775807 < SS.size + 1 + II.size := by omega
              have g5 : ¬ 9223372036854775807 < SS.size + 2 := by omega
              have g6 : ¬ 9223372036854775807 < SS.size + 2 + II.size := by omega
              by_cases hp : P < 0
              · have HF : Hid (SS ++ bsA [112] ++ II = bsA R) := by
                  show _ = _
                  rw [hRR, if_pos hp, ← hSS, ← hII, bs_app, bs_app, List.append_assoc]
                clear hRR hSS hII hI hS hil HI HR hjl hSl hml
                go_wp2_with ((go_at_call 61; refine (HWh.out _).mono ?_; rintro e w5 ⟨rfl, hb5⟩; have HB5 := hidT hb5; clear hb5))
                go_ret2
                exact ⟨by rw [← HF.out]; rfl, HB2.out.trans (HB5.out.mono HB2.out.size)⟩
              · have HF : Hid (SS ++ bsA [112, 43] ++ II = bsA R) := by
                  show _ = _
                  rw [hRR, if_neg hp, ← hSS, ← hII, bs_app, bs_app, List.append_assoc]
                clear hRR hSS hII hI hS hil HI HR hjl hSl hml
                go_wp2_with ((go_at_call 61; refine (HWh.out _).mono ?_; rintro e w5 ⟨rfl, hb5⟩; have HB5 := hidT hb5; clear hb5))
                go_ret2
                exact ⟨by rw [← HF.out]; rfl, HB2.out.trans (HB5.out.mono HB2.out.size)⟩
            · have hj13 := HI.out.lt h00
              have q5 : 0 < mj := by omega
              have HNx := hidT (HI.out.next h00)
              obtain ⟨D, R2, hD, hR2, hDl, e1, e2, e3, e4, e5⟩ := dig_facts mj HI.out.ml
              rw [hD, hR2] at HNx
              obtain ⟨SS, hSS⟩ : ∃ SS, bsA S = SS := ⟨_, rfl⟩
              have hsz : SS.size ≤ 30 := by rw [← hSS, bs_size]; omega
              have HSS : Hid (SS ++ (ByteArray.mk #[48, 49, 50, 51, 52, 53, 54, 55, 56, 57, 97, 98, 99, 100, 101, 102]).extract D (D + 1) = bsA (S ++ [UInt8.ofNat (hxD D)])) := by
                show _ = _
                rw [sub_dig hDl, ← hSS, bs_app]
              have HZ : Hid ((SS ++ (ByteArray.mk #[48, 49, 50, 51, 52, 53, 54, 55, 56, 57, 97, 98, 99, 100, 101, 102]).extract D (D + 1)).size = SS.size + 1) := by
                show _ = _
                rw [sub_dig hDl, ← hSS, bs_app, bs_size, bs_size]; simp
              rw [hSS]
              clear hD hR2 h00 hml hSS
              go_wp2_with fail
              go_roundw
              case rel => exact ⟨j2 + 1, R2 * 16, S ++ [UInt8.ofNat (hxD D)], by rw [HSS.out], by congr 1, HNx, by first | exact rfl | exact trivial⟩
              case measure =>
                show 40 - (SS ++ _).size < 40 - SS.size
                rw [HZ.out]
                omega
end Go.Proofs.YtiiajhomdpfafaaGreatDoor
namespace Go.Proofs.YtiiajhomdpfafaaGreatDoor
open Go.RowKit

theorem sz_sz (u : Int) : szI (szI u) = szI u := by unfold szI; omega
theorem sg_sz (u : Int) : sgB (szI u) = false := by unfold sgB szI; exact decide_eq_false (by omega)
theorem spl_sz (u : Int) : splOk (szI u) = splOk u ∧ splE (szI u) = splE u := by
  have h : splOk (szI u) = splOk u := by unfold splOk; rw [sz_sz]
  refine ⟨h, ?_⟩
  unfold splE
  rw [h, sz_sz]
theorem splM_sz {u : Int} (hk : splOk u = true) : splM (szI u) = magI (szI u) := by
  unfold splM
  rw [(spl_sz u).1, hk, sg_sz, sz_sz, if_pos rfl, if_neg (by decide)]
set_option maxRecDepth 20000 in
set_option maxHeartbeats 1600000 in
theorem hexD_zero (u : Nat) (w : World) (sg : Bool) (R : List UInt8) (z E : Int)
    (HR : Hid (R = (if sg then [45] else []) ++ [48, 120, 48, 112, 43, 48]))
    (HNu : Hid (∀ w, Calls Tryz.prog 65 #[.int .u64 (u : Int)] w fun e w' => e = .returned (.bool true) ∧ w' = w))
    (HNe : Hid (∀ w, Calls Tryz.prog 132 #[.int .u64 (u : Int)] w fun e w' => e = .returned (.bool sg) ∧ w' = w))
    (HSz : Hid (∀ w, Calls Tryz.prog 134 #[.int .u64 (u : Int)] w fun e w' => e = .returned (.int .u64 z) ∧ w' = w))
    (HSp : Hid (∀ w, Calls Tryz.prog 133 #[.int .u64 z] w fun e w' => e = .returned (.tuple #[.int .i64 0, .int .i64 E, .bool true]) ∧ Below w.heap.size w w')) :
    Calls Tryz.prog 98 #[.int .u64 (u : Int)] w fun e w' => e = .returned (.tuple #[.string (bsA R), .int .i64 0]) ∧ Below w.heap.size w w' := by
  cases sg
  all_goals
    go_enter Tryz.func98, Tryz.ntmps98
    go_wp2_with (first | (go_at_call 65; refine (HNu.out _).mono ?_; rintro e w2 ⟨rfl, rfl⟩) | (go_at_call 132; refine (HNe.out _).mono ?_; rintro e w2 ⟨rfl, rfl⟩) | (go_at_call 134; refine (HSz.out _).mono ?_; rintro e w2 ⟨rfl, rfl⟩) | (go_at_call 133; refine (HSp.out _).mono ?_; rintro e w2 ⟨rfl, hb2⟩; have HB2 := hidT hb2; clear hb2))
    go_ret2
    exact ⟨by rw [HR.out]; rfl, HB2.out⟩
theorem hexD_ok (u : Nat) (w : World) (hu : U64 (u : Int)) (hk : splOk (u : Int) = true) : Calls Tryz.prog 98 #[.int .u64 (u : Int)] w fun e w' => e = .returned (.tuple #[.string (bsA (hexS u)), .int .i64 0]) ∧ Below w.heap.size w w' := by
  have hz : szI (u : Int) < 9218868437227405312 := of_decide_eq_true hk
  have hlo := szI_lo (u : Int)
  have hsu : U64 (szI (u : Int)) := ⟨by omega, by omega⟩
  obtain ⟨s1, s2⟩ := spl_sz (u : Int)
  have HNu : Hid (∀ w, Calls Tryz.prog 65 #[.int .u64 (u : Int)] w fun e w' => e = .returned (.bool true) ∧ w' = w) := fun w => by
    have := refNumber_any (u : Int) w hu
    rw [hk] at this; exact this
  have HNe : Hid (∀ w, Calls Tryz.prog 132 #[.int .u64 (u : Int)] w fun e w' => e = .returned (.bool (sgB (u : Int))) ∧ w' = w) := fun w => neg2_any (u : Int) w
  have HSz : Hid (∀ w, Calls Tryz.prog 134 #[.int .u64 (u : Int)] w fun e w' => e = .returned (.int .u64 (szI u)) ∧ w' = w) := fun w => size2_any (u : Int) w hu
  have HSp : Hid (∀ w, Calls Tryz.prog 133 #[.int .u64 (szI u)] w fun e w' => e = .returned (.tuple #[.int .i64 (magI (szI u)), .int .i64 (splE u), .bool true]) ∧ Below w.heap.size w w') := fun w => by
    have := refSplit_any (szI (u : Int)) w hsu
    rw [s1, s2, hk, splM_sz hk] at this
    exact this
  by_cases h0 : szI (u : Int) = 0
  · refine hexD_zero u w (sgB (u : Int)) (hexS u) (szI u) (splE u) ?_ HNu HNe HSz ?_
    · show _ = _
      unfold hexS; rw [if_pos h0]
    · intro w
      have := HSp.out w
      rw [show magI (szI (u : Int)) = 0 by unfold magI; rw [h0, if_pos (by decide)]] at this
      exact this
  · obtain ⟨m, hm⟩ : ∃ m, (magI (szI (u : Int))).toNat = m := ⟨_, rfl⟩
    have hmI : magI (szI (u : Int)) = (m : Int) ∧ 0 < m ∧ m < 9007199254740992 := by
      rw [← hm]; unfold magI; split <;> omega
    have hEb : -1074 ≤ splE (u : Int) ∧ splE (u : Int) ≤ 971 := by
      unfold splE plcI; rw [hk]; simp only [h0, ne_eq, not_false_eq_true, decide_true, Bool.and_true, if_true]; split <;> omega
    rw [hmI.1] at HSp
    refine hexD_in u w (sgB (u : Int)) m (splE u) hmI.2.1 hmI.2.2 hEb.1 hEb.2 (hexS u) ?_ HNu HNe HSz HSp
    show _ = _
    unfold hexS; rw [if_neg h0, hm]
end Go.Proofs.YtiiajhomdpfafaaGreatDoor
