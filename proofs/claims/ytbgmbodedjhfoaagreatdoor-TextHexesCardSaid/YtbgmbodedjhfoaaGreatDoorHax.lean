/- What the document's Unhex reads of a number's own text, in plain words. The document reads a number's own text as that number. The document's Unhex: its last part, from where its digits and its power are read. The document's Unhex: from where its digits are read. The document's Unhex: the point and the digits behind it. The document's Unhex at any text. -/
import Derived.Test.YtbgmbodedjhfoaaGreatDoorHaw
namespace Go.Proofs.YtbgmbodedjhfoaaGreatDoor
open Go.RowKit

theorem nb_hx {c : Nat} (h : hxB c = true) : nbI c = (hxV c : Int) := by
  unfold hxB at h
  unfold nbI hxV
  cases hd : dgB c
  · rw [hd] at h
    have h' : 97 ≤ c ∧ c ≤ 102 := by simpa using h
    simp only [Bool.false_eq_true, if_false]
    rw [if_pos h']; omega
  · simp only [if_true]
    unfold dgB at hd
    have := of_decide_eq_true hd
    omega
theorem d2F_seg (s : ByteArray) : ∀ (T : List UInt8) (f i m k : Nat), (∀ c ∈ T, hxB c.toNat = true) → T.length < f → k + T.length ≤ 13 → m < 2 * 16 ^ k → (∀ j c, T[j]? = some c → byN s (i + j) = c.toNat) → i + T.length ≤ s.size → nbI (byN s (i + T.length)) < 0 → d2F s f i (m : Int) (-(4 * (k : Int))) = (i + T.length, (hxW m T : Int), -(4 * ((k + T.length : Nat) : Int)))
  | _, 0, _, _, _, _, h, _, _, _, _, _ => absurd h (by omega)
  | [], f + 1, i, m, k, _, _, _, _, _, _, he => by
    show (if _ then _ else _) = _
    rw [if_neg (fun h => by have h' : nbI (byN s i) < 0 := he; omega)]
    rfl
  | c :: r, f + 1, i, m, k, hT, hf, hk, hm, hs, hi, he => by
    have h0 : byN s i = c.toNat := hs 0 c rfl
    have hc := hT c (by simp)
    have hv := hxV_lt hc
    have hnb := nb_hx hc
    rw [List.length_cons] at hf hk hi he
    have hp : 16 ^ k ≤ 16 ^ 12 := Nat.pow_le_pow_right (by decide) (by omega)
    have e12 : (16 : Nat) ^ 12 = 281474976710656 := by decide
    show (if _ then _ else _) = _
    rw [h0, hnb, if_pos ⟨by omega, by omega, by omega⟩]
    have e1 : IntKind.i64.wrap (16 * (m : Int)) = 16 * (m : Int) := by rw [IntKind.wrap_i64]; omega
    have e2 : IntKind.i64.wrap (16 * (m : Int) + (hxV c.toNat : Int)) = ((m * 16 + hxV c.toNat : Nat) : Int) := by rw [IntKind.wrap_i64]; omega
    rw [e1, e2, show -(4 * (k : Int)) - 4 = -(4 * ((k + 1 : Nat) : Int)) by omega]
    rw [d2F_seg s r f (i + 1) (m * 16 + hxV c.toNat) (k + 1) (fun x hx => hT x (by simp [hx])) (by omega) (by omega) (by rw [Nat.pow_succ]; omega) (fun j x hx => by rw [show i + 1 + j = i + (j + 1) by omega]; exact hs (j + 1) x hx) (by omega) (by rw [show i + 1 + r.length = i + (r.length + 1) by omega]; exact he)]
    rw [List.length_cons, show i + 1 + r.length = i + (r.length + 1) by omega, show k + 1 + r.length = k + (r.length + 1) by omega]
    rfl
theorem p2F_seg (s : ByteArray) : ∀ (D : List UInt8) (f i n k : Nat), (∀ c ∈ D, digL c) → D.length < f → k + D.length ≤ 4 → n < 10 ^ k → (∀ j c, D[j]? = some c → byN s (i + j) = c.toNat) → i + D.length = s.size → p2F s f i n = (i + D.length, valL n D)
  | _, 0, _, _, _, _, h, _, _, _, _ => absurd h (by omega)
  | [], f + 1, i, n, k, _, _, _, _, _, hi => by
    have hi' : i = s.size := hi
    show (if _ then _ else _) = _
    rw [if_neg (fun h => by omega)]
    rfl
  | c :: r, f + 1, i, n, k, hD, hf, hk, hn, hs, hi => by
    have h0 : byN s i = c.toNat := hs 0 c rfl
    have hc := hD c (by simp)
    have hcd : dgB c.toNat = true := by unfold digL at hc; unfold dgB; simpa using hc
    unfold digL at hc
    rw [List.length_cons] at hf hk hi
    have hp : 10 ^ k ≤ 10 ^ 3 := Nat.pow_le_pow_right (by decide) (by omega)
    have e3 : (10 : Nat) ^ 3 = 1000 := by decide
    show (if _ then _ else _) = _
    rw [h0, if_pos ⟨by omega, hcd, by omega⟩]
    rw [p2F_seg s r f (i + 1) (10 * n + (c.toNat - 48)) (k + 1) (fun x hx => hD x (by simp [hx])) (by omega) (by omega) (by rw [Nat.pow_succ]; omega) (fun j x hx => by rw [show i + 1 + j = i + (j + 1) by omega]; exact hs (j + 1) x hx) (by omega)]
    rw [List.length_cons, show i + 1 + r.length = i + (r.length + 1) by omega]
    show _ = (_, valL (n * 10 + (c.toNat - 48)) r)
    rw [Nat.mul_comm]
end Go.Proofs.YtbgmbodedjhfoaaGreatDoor
namespace Go.Proofs.YtbgmbodedjhfoaaGreatDoor
open Go.RowKit

theorem rd2_read (pre : List UInt8) (hpre : pre = [] ∨ pre = [45]) (h : UInt8) (hh : h = 48 ∨ h = 49) (T : List UInt8) (hT : ∀ c ∈ T, hxB c.toNat = true) (hTl : T.length ≤ 13) (g : UInt8) (D : List UInt8) (hD : ∀ c ∈ D, digL c) (hDl : D.length ≤ 4) :
    rd2 (bsA (pre ++ ([48, 120, h] ++ ((if T = [] then [] else 46 :: T) ++ (112 :: g :: D))))) = some (hxW (hxV h.toNat) T, -(4 * (T.length : Int)) + (if g.toNat = 45 then -((valL 0 D : Nat) : Int) else (valL 0 D : Nat))) := by
  obtain ⟨dt, hdt⟩ : ∃ dt, (if T = [] then [] else 46 :: T) = dt := ⟨_, rfl⟩
  rw [hdt]
  obtain ⟨s, hs⟩ : ∃ s, bsA (pre ++ ([48, 120, h] ++ (dt ++ (112 :: g :: D)))) = s := ⟨_, rfl⟩
  obtain ⟨o, ho⟩ : ∃ o, pre.length = o := ⟨_, rfl⟩
  have hb : ∀ j, byN s (o + j) = byN (bsA ([48, 120, h] ++ (dt ++ (112 :: g :: D)))) j := fun j => by rw [← hs]; exact byN_right pre _ o j ho
  have hsz : s.size = o + (3 + (dt.length + (2 + D.length))) := by
    rw [← hs, bs_size]; simp; omega
  have hng : (if ngB s then 1 else 0) = o := by
    rcases hpre with e | e
    · have : ngB s = false := by
        have h0 := hb 0
        rw [← ho, e] at h0
        unfold ngB
        rw [show byN s 0 = 48 from h0.trans (byN_mem _ 0 48 rfl)]
        rfl
      rw [this, ← ho, e]; rfl
    · have : ngB s = true := by
        unfold ngB
        rw [← hs, e, show byN (bsA ([45] ++ ([48, 120, h] ++ (dt ++ (112 :: g :: D))))) 0 = 45 from byN_mem _ 0 45 rfl]
        rfl
      rw [this, ← ho, e]; rfl
  have b0 : byN s o = 48 := (hb 0).trans (byN_mem _ 0 48 rfl)
  have b1 : byN s (o + 1) = 120 := (hb 1).trans (byN_mem _ 1 120 rfl)
  have b2 : byN s (o + 2) = h.toNat := (hb 2).trans (byN_mem _ 2 h rfl)
  have hhx : hxB h.toNat = true ∧ hxV h.toNat < 2 := by rcases hh with e | e <;> subst e <;> decide
  have hbd : ∀ j, byN s (o + 3 + j) = byN (bsA (dt ++ (112 :: g :: D))) j := fun j => by
    rw [show o + 3 + j = o + (3 + j) by omega, hb]
    exact byN_right [48, 120, h] _ 3 j rfl
  have hbe : ∀ j, byN s (o + 3 + dt.length + j) = byN (bsA (112 :: g :: D)) j := fun j => by
    rw [show o + 3 + dt.length + j = o + 3 + (dt.length + j) by omega, hbd]
    exact byN_right dt _ _ j rfl
  have n112 : nbI 112 < 0 := by decide
  have hmid : mid2 s o = (o + 3 + dt.length, (hxW (hxV h.toNat) T : Int), -(4 * (T.length : Int))) := by
    unfold mid2
    rw [b2, nb_hx hhx.1]
    by_cases h0 : T = []
    · have e : dt = [] := by rw [← hdt, if_pos h0]
      have b3 : byN s (o + 3) = 112 := by
        have := hbe 0
        rw [e] at this
        exact this.trans (byN_mem _ 0 112 rfl)
      rw [b3, if_neg (fun h => by have := h.2; omega), e, h0]
      rfl
    · have e : dt = 46 :: T := by rw [← hdt, if_neg h0]
      have b3 : byN s (o + 3) = 46 := by
        have := hbd 0
        rw [e] at this
        exact this.trans (byN_mem _ 0 46 rfl)
      have hdl : dt.length = T.length + 1 := by rw [e]; rfl
      rw [if_pos ⟨by omega, b3⟩]
      have hseg := d2F_seg s T 16 (o + 4) (hxV h.toNat) 0 hT (by omega) (by omega) (by simpa using hhx.2) (fun j c hc => by
        have := hbd (j + 1)
        rw [show o + 3 + (j + 1) = o + 4 + j by omega] at this
        rw [this, e]
        exact byN_mem _ (j + 1) c (by
          show (T ++ (112 :: g :: D))[j]? = some c
          rw [List.getElem?_append_left (List.getElem?_eq_some_iff.1 hc).1]; exact hc)) (by omega) (by
        have := hbe 0
        rw [hdl, show o + 3 + (T.length + 1) + 0 = o + 4 + T.length by omega] at this
        rw [this, show byN (bsA (112 :: g :: D)) 0 = 112 from byN_mem _ 0 112 rfl]
        exact n112)
      have e0 : (-(4 * ((0 : Nat) : Int))) = 0 := by decide
      rw [e0] at hseg
      rw [hseg, hdl, show o + 4 + T.length = o + 3 + (T.length + 1) by omega, Nat.zero_add]
  have hlt := hxW_lt T (hxV h.toNat) 0 hT (by simpa using hhx.2)
  have hp13 : 16 ^ (0 + T.length) ≤ 16 ^ 13 := Nat.pow_le_pow_right (by decide) (by omega)
  have e13 : (16 : Nat) ^ 13 = 4503599627370496 := by decide
  have b4 : byN s (o + 3 + dt.length) = 112 := (hbe 0).trans (byN_mem _ 0 112 rfl)
  have b5 : byN s (o + 3 + dt.length + 1) = g.toNat := (hbe 1).trans (byN_mem _ 1 g rfl)
  have hdtl : dt.length ≤ 14 := by
    rw [← hdt]; split
    · simp
    · rw [List.length_cons]; omega
  have ho1 : o ≤ 1 := by rw [← ho]; rcases hpre with e | e <;> rw [e] <;> decide
  have hpw := p2F_seg s D 41 (o + 3 + dt.length + 2) 0 0 hD (by omega) (by omega) (by decide) (fun j c hc => by
    have := hbe (j + 2)
    rw [show o + 3 + dt.length + 2 + j = o + 3 + dt.length + (j + 2) by omega, this]
    exact byN_mem _ (j + 2) c (by simpa using hc)) (by omega)
  rw [hs]
  unfold rd2
  rw [hng, hmid, b0, b1]
  simp only []
  rw [b4, b5, hpw]
  rw [if_neg (by rintro (h' | h' | h' | h') <;> omega), if_neg (by rintro (h' | h' | h' | h') <;> omega)]
  simp
theorem pow_cut (P : Int) (h0 : -5000 ≤ P) (h1 : P ≤ 5000) : ∃ (g : UInt8) (D : List UInt8), (if P < 0 then [112] else [112, 43]) ++ Lib.itoa P = 112 :: g :: D ∧ (∀ c ∈ D, digL c) ∧ D.length ≤ 4 ∧ (if g.toNat = 45 then -((valL 0 D : Nat) : Int) else (valL 0 D : Nat)) = P := by
  by_cases hn : P < 0
  · refine ⟨45, Lib.decDigits P.natAbs, ?_, decL_dig _, dec_len 3 _ (by omega), ?_⟩
    · rw [if_pos hn]; unfold Lib.itoa; rw [if_pos hn]; rfl
    · rw [decL_val, if_pos (by decide)]; omega
  · refine ⟨43, Lib.decDigits P.toNat, ?_, decL_dig _, dec_len 3 _ (by omega), ?_⟩
    · rw [if_neg hn]; unfold Lib.itoa; rw [if_neg hn]; rfl
    · rw [decL_val, if_neg (by decide)]; omega
theorem rd2_hex (b : Nat) (hb : U64 (b : Int)) (hf : splOk (b : Int) = true) : ∃ p, rd2 (bsA (hexS b)) = some p ∧ joinN (p.1 : Nat) p.2 = (szI (b : Int)).toNat := by
  obtain ⟨q, hq, hj⟩ := body_read b hb hf
  have hpre : (if sgB (b : Int) then [45] else []) = ([] : List UInt8) ∨ (if sgB (b : Int) then [45] else []) = ([45] : List UInt8) := by
    cases sgB (b : Int)
    · exact .inl rfl
    · exact .inr rfl
  rw [hexS_eq]
  obtain ⟨pre, he⟩ : ∃ pre : List UInt8, (if sgB (b : Int) then [45] else []) = pre := ⟨_, rfl⟩
  rw [he] at hpre ⊢
  by_cases h0 : szI (b : Int) = 0
  · refine ⟨(0, 0), ?_, ?_⟩
    · have := rd2_read pre hpre 48 (.inl rfl) [] (fun c hc => by cases hc) (by decide) 43 [48] (fun c hc => by
        have : c = 48 := by simpa using hc
        rw [this]; unfold digL; decide) (by decide)
      unfold hexB
      rw [if_pos h0]
      exact this
    · rw [h0]; decide
  · have hz : szI (b : Int) < 9218868437227405312 := of_decide_eq_true hf
    have hlo := szI_lo (b : Int)
    obtain ⟨m, hm⟩ : ∃ m, (magI (szI (b : Int))).toNat = m := ⟨_, rfl⟩
    have hmI : magI (szI (b : Int)) = (m : Int) ∧ 0 < m ∧ m < 9007199254740992 := by
      rw [← hm]; unfold magI; split <;> omega
    obtain ⟨E, hE⟩ : ∃ E, splE (b : Int) = E := ⟨_, rfl⟩
    have hEb : -1074 ≤ E ∧ E ≤ 971 := by
      rw [← hE]; unfold splE plcI; rw [hf]; simp only [h0, ne_eq, not_false_eq_true, decide_true, Bool.and_true, if_true]; split <;> omega
    obtain ⟨r1, r2, r3⟩ := up_range hmI.2.1 hmI.2.2
    obtain ⟨t1, t2, _⟩ := trimH_val _ r1 r2
    obtain ⟨T, hT⟩ : ∃ T, trimH (m * 2 ^ upK m) = T := ⟨_, rfl⟩
    rw [hT] at t1 t2
    have hB : hexB b = [48, 120, 49] ++ hexQ T (E - upK m + 52) := by unfold hexB; rw [if_neg h0, hm, hE, hT]
    obtain ⟨P, hP⟩ : ∃ P : Int, E - upK m + 52 = P := ⟨_, rfl⟩
    rw [hP] at hB
    have hread := hex_read T P t2 t1 (by omega) (by omega)
    rw [hB, hread] at hq
    have hq' : (hxW 1 T, P - T.length * 4) = q := Option.some.inj hq
    rw [← hq'] at hj
    obtain ⟨g, D, c1, c2, c3, c4⟩ := pow_cut P (by omega) (by omega)
    have hr := rd2_read pre hpre 49 (.inr rfl) T t2 t1 g D c2 c3
    rw [c4] at hr
    refine ⟨(hxW 1 T, -(4 * (T.length : Int)) + P), ?_, ?_⟩
    · rw [hB]
      unfold hexQ
      rw [c1]
      exact hr
    · show joinN ((hxW 1 T : Nat) : Int) (-(4 * (T.length : Int)) + P) = _
      rw [show -(4 * (T.length : Int)) + P = P - T.length * 4 by omega]
      exact hj
theorem rd2_un (s : ByteArray) : (∀ p, rd2 s = some p → splOk (unX s p) = true ∧ bsA (hexS (unX s p)) = s → unO s = some (unX s p)) ∧ ((∀ p, rd2 s = some p → ¬ (splOk (unX s p) = true ∧ bsA (hexS (unX s p)) = s)) → unO s = none) := by
  refine ⟨fun p hp h => ?_, fun h => ?_⟩
  · have hu : U64 ((unX s p : Nat) : Int) := by
      have := joinN_lt p.1 p.2
      unfold unX
      split
      · exact ⟨by omega, by omega⟩
      · exact ⟨by omega, by omega⟩
    have := hex_back (unX s p) hu h.1
    rw [h.2] at this
    exact this
  · cases hu : unO s with
    | none => rfl
    | some z =>
      obtain ⟨h1, h2, h3⟩ := unO_some hu
      obtain ⟨p, hp, hj⟩ := rd2_hex z h3 h1
      have hx : unX s p = z := by
        have hs := size_of z h3
        obtain ⟨r, hr⟩ := hexB_head z
        have hng : ngB (bsA (hexS z)) = sgB (z : Int) := by
          unfold ngB
          rw [hexS_eq, byN_bs, hr]
          cases sgB (z : Int)
          · simp
          · simp
        unfold unX
        rw [← h2, hng, hj]
        cases hsg : sgB (z : Int)
        · rw [hsg] at hs; simpa using hs.symm
        · rw [hsg] at hs; simpa using hs.symm
      rw [h2] at hp
      exact absurd ⟨by rw [hx]; exact h1, by rw [hx]; exact h2⟩ (h p hp)
end Go.Proofs.YtbgmbodedjhfoaaGreatDoor
namespace Go.Proofs.YtbgmbodedjhfoaaGreatDoor
open Go.RowKit

def rightO : Nat → Code → Option Code
  | 0, c => some c
  | k + 1, .seq _ b => rightO k b
  | _ + 1, _ => none
theorem wp_right {P : Program} {c : Option Code} {rest : Code} {k : Nat} {Q : Exit → Act → World → Prop} {a : Act} {w : World} (h : ∃ r, c.bind (rightO k) = some r ∧ r.wp P Q a w) (e : c.bind (rightO k) = some rest) : rest.wp P Q a w := by
  obtain ⟨r, hr, hw⟩ := h
  rw [hr] at e
  cases e
  exact hw
set_option maxRecDepth 20000 in
def uhA (s : ByteArray) (i m e : Int) (ng : Bool) (n : Int) (u : Nat → Value) : Act := ⟨⟨.string s :: u 1 :: u 2 :: u 3 :: .int .i64 i :: .int .i64 m :: .int .i64 e :: .bool ng :: .int .i64 n :: u 9 :: u 10 :: u 11 :: u 12 :: u 13 :: u 14 :: u 15 :: u 16 :: u 17 :: u 18 :: u 19 :: u 20 :: u 21 :: u 22 :: u 23 :: u 24 :: u 25 :: u 26 :: u 27 :: u 28 :: u 29 :: u 30 :: u 31 :: u 32 :: u 33 :: u 34 :: u 35 :: u 36 :: u 37 :: u 38 :: u 39 :: u 40 :: u 41 :: u 42 :: u 43 :: u 44 :: u 45 :: u 46 :: u 47 :: u 48 :: u 49 :: u 50 :: u 51 :: u 52 :: u 53 :: u 54 :: u 55 :: u 56 :: u 57 :: u 58 :: u 59 :: u 60 :: u 61 :: u 62 :: u 63 :: u 64 :: u 65 :: u 66 :: u 67 :: u 68 :: u 69 :: u 70 :: u 71 :: u 72 :: u 73 :: u 74 :: u 75 :: u 76 :: u 77 :: u 78 :: u 79 :: u 80 :: u 81 :: u 82 :: u 83 :: u 84 :: u 85 :: u 86 :: u 87 :: u 88 :: u 89 :: u 90 :: u 91 :: u 92 :: u 93 :: u 94 :: u 95 :: u 96 :: u 97 :: u 98 :: u 99 :: u 100 :: u 101 :: u 102 :: u 103 :: u 104 :: u 105 :: u 106 :: u 107 :: u 108 :: u 109 :: u 110 :: u 111 :: u 112 :: u 113 :: u 114 :: u 115 :: u 116 :: u 117 :: u 118 :: u 119 :: u 120 :: u 121 :: u 122 :: u 123 :: u 124 :: u 125 :: u 126 :: u 127 :: u 128 :: u 129 :: u 130 :: u 131 :: u 132 :: u 133 :: u 134 :: u 135 :: u 136 :: u 137 :: u 138 :: u 139 :: u 140 :: u 141 :: u 142 :: u 143 :: u 144 :: u 145 :: u 146 :: u 147 :: u 148 :: u 149 :: u 150 :: u 151 :: u 152 :: u 153 :: u 154 :: u 155 :: u 156 :: u 157 :: u 158 :: u 159 :: u 160 :: u 161 :: u 162 :: u 163 :: u 164 :: u 165 :: u 166 :: u 167 :: u 168 :: u 169 :: u 170 :: u 171 :: []⟩, []⟩
theorem uhA_of {s : ByteArray} {i m e : Int} {ng : Bool} {n : Int} {a : Act} (h : a = uhA s i m e ng n (fun k => a.tmps.getD k undef)) : ∃ u : Nat → Value, a = uhA s i m e ng n u := ⟨_, h⟩
theorem xor_top {J : Nat} (h : J ≤ 9218868437227405312) : bits .xor .u64 (J : Int) 9223372036854775808 = ((J + 9223372036854775808 : Nat) : Int) := by
  show IntKind.u64.wrap ((BitVec.ofInt 64 (J : Int) ^^^ BitVec.ofInt 64 ((9223372036854775808 : Nat) : Int)).toNat : Int) = _
  have e1 : (BitVec.ofInt 64 (J : Int)).toNat = J := by rw [BitVec.toNat_ofInt]; omega
  have e2 : (BitVec.ofInt 64 ((9223372036854775808 : Nat) : Int)).toNat = 9223372036854775808 := by rw [BitVec.toNat_ofInt]; omega
  have e3 : J ^^^ 9223372036854775808 = J + 9223372036854775808 := neg_top h
  rw [BitVec.toNat_xor, e1, e2, e3, IntKind.wrap_u64]
  omega
set_option maxHeartbeats 400000 in
theorem flipT (J : Nat) (h : J ≤ 9218868437227405312) (w : World) : Calls Tryz.prog 26 #[.int .u64 (J : Int)] w fun e w' => e = .returned (.int .u64 ((J + 9223372036854775808 : Nat) : Int)) ∧ w' = w := by
  have hx := xor_top h
  go_enter Tryz.func26, Tryz.ntmps26
  go_wp2
  go_ret
  exact ⟨rfl, rfl⟩
def unPost (s : ByteArray) (w : World) : Exit → Act → World → Prop := bodyPost Tryz.prog Tryz.f9 (fun e w' => e = .returned (.tuple #[.int .u64 (((unO s).getD 0 : Nat) : Int), .int .i64 (if (unO s).isSome then 0 else 20)]) ∧ Below w.heap.size w w')
set_option maxRecDepth 100000 in
set_option maxHeartbeats 6400000 in
theorem unh_end (s : ByteArray) (w w1 : World) (hb1 : Below w.heap.size w w1) (h0 : 0 < s.size) (i : Int) (m : Nat) (e : Int) (ng : Bool) (n : Nat) (u : Nat → Value) (hm : m < 72057594037927936) (he0 : -100 ≤ e) (he1 : e ≤ 0) (hn : n ≤ 200000)
    (hR : rd2 s = some (m, e + (if ng then -(n : Int) else n))) : ∃ r, Tryz.f9.body.bind (rightO 13) = some r ∧ r.wp Tryz.prog (unPost s w) (uhA s i m e ng n u) w1 := by
  refine ⟨_, rfl, ?_⟩
  unfold uhA unPost
  obtain ⟨hU1, hU2⟩ := rd2_un s
  have hU1 := hU1 _ hR
  have hU2 : ¬ (splOk (unX s (m, e + (if ng then -(n : Int) else n))) = true ∧ bsA (hexS (unX s (m, e + (if ng then -(n : Int) else n)))) = s) → unO s = none := fun h => hU2 fun p hp => by
    rw [hR] at hp
    rw [← Option.some.inj hp]; exact h
  obtain ⟨F, hF⟩ : ∃ F : Int, e + (if ng then -(n : Int) else n) = F := ⟨_, rfl⟩
  rw [hF] at hU1 hU2
  have hJl := joinN_lt m F
  have HJ := hidT (refJoin_any (m : Int) F w1 (by omega) (by omega))
  obtain ⟨J, hJ⟩ : ∃ J, joinN (m : Nat) F = J := ⟨_, rfl⟩
  rw [hJ] at HJ hJl
  obtain ⟨X, hX⟩ : ∃ X, unX s (m, F) = X := ⟨_, rfl⟩
  have hXJ : X = if ngB s then J + 9223372036854775808 else J := by rw [← hX, ← hJ]; rfl
  rw [hX] at hU1 hU2
  obtain ⟨c0, hc0⟩ : ∃ c0, s[0]'h0 = c0 := ⟨_, rfl⟩
  have hbk : ∀ h, s[0]'h = c0 := fun _ => hc0
  have hngc : ngB s = decide (c0.toNat = 45) := by unfold ngB byN; rw [dif_pos h0, hc0]
  have hXu : U64 (X : Int) := by rw [hXJ]; split <;> exact ⟨by omega, by omega⟩
  have HFl := hidT (fun w => flipT J hJl w)
  have wF : ∀ x : Int, e + x = F → IntKind.i64.wrap (e + x) = F := fun x hx => by rw [hx, IntKind.wrap_i64]; split at hF <;> omega
  have w1' : IntKind.i64.wrap (-(n : Int)) = -(n : Int) := by rw [IntKind.wrap_i64]; omega
  have HHx : Hid (∀ wa, Below w.heap.size w wa → Calls Tryz.prog 6 #[.int .u64 (X : Int)] wa fun e w' => e = .returned (.tuple #[.string (hxA X), .int .i64 (if splOk (X : Int) then 0 else 20)]) ∧ Below w.heap.size w w') := fun wa hb => by
    unfold hxA
    cases hk : splOk (X : Int)
    · exact (hexD_bad X wa hXu hk).mono fun _ _ ⟨he, hw⟩ => ⟨he, by rw [hw]; exact hb⟩
    · exact (hexD_ok X wa hXu hk).mono fun _ _ ⟨he, hb'⟩ => ⟨he, hb.trans (hb'.mono hb.size)⟩
  have HB1 := hidT hb1
  have h00 : (0 : Int) < (s.size : Int) := by omega
  have HUn : Hid (unO s = if splOk (X : Int) = true ∧ hxA X = s then some X else none) := by
    show _ = _
    unfold hxA
    by_cases hk : splOk (X : Int) = true
    · rw [if_pos hk]
      by_cases hE : bsA (hexS X) = s
      · rw [if_pos ⟨hk, hE⟩]; exact hU1 ⟨hk, hE⟩
      · rw [if_neg (fun h => hE h.2)]; exact hU2 (fun h => hE h.2)
    · rw [if_neg (fun h => hk h.1)]; exact hU2 (fun h => hk h.1)
  clear hU1 hU2 hR hJ hX hXu hb1 hJl hm he0 he1 hn hc0
  have HG : Hid (∀ q : Bool, ng = q → ∃ x : Int, (if q then -(n : Int) else (n : Int)) = x ∧ IntKind.i64.wrap (e + x) = F) := fun q hq => ⟨_, rfl, wF _ (by rw [← hF, hq])⟩
  clear wF hF
  cases hng : ng
  all_goals
    obtain ⟨x, hx, hwx⟩ := HG.out _ hng
    simp only [Bool.false_eq_true, if_false, if_true] at hx
    subst hx
    clear HG hng
    cases hsg : ngB s
  all_goals
    rw [hsg] at hXJ hngc
    simp only [Bool.false_eq_true, if_false, if_true] at hXJ
    have hc45 : ((c0.toNat : Int) == 45) = _ := (show ((c0.toNat : Int) == 45) = decide (c0.toNat = 45) by by_cases h : c0.toNat = 45 <;> simp [h]; omega).trans hngc.symm
    clear hngc hsg
    first | (have hq : X = J := hXJ; rw [← hq] at HJ; clear hq) | rw [← hXJ] at HFl
    clear hXJ
    cases hk : splOk (X : Int)
  all_goals
    rw [hk] at HHx HUn
    simp only [Bool.false_eq_true, false_and, if_false, true_and, if_true] at HHx HUn
    clear hk
    obtain ⟨SX, hSX⟩ : ∃ SX, hxA X = SX := ⟨_, rfl⟩
    rw [hSX] at HHx
    try rw [hSX] at HUn
    clear hSX
    by_cases hE : SX = s
  all_goals
    first
      | (have hEq : (SX.toList == s.toList) = false := ba_ne hE)
      | (subst hE; have hEq : (SX.toList == SX.toList) = true := beq_self_eq_true _)
    have HU2 := HUn.out
    try rw [if_pos rfl] at HU2
    try rw [if_neg hE] at HU2
    rw [HU2]
    clear HU2 HUn
    try clear hE
    go_wp2_with (first | (go_at_call 25; refine HJ.out.mono ?_; rintro e5 w5 ⟨rfl, hb5⟩; have HB5 := hidT (HB1.out.trans (hb5.mono HB1.out.size)); clear hb5) | (go_at_call 26; refine (HFl.out _).mono ?_; rintro e6 w6 ⟨rfl, rfl⟩) | (go_at_call 6; refine (HHx.out _ HB5.out).mono ?_; rintro e7 w7 ⟨rfl, hb7⟩; have HB7 := hidT hb7; clear hb7))
    go_ret2
    exact ⟨rfl, HB7.out⟩
end Go.Proofs.YtbgmbodedjhfoaaGreatDoor
namespace Go.Proofs.YtbgmbodedjhfoaaGreatDoor
open Go.RowKit

set_option maxRecDepth 20000 in
def uhB (s : ByteArray) (i m e : Int) (u : Nat → Value) : Act := ⟨⟨.string s :: u 1 :: u 2 :: u 3 :: .int .i64 i :: .int .i64 m :: .int .i64 e :: u 7 :: u 8 :: u 9 :: u 10 :: u 11 :: u 12 :: u 13 :: u 14 :: u 15 :: u 16 :: u 17 :: u 18 :: u 19 :: u 20 :: u 21 :: u 22 :: u 23 :: u 24 :: u 25 :: u 26 :: u 27 :: u 28 :: u 29 :: u 30 :: u 31 :: u 32 :: u 33 :: u 34 :: u 35 :: u 36 :: u 37 :: u 38 :: u 39 :: u 40 :: u 41 :: u 42 :: u 43 :: u 44 :: u 45 :: u 46 :: u 47 :: u 48 :: u 49 :: u 50 :: u 51 :: u 52 :: u 53 :: u 54 :: u 55 :: u 56 :: u 57 :: u 58 :: u 59 :: u 60 :: u 61 :: u 62 :: u 63 :: u 64 :: u 65 :: u 66 :: u 67 :: u 68 :: u 69 :: u 70 :: u 71 :: u 72 :: u 73 :: u 74 :: u 75 :: u 76 :: u 77 :: u 78 :: u 79 :: u 80 :: u 81 :: u 82 :: u 83 :: u 84 :: u 85 :: u 86 :: u 87 :: u 88 :: u 89 :: u 90 :: u 91 :: u 92 :: u 93 :: u 94 :: u 95 :: u 96 :: u 97 :: u 98 :: u 99 :: u 100 :: u 101 :: u 102 :: u 103 :: u 104 :: u 105 :: u 106 :: u 107 :: u 108 :: u 109 :: u 110 :: u 111 :: u 112 :: u 113 :: u 114 :: u 115 :: u 116 :: u 117 :: u 118 :: u 119 :: u 120 :: u 121 :: u 122 :: u 123 :: u 124 :: u 125 :: u 126 :: u 127 :: u 128 :: u 129 :: u 130 :: u 131 :: u 132 :: u 133 :: u 134 :: u 135 :: u 136 :: u 137 :: u 138 :: u 139 :: u 140 :: u 141 :: u 142 :: u 143 :: u 144 :: u 145 :: u 146 :: u 147 :: u 148 :: u 149 :: u 150 :: u 151 :: u 152 :: u 153 :: u 154 :: u 155 :: u 156 :: u 157 :: u 158 :: u 159 :: u 160 :: u 161 :: u 162 :: u 163 :: u 164 :: u 165 :: u 166 :: u 167 :: u 168 :: u 169 :: u 170 :: u 171 :: []⟩, []⟩
theorem uhB_of {s : ByteArray} {i m e : Int} {a : Act} (h : a = uhB s i m e (fun k => a.tmps.getD k undef)) : ∃ u : Nat → Value, a = uhB s i m e u := ⟨_, h⟩
theorem uh_go {s : ByteArray} {w wa : World} {i m e : Int} {ng : Bool} {n : Int} {a : Act} (ha : ∃ u : Nat → Value, a = uhA s i m e ng n u) (h : ∀ u, ∃ r, Tryz.f9.body.bind (rightO 13) = some r ∧ r.wp Tryz.prog (unPost s w) (uhA s i m e ng n u) wa) : ∃ r, Tryz.f9.body.bind (rightO 13) = some r ∧ r.wp Tryz.prog (unPost s w) a wa := by
  obtain ⟨u, rfl⟩ := ha
  exact h u
theorem un_none {s : ByteArray} (h : rd2 s = none) : unO s = none := (rd2_un s).2 (fun p hp => by rw [h] at hp; cases hp)
theorem ix_of {s : ByteArray} {i : Nat} (h : i < s.size) : ∃ c : UInt8, (∀ h', s[i]'h' = c) ∧ byN s i = c.toNat := ⟨s[i]'h, fun _ => rfl, by unfold byN; rw [dif_pos h]⟩
set_option maxRecDepth 100000 in
set_option maxHeartbeats 6400000 in
theorem unh_mid (s : ByteArray) (w w1 : World) (hb1 : Below w.heap.size w w1) (h0 : 0 < s.size) (h40 : s.size ≤ 40) (i : Nat) (hi : i ≤ 40) (m : Int) (e : Int) (u : Nat → Value) (he0 : -100 ≤ e) (he1 : e ≤ 0)
    (hR : rd2 s = if s.size ≤ i + 1 ∨ byN s i ≠ 112 ∨ m < 0 ∨ 72057594037927936 ≤ m then none else some (m.toNat, e + (if byN s (i + 1) = 45 then -(((p2F s 41 (i + 2) 0).2 : Nat) : Int) else ((p2F s 41 (i + 2) 0).2 : Nat)))) :
    ∃ r, Tryz.f9.body.bind (rightO 9) = some r ∧ r.wp Tryz.prog (unPost s w) (uhB s i m e u) w1 := by
  refine ⟨_, rfl, ?_⟩
  have wi : IntKind.i64.wrap ((i : Int) + 1) = (i : Int) + 1 := by rw [IntKind.wrap_i64]; omega
  have HB1 := hidT hb1
  clear hb1
  by_cases c1 : s.size ≤ i + 1
  · have hU := un_none (hR.trans (if_pos (.inl c1)))
    unfold uhB unPost
    rw [hU]
    have t1 : (s.size : Int) ≤ (i : Int) + 1 := by omega
    clear hR hU c1 h0
    go_wp2_with fail
    (try go_quiet (fail))
    go_wp2_with fail
    all_goals
      go_ret2
      exact ⟨rfl, HB1.out⟩
  · obtain ⟨x, hx, hxb⟩ := ix_of (s := s) (i := i) (by omega)
    have t1 : ¬ (s.size : Int) ≤ (i : Int) + 1 := by omega
    have ti : (i : Int) < (s.size : Int) := by omega
    have ti0 : i < s.size := by omega
    by_cases c2 : byN s i = 112
    · have t2 : (x.toNat : Int) = 112 := by rw [← hxb, c2]; rfl
      by_cases c3 : m < 0
      · have hU := un_none (hR.trans (if_pos (.inr (.inr (.inl c3)))))
        unfold uhB unPost
        rw [hU]
        clear hR hU c2 hxb
        go_wp2_with fail
        (try go_quiet (fail))
        go_wp2_with fail
        all_goals
          go_ret2
          exact ⟨rfl, HB1.out⟩
      · by_cases c4 : 72057594037927936 ≤ m
        · have hU := un_none (hR.trans (if_pos (.inr (.inr (.inr c4)))))
          unfold uhB unPost
          rw [hU]
          clear hR hU c2 hxb
          go_wp2_with fail
          (try go_quiet (fail))
          go_wp2_with fail
          all_goals
            go_ret2
            exact ⟨rfl, HB1.out⟩
        · obtain ⟨y, hy, hyb⟩ := ix_of (s := s) (i := i + 1) (by omega)
          obtain ⟨M, hM⟩ : ∃ M : Nat, m = (M : Int) := ⟨m.toNat, by omega⟩
          subst hM
          rw [if_neg (by rintro (h | h | h | h) <;> omega), Int.toNat_natCast] at hR
          have hMl : M < 72057594037927936 := by omega
          have HE : Hid (∀ (i' : Int) (n : Nat) (ng : Bool) (uu : Nat → Value) (wa : World), n ≤ 200000 → ng = decide (byN s (i + 1) = 45) → n = (p2F s 41 (i + 2) 0).2 → Below w.heap.size w wa → ∃ r, Tryz.f9.body.bind (rightO 13) = some r ∧ r.wp Tryz.prog (unPost s w) (uhA s i' M e ng n uu) wa) := fun i' n ng uu wa h1 h2 h3 h4 => unh_end s w wa h4 h0 i' M e ng n uu hMl he0 he1 h1 (by
            rw [hR, h3, h2]
            by_cases h : byN s (i + 1) = 45 <;> simp [h])
          have HMl := hidT hMl
          have hyN : byN s (i + 1) = y.toNat := hyb
          have wi2 : IntKind.i64.wrap ((i : Int) + 2) = (i : Int) + 2 := by rw [IntKind.wrap_i64]; omega
          have tj : (i : Int) + 1 < (s.size : Int) := by omega
          have tj0 : i + 1 < s.size := by omega
          clear hR hMl c2 hxb
          rw [hyN] at HE
          clear hyN hyb
          cases hng : decide (y.toNat = 45)
          all_goals
            rw [hng] at HE
            have t3 : ((y.toNat : Int) == 45) = _ := (show ((y.toNat : Int) == 45) = decide (y.toNat = 45) by by_cases h : y.toNat = 45 <;> simp [h]; omega).trans hng
            clear hng
            unfold uhB
            go_wp2_with fail
            (try go_quiet (fail))
            go_wp2_with fail
            rename_i K0 hK0
            have HK0 := hidT hK0
            clear hK0
            go_loopw [4, 8] (fun iv nv wr => ∃ f i' n : Nat, iv = .int .i64 (i' : Int) ∧ nv = .int .i64 (n : Int) ∧ n ≤ 100000 ∧ i' + f = i + 43 ∧ Hid (p2F s f i' n = p2F s 41 (i + 2) 0) ∧ Hid (Below w.heap.size w wr)) (fun iv _ _ => (100 - intOf iv).toNat)
            case atStart => exact ⟨41, i + 2, 0, by first | rfl | (congr 1), rfl, by omega, by omega, rfl, HB1⟩
            case round =>
              obtain ⟨f, i', n, rfl, rfl, hn, hf, HPf, HBr⟩ := hrel
              have wi' : IntKind.i64.wrap ((i' : Int) + 1) = (i' : Int) + 1 := by rw [IntKind.wrap_i64]; omega
              by_cases d1 : i' < s.size
              · obtain ⟨c, hc, hcb⟩ := ix_of (s := s) (i := i') d1
                have v1 : (i' : Int) < (s.size : Int) := by omega
                have v0 : (0 : Int) ≤ (i' : Int) := by omega
                obtain ⟨f, rfl⟩ : ∃ f', f = f' + 1 := ⟨f - 1, by omega⟩
                have hst : p2F s (f + 1) i' n = if i' < s.size ∧ dgB (byN s i') = true ∧ n < 10000 then p2F s f (i' + 1) (10 * n + (byN s i' - 48)) else (i', n) := rfl
                rw [hcb] at hst
                by_cases d2 : 48 ≤ c.toNat
                · have v2 : decide ((48 : Int) ≤ (c.toNat : Int)) = true := decide_eq_true (by omega)
                  have v2' : decide (48 ≤ c.toNat) = true := decide_eq_true d2
                  by_cases d3 : c.toNat ≤ 57
                  · have v3 : decide ((c.toNat : Int) ≤ 57) = true := decide_eq_true (by omega)
                    have v3' : decide (c.toNat ≤ 57) = true := decide_eq_true d3
                    have hdg : dgB c.toNat = true := decide_eq_true ⟨d2, d3⟩
                    by_cases d4 : n < 10000
                    · have v4 : decide ((n : Int) < 10000) = true := decide_eq_true (by omega)
                      have v4' : decide (n < 10000) = true := decide_eq_true d4
                      rw [if_pos ⟨d1, hdg, d4⟩] at hst
                      have k1 : IntKind.u8.wrap ((c.toNat : Int) - 48) = (c.toNat : Int) - 48 := by rw [IntKind.wrap_u8]; omega
                      have k2 : IntKind.i64.wrap ((c.toNat : Int) - 48) = (c.toNat : Int) - 48 := by rw [IntKind.wrap_i64]; omega
                      have k3 : IntKind.i64.wrap (10 * (n : Int)) = 10 * (n : Int) := by rw [IntKind.wrap_i64]; omega
                      have k4 : IntKind.i64.wrap (10 * (n : Int) + ((c.toNat : Int) - 48)) = ((10 * n + (c.toNat - 48) : Nat) : Int) := by rw [IntKind.wrap_i64]; omega
                      have HN : Hid (p2F s f (i' + 1) (10 * n + (c.toNat - 48)) = p2F s 41 (i + 2) 0 ∧ 10 * n + (c.toNat - 48) ≤ 100000 ∧ i' + 1 + f = i + 43 ∧ i' < 100) := ⟨by rw [← hst]; exact HPf.out, by omega, by omega, by omega⟩
                      clear hst d2 d3 d4 hdg hn hf HPf
                      go_wp2_with fail
                      go_roundw
                      case rel => exact ⟨f, i' + 1, 10 * n + (c.toNat - 48), by first | rfl | (congr 1), rfl, HN.out.2.1, HN.out.2.2.1, HN.out.1, HBr⟩
                      case measure =>
                        have := HN.out.2.2.2
                        simp [intOf]; omega
                    · have v4 : decide ((n : Int) < 10000) = false := decide_eq_false (by omega)
                      have v4' : decide (n < 10000) = false := decide_eq_false d4
                      rw [if_neg (fun h => d4 h.2.2)] at hst
                      have HX := hidT (fun uu => HE.out (i' : Int) n _ uu wr (by omega) rfl (by rw [← HPf.out, hst]) HBr.out)
                      clear hst HPf HE d2 d3 hn hf d4
                      go_wp2_with fail
                      refine HK0.out _ _ ?_
                      exact wp_right (uh_go (uhA_of rfl) HX.out) rfl
                  · have v3 : decide ((c.toNat : Int) ≤ 57) = false := decide_eq_false (by omega)
                    have v3' : decide (c.toNat ≤ 57) = false := decide_eq_false d3
                    rw [if_neg (fun h => d3 (of_decide_eq_true h.2.1).2)] at hst
                    have HX := hidT (fun uu => HE.out (i' : Int) n _ uu wr (by omega) rfl (by rw [← HPf.out, hst]) HBr.out)
                    clear hst HPf HE d2 hn hf d3
                    go_wp2_with fail
                    refine HK0.out _ _ ?_
                    exact wp_right (uh_go (uhA_of rfl) HX.out) rfl
                · have v2 : decide ((48 : Int) ≤ (c.toNat : Int)) = false := decide_eq_false (by omega)
                  have v2' : decide (48 ≤ c.toNat) = false := decide_eq_false d2
                  rw [if_neg (fun h => d2 (of_decide_eq_true h.2.1).1)] at hst
                  have HX := hidT (fun uu => HE.out (i' : Int) n _ uu wr (by omega) rfl (by rw [← HPf.out, hst]) HBr.out)
                  clear hst HPf HE hn hf d2
                  go_wp2_with fail
                  refine HK0.out _ _ ?_
                  exact wp_right (uh_go (uhA_of rfl) HX.out) rfl
              · have v1 : ¬ (i' : Int) < (s.size : Int) := by omega
                have hst : p2F s f i' n = (i', n) := by
                  cases f with
                  | zero => rfl
                  | succ f =>
                    show (if _ then _ else _) = _
                    rw [if_neg (fun h => d1 h.1)]
                have HX := hidT (fun uu => HE.out (i' : Int) n _ uu wr (by omega) rfl (by rw [← HPf.out, hst]) HBr.out)
                clear hst HPf HE hn hf d1
                go_wp2_with fail
                refine HK0.out _ _ ?_
                exact wp_right (uh_go (uhA_of rfl) HX.out) rfl
    · have hU := un_none (hR.trans (if_pos (.inr (.inl c2))))
      unfold uhB unPost
      rw [hU]
      have t2 : ¬ (x.toNat : Int) = 112 := by rw [← hxb]; omega
      clear hR hU c2 hxb
      go_wp2_with fail
      (try go_quiet (fail))
      go_wp2_with fail
      all_goals
        go_ret2
        exact ⟨rfl, HB1.out⟩
end Go.Proofs.YtbgmbodedjhfoaaGreatDoor
namespace Go.Proofs.YtbgmbodedjhfoaaGreatDoor
open Go.RowKit

theorem then_mono {K1 K2 : Act → World → Prop} {Q : Exit → Act → World → Prop} (h : ∀ a w, K1 a w → K2 a w) : ∀ x a w, Exit.then K1 Q x a w → Exit.then K2 Q x a w := by
  intro x a w hx
  cases x with
  | normal => exact h _ _ hx
  | exit i => exact hx
  | goto l => exact hx
  | ret => exact hx
  | panic c => exact hx
  | outgrown => exact hx
theorem wp_mono1 {P : Program} {c : Code} {Q1 Q2 : Exit → Act → World → Prop} {a : Act} {w : World} (h : c.wp P Q1 a w) (hq : ∀ x a w, Q1 x a w → Q2 x a w) : c.wp P Q2 a w := by
  intro b k cs
  obtain ⟨e, a1, w1, h1, h2⟩ := h b k cs
  exact ⟨e, a1, w1, hq _ _ _ h1, h2⟩
theorem wp_seqK {P : Program} {x y : Code} {Q : Exit → Act → World → Prop} {a : Act} {w : World} (K : Act → World → Prop) (hK : ∀ a w, K a w → y.wp P Q a w) (h : x.wp P (Exit.then K Q) a w) : (Code.seq x y).wp P Q a w := wp_seq (wp_mono1 h (then_mono hK))
set_option maxRecDepth 20000 in
def uhC (s : ByteArray) (i m : Int) (u : Nat → Value) : Act := ⟨⟨.string s :: u 1 :: u 2 :: u 3 :: .int .i64 i :: .int .i64 m :: u 6 :: u 7 :: u 8 :: u 9 :: u 10 :: u 11 :: u 12 :: u 13 :: u 14 :: u 15 :: u 16 :: u 17 :: u 18 :: u 19 :: u 20 :: u 21 :: u 22 :: u 23 :: u 24 :: u 25 :: u 26 :: u 27 :: u 28 :: u 29 :: u 30 :: u 31 :: u 32 :: u 33 :: u 34 :: u 35 :: u 36 :: u 37 :: u 38 :: u 39 :: u 40 :: u 41 :: u 42 :: u 43 :: u 44 :: u 45 :: u 46 :: u 47 :: u 48 :: u 49 :: u 50 :: u 51 :: u 52 :: u 53 :: u 54 :: u 55 :: u 56 :: u 57 :: u 58 :: u 59 :: u 60 :: u 61 :: u 62 :: u 63 :: u 64 :: u 65 :: u 66 :: u 67 :: u 68 :: u 69 :: u 70 :: u 71 :: u 72 :: u 73 :: u 74 :: u 75 :: u 76 :: u 77 :: u 78 :: u 79 :: u 80 :: u 81 :: u 82 :: u 83 :: u 84 :: u 85 :: u 86 :: u 87 :: u 88 :: u 89 :: u 90 :: u 91 :: u 92 :: u 93 :: u 94 :: u 95 :: u 96 :: u 97 :: u 98 :: u 99 :: u 100 :: u 101 :: u 102 :: u 103 :: u 104 :: u 105 :: u 106 :: u 107 :: u 108 :: u 109 :: u 110 :: u 111 :: u 112 :: u 113 :: u 114 :: u 115 :: u 116 :: u 117 :: u 118 :: u 119 :: u 120 :: u 121 :: u 122 :: u 123 :: u 124 :: u 125 :: u 126 :: u 127 :: u 128 :: u 129 :: u 130 :: u 131 :: u 132 :: u 133 :: u 134 :: u 135 :: u 136 :: u 137 :: u 138 :: u 139 :: u 140 :: u 141 :: u 142 :: u 143 :: u 144 :: u 145 :: u 146 :: u 147 :: u 148 :: u 149 :: u 150 :: u 151 :: u 152 :: u 153 :: u 154 :: u 155 :: u 156 :: u 157 :: u 158 :: u 159 :: u 160 :: u 161 :: u 162 :: u 163 :: u 164 :: u 165 :: u 166 :: u 167 :: u 168 :: u 169 :: u 170 :: u 171 :: []⟩, []⟩
theorem uhC_of {s : ByteArray} {i m : Int} {a : Act} (h : a = uhC s i m (fun k => a.tmps.getD k undef)) : ∃ u : Nat → Value, a = uhC s i m u := ⟨_, h⟩
def MidK (s : ByteArray) (w : World) (M : Nat × Int × Int) (a : Act) (wa : World) : Prop := Below w.heap.size w wa ∧ ∃ u, a = uhB s (M.1 : Nat) M.2.1 M.2.2 u
set_option maxRecDepth 100000 in
set_option maxHeartbeats 6400000 in
theorem unh_dot (s : ByteArray) (w w1 : World) (hb1 : Below w.heap.size w w1) (o : Nat) (ho : o ≤ 1) (hs : o + 5 ≤ s.size) (h40 : s.size ≤ 40) (u : Nat → Value)
    (hK : ∀ a wa, MidK s w (mid2 s o) a wa → ∀ rest, Tryz.f9.body.bind (rightO 9) = some rest → rest.wp Tryz.prog (unPost s w) a wa) :
    ∃ r, Tryz.f9.body.bind (rightO 6) = some r ∧ r.wp Tryz.prog (unPost s w) (uhC s o (nbI (byN s (o + 2))) u) w1 := by
  refine ⟨_, rfl, ?_⟩
  obtain ⟨K, hKK⟩ : ∃ K : Act → World → Prop, K = MidK s w (mid2 s o) := ⟨_, rfl⟩
  refine wp_seq (wp_mono1 (Q1 := Exit.then (fun a wa => Code.wp Tryz.prog _ (Exit.then (fun a wa => Code.wp Tryz.prog _ (Exit.then K (unPost s w)) a wa) (unPost s w)) a wa) (unPost s w)) ?_ (then_mono fun a wa h => wp_seq (wp_mono1 h (then_mono fun a wa h => wp_seqK K (fun a wa h => hK a wa (by rw [← hKK]; exact h) _ rfl) h))))
  have HB1 := hidT hb1
  clear hb1 hK
  unfold uhC
  obtain ⟨x3, hx3, hx3b⟩ := ix_of (s := s) (i := o + 3) (by omega)
  have t3 : (o : Int) + 3 < (s.size : Int) := by omega
  have t3' : o + 3 < s.size := by omega
  have w3 : IntKind.i64.wrap ((o : Int) + 3) = (o : Int) + 3 := by rw [IntKind.wrap_i64]; omega
  have w4 : IntKind.i64.wrap ((o : Int) + 3 + 1) = (o : Int) + 4 := by rw [IntKind.wrap_i64]; omega
  obtain ⟨nb, hnb⟩ : ∃ nb, nbI (byN s (o + 2)) = nb := ⟨_, rfl⟩
  have hmid : mid2 s o = if o + 3 < s.size ∧ byN s (o + 3) = 46 then d2F s 16 (o + 4) nb 0 else (o + 3, nb, 0) := by unfold mid2; rw [hnb]
  rw [hnb]
  clear hnb
  by_cases c3 : byN s (o + 3) = 46
  · rw [if_pos ⟨t3', c3⟩] at hmid
    have q3 : (x3.toNat : Int) = 46 := by rw [← hx3b, c3]; rfl
    have HMd := hidT hmid
    clear hmid c3 hx3b
    go_wp2_with fail
    go_loopw [4, 5, 6] (fun iv mv ev wr => ∃ (f i' : Nat) (m e : Int), iv = .int .i64 (i' : Int) ∧ mv = .int .i64 m ∧ ev = .int .i64 e ∧ i' + f = o + 20 ∧ e = 4 * (f : Int) - 64 ∧ Hid (d2F s f i' m e = d2F s 16 (o + 4) nb 0) ∧ Hid (Below w.heap.size w wr)) (fun iv _ _ _ => (100 - intOf iv).toNat)
    case atStart => exact ⟨16, o + 4, nb, 0, by first | rfl | (congr 1), rfl, rfl, by omega, by omega, rfl, HB1⟩
    case round =>
      obtain ⟨f, i', m, e, rfl, rfl, rfl, hf, he, HPf, HBr⟩ := hrel
      have wi' : IntKind.i64.wrap ((i' : Int) + 1) = (i' : Int) + 1 := by rw [IntKind.wrap_i64]; omega
      have we' : IntKind.i64.wrap (e - 4) = e - 4 := by rw [IntKind.wrap_i64]; omega
      by_cases d1 : i' < s.size
      · obtain ⟨c, hc, hcb⟩ := ix_of (s := s) (i := i') d1
        have v1 : (i' : Int) < (s.size : Int) := by omega
        have v0 : (0 : Int) ≤ (i' : Int) := by omega
        obtain ⟨q, hq⟩ : ∃ q, nbI c.toNat = q := ⟨_, rfl⟩
        have HNb : Hid (∀ wa, Calls Tryz.prog 24 #[.int .u8 (c.toNat : Int)] wa fun e w' => e = .returned (.int .i64 q) ∧ w' = wa) := fun wa => by rw [← hq]; exact nib_any c.toNat wa
        have hst0 : ∀ f', f = f' + 1 → d2F s f i' m e = if i' < s.size ∧ 0 ≤ nbI (byN s i') ∧ -60 < e then d2F s f' (i' + 1) (IntKind.i64.wrap (IntKind.i64.wrap (16 * m) + nbI (byN s i'))) (e - 4) else (i', m, e) := fun f' h => by rw [h]; rfl
        rw [hcb, hq] at hst0
        by_cases d2 : 0 ≤ q
        · by_cases d3 : -60 < e
          · obtain ⟨f, rfl⟩ : ∃ f', f = f' + 1 := ⟨f - 1, by omega⟩
            have hst := hst0 f rfl
            rw [if_pos ⟨d1, d2, d3⟩] at hst
            have HN : Hid (d2F s f (i' + 1) (IntKind.i64.wrap (IntKind.i64.wrap (16 * m) + q)) (e - 4) = d2F s 16 (o + 4) nb 0 ∧ i' + 1 + f = o + 20 ∧ e - 4 = 4 * (f : Int) - 64 ∧ i' < 100) := ⟨by rw [← hst]; exact HPf.out, by omega, by omega, by omega⟩
            clear hst hst0 HPf hf hq he
            go_wp2_with ((go_at_call 24; refine (turned0 (HNb.out _)).mono ?_; rintro e9 w9 ⟨rfl, rfl⟩))
            go_roundw
            case rel => exact ⟨f, i' + 1, _, e - 4, by first | rfl | (congr 1), rfl, rfl, HN.out.2.1, HN.out.2.2.1, by have h := HN.out.1; rw [IntWalk.i64_left, IntWalk.i64_left] at h; exact h, HBr⟩
            case measure =>
              have := HN.out.2.2.2
              simp [intOf]; omega
          · have hst : d2F s f i' m e = (i', m, e) := by
              cases f with
              | zero => rfl
              | succ f => rw [hst0 f rfl, if_neg (fun h => d3 h.2.2)]
            have HM : Hid (mid2 s o = (i', m, e)) := by show _ = _; rw [HMd.out, ← HPf.out, hst]
            clear hst hst0 HPf hf hq he
            go_wp2_with ((go_at_call 24; refine (turned0 (HNb.out _)).mono ?_; rintro e9 w9 ⟨rfl, rfl⟩))
            try rw [hKK]
            rw [HM.out]
            exact ⟨HBr.out, uhB_of rfl⟩
        · have hst : d2F s f i' m e = (i', m, e) := by
            cases f with
            | zero => rfl
            | succ f => rw [hst0 f rfl, if_neg (fun h => d2 h.2.1)]
          have HM : Hid (mid2 s o = (i', m, e)) := by show _ = _; rw [HMd.out, ← HPf.out, hst]
          clear hst hst0 HPf hf hq he
          go_wp2_with ((go_at_call 24; refine (turned0 (HNb.out _)).mono ?_; rintro e9 w9 ⟨rfl, rfl⟩))
          try rw [hKK]
          rw [HM.out]
          exact ⟨HBr.out, uhB_of rfl⟩
      · have v1 : ¬ (i' : Int) < (s.size : Int) := by omega
        have hst : d2F s f i' m e = (i', m, e) := by
          cases f with
          | zero => rfl
          | succ f =>
            show (if _ then _ else _) = _
            rw [if_neg (fun h => d1 h.1)]
        have HM : Hid (mid2 s o = (i', m, e)) := by show _ = _; rw [HMd.out, ← HPf.out, hst]
        clear hst HPf hf d1 he
        go_wp2_with fail
        try rw [hKK]
        rw [HM.out]
        exact ⟨HBr.out, uhB_of rfl⟩
  · rw [if_neg (fun h => c3 h.2)] at hmid
    have q3 : ¬ (x3.toNat : Int) = 46 := by rw [← hx3b]; omega
    clear hx3b c3
    go_wp2_with fail
    try rw [hKK]
    rw [hmid]
    exact ⟨HB1.out, uhB_of rfl⟩
end Go.Proofs.YtbgmbodedjhfoaaGreatDoor
namespace Go.Proofs.YtbgmbodedjhfoaaGreatDoor
open Go.RowKit

theorem uhc_go {s : ByteArray} {w wa : World} {i m : Int} {a : Act} (ha : ∃ u : Nat → Value, a = uhC s i m u) (h : ∀ u, ∃ r, Tryz.f9.body.bind (rightO 6) = some r ∧ r.wp Tryz.prog (unPost s w) (uhC s i m u) wa) : ∃ r, Tryz.f9.body.bind (rightO 6) = some r ∧ r.wp Tryz.prog (unPost s w) a wa := by
  obtain ⟨u, rfl⟩ := ha
  exact h u
theorem rd2_far {s : ByteArray} (h : 40 < s.size ∨ s.size < (if ngB s then 1 else 0) + 5 ∨ byN s (if ngB s then 1 else 0) ≠ 48 ∨ byN s ((if ngB s then 1 else 0) + 1) ≠ 120) : rd2 s = none := by unfold rd2; rw [if_pos h]
theorem rd2_near {s : ByteArray} {o : Nat} (ho : (if ngB s then 1 else 0) = o) (h40 : s.size ≤ 40) (h5 : o + 5 ≤ s.size) (h1 : byN s o = 48) (h2 : byN s (o + 1) = 120) : rd2 s = if s.size ≤ (mid2 s o).1 + 1 ∨ byN s (mid2 s o).1 ≠ 112 ∨ (mid2 s o).2.1 < 0 ∨ 72057594037927936 ≤ (mid2 s o).2.1 then none else some ((mid2 s o).2.1.toNat, (mid2 s o).2.2 + (if byN s ((mid2 s o).1 + 1) = 45 then -(((p2F s 41 ((mid2 s o).1 + 2) 0).2 : Nat) : Int) else ((p2F s 41 ((mid2 s o).1 + 2) 0).2 : Nat))) := by
  unfold rd2
  rw [ho, if_neg (by rintro (h | h | h | h) <;> omega)]
theorem d2F_bd (s : ByteArray) (h40 : s.size ≤ 40) : ∀ (f i : Nat) (m e : Int), i ≤ 40 → -64 ≤ e → e ≤ 0 → (d2F s f i m e).1 ≤ 40 ∧ -100 ≤ (d2F s f i m e).2.2 ∧ (d2F s f i m e).2.2 ≤ 0
  | 0, i, m, e, h1, h2, h3 => ⟨h1, by show -100 ≤ e; omega, h3⟩
  | f + 1, i, m, e, h1, h2, h3 => by
    unfold d2F
    split
    · rename_i h
      exact d2F_bd s h40 f (i + 1) _ (e - 4) (by omega) (by omega) (by omega)
    · exact ⟨h1, by show -100 ≤ e; omega, h3⟩
theorem mid2_bd (s : ByteArray) (o : Nat) (ho : o ≤ 1) (h40 : s.size ≤ 40) : (mid2 s o).1 ≤ 40 ∧ -100 ≤ (mid2 s o).2.2 ∧ (mid2 s o).2.2 ≤ 0 := by
  unfold mid2
  split
  · exact d2F_bd s h40 _ _ _ _ (by omega) (by omega) (by omega)
  · exact ⟨by show o + 3 ≤ 40; omega, by show (-100 : Int) ≤ 0; omega, by show (0 : Int) ≤ 0; omega⟩
set_option maxRecDepth 100000 in
set_option maxHeartbeats 6400000 in
theorem unhexD_any (s : ByteArray) (w : World) : Calls Tryz.prog 9 #[.string s] w fun e w' => e = .returned (.tuple #[.int .u64 (((unO s).getD 0 : Nat) : Int), .int .i64 (if (unO s).isSome then 0 else 20)]) ∧ Below w.heap.size w w' := by
  by_cases h40 : s.size ≤ 40
  · have i40 : ¬ (40 : Int) < (s.size : Int) := by omega
    by_cases h0 : 0 < s.size
    · have i0 : (0 : Int) < (s.size : Int) := by omega
      obtain ⟨c0, hc0, hc0b⟩ := ix_of (s := s) (i := 0) h0
      cases hng : ngB s
      · have u0 : ¬ (c0.toNat : Int) = 45 := by
          unfold ngB at hng
          rw [hc0b] at hng
          have := of_decide_eq_false hng
          omega
        have ho : (if ngB s then 1 else 0) = 0 := by rw [hng]; rfl
        have hw1 : IntKind.i64.wrap (0 + 5) = 0 + 5 := by decide
        by_cases d1 : s.size < 0 + 5
        · have hU := un_none (rd2_far (by rw [ho]; exact .inr (.inl d1)))
          rw [hU]
          have v1 : (s.size : Int) < 5 := by omega
          clear hU
          go_enter Tryz.func9, Tryz.ntmps9
          go_wp2_with fail
          (try go_quiet (fail))
          all_goals (try go_wp2_with fail)
          all_goals
            go_ret2
            exact ⟨rfl, Below.refl _ _⟩
        · have v1 : ¬ (s.size : Int) < 5 := by omega
          obtain ⟨x0, hx0, hx0b⟩ := ix_of (s := s) (i := 0) (by omega)
          obtain rfl : x0 = c0 := (hx0 h0).symm.trans (hc0 h0)
          clear hc0
          obtain ⟨x1, hx1, hx1b⟩ := ix_of (s := s) (i := 1) (by omega)
          obtain ⟨x2, hx2, hx2b⟩ := ix_of (s := s) (i := 2) (by omega)
          have l0 : (0 : Int) < (s.size : Int) := by omega
          have l1 : (1 : Int) < (s.size : Int) := by omega
          have l2 : (2 : Int) < (s.size : Int) := by omega
          have l0' : 0 < s.size := by omega
          have l1' : 1 < s.size := by omega
          have l2' : 2 < s.size := by omega
          by_cases d2 : byN s 0 = 48
          · have v2 : (x0.toNat : Int) = 48 := by rw [← hx0b, d2]; rfl
            by_cases d3 : byN s 1 = 120
            · have v3 : (x1.toNat : Int) = 120 := by rw [← hx1b, d3]; rfl
              have HX : Hid (∀ u wa, Below w.heap.size w wa → ∃ r, Tryz.f9.body.bind (rightO 6) = some r ∧ r.wp Tryz.prog (unPost s w) (uhC s (0 : Nat) (nbI x2.toNat) u) wa) := fun u wa hb => by
                rw [← hx2b]
                exact unh_dot s w wa hb 0 (by decide) (by omega) h40 u (fun a wb hM rest hr => by
                  obtain ⟨hbb, u2, rfl⟩ := hM
                  obtain ⟨m1, m2, m3⟩ := mid2_bd s 0 (by decide) h40
                  exact wp_right (unh_mid s w wb hbb h0 h40 _ m1 _ _ u2 m2 m3 (rd2_near (o := 0) ho h40 (by omega) d2 d3)) hr)
              have HNb : Hid (∀ wa, Calls Tryz.prog 24 #[.int .u8 (x2.toNat : Int)] wa fun e w' => e = .returned (.int .i64 (nbI x2.toNat)) ∧ w' = wa) := fun wa => nib_any x2.toNat wa
              clear d2 d3 hx0b hx1b hx2b
              go_enter Tryz.func9, Tryz.ntmps9
              go_wp2_with fail
              (try go_quiet (fail))
              (try go_wp2_with fail)
              refine (turned0 (HNb.out _)).mono ?_
              rintro e9 w9 ⟨rfl, rfl⟩
              rename_i K1 hK1 K0 hK0
              have HK1 := hidT hK1
              clear hK1
              go_wp2_with fail
              refine HK1.out _ _ ?_
              refine wp_right (k := 6) (c := Tryz.f9.body) ?_ rfl
              exact uhc_go (uhC_of rfl) (fun u => HX.out u _ (Below.refl _ _))
            · have hU := un_none (rd2_far (by rw [ho]; exact .inr (.inr (.inr d3))))
              rw [hU]
              have v3 : ¬ (x1.toNat : Int) = 120 := by rw [← hx1b]; omega
              clear hU d2 d3 hx0b hx1b hx2b
              go_enter Tryz.func9, Tryz.ntmps9
              go_wp2_with fail
              (try go_quiet (fail))
              all_goals (try go_wp2_with fail)
              all_goals
                go_ret2
                exact ⟨rfl, Below.refl _ _⟩
          · have hU := un_none (rd2_far (by rw [ho]; exact .inr (.inr (.inl d2))))
            rw [hU]
            have v2 : ¬ (x0.toNat : Int) = 48 := by rw [← hx0b]; omega
            clear hU d2 hx0b hx1b hx2b
            go_enter Tryz.func9, Tryz.ntmps9
            go_wp2_with fail
            (try go_quiet (fail))
            all_goals (try go_wp2_with fail)
            all_goals
              go_ret2
              exact ⟨rfl, Below.refl _ _⟩
      · have u0 : (c0.toNat : Int) = 45 := by
          unfold ngB at hng
          rw [hc0b] at hng
          have := of_decide_eq_true hng
          omega
        have ho : (if ngB s then 1 else 0) = 1 := by rw [hng]; rfl
        have hw1 : IntKind.i64.wrap (1 + 5) = 1 + 5 := by decide
        by_cases d1 : s.size < 1 + 5
        · have hU := un_none (rd2_far (by rw [ho]; exact .inr (.inl d1)))
          rw [hU]
          have v1 : (s.size : Int) < 6 := by omega
          clear hU
          go_enter Tryz.func9, Tryz.ntmps9
          go_wp2_with fail
          (try go_quiet (fail))
          all_goals (try go_wp2_with fail)
          all_goals
            go_ret2
            exact ⟨rfl, Below.refl _ _⟩
        · have v1 : ¬ (s.size : Int) < 6 := by omega
          obtain ⟨x0, hx0, hx0b⟩ := ix_of (s := s) (i := 1) (by omega)
          obtain ⟨x1, hx1, hx1b⟩ := ix_of (s := s) (i := 2) (by omega)
          obtain ⟨x2, hx2, hx2b⟩ := ix_of (s := s) (i := 3) (by omega)
          have l0 : (1 : Int) < (s.size : Int) := by omega
          have l1 : (2 : Int) < (s.size : Int) := by omega
          have l2 : (3 : Int) < (s.size : Int) := by omega
          have l0' : 1 < s.size := by omega
          have l1' : 2 < s.size := by omega
          have l2' : 3 < s.size := by omega
          by_cases d2 : byN s 1 = 48
          · have v2 : (x0.toNat : Int) = 48 := by rw [← hx0b, d2]; rfl
            by_cases d3 : byN s 2 = 120
            · have v3 : (x1.toNat : Int) = 120 := by rw [← hx1b, d3]; rfl
              have HX : Hid (∀ u wa, Below w.heap.size w wa → ∃ r, Tryz.f9.body.bind (rightO 6) = some r ∧ r.wp Tryz.prog (unPost s w) (uhC s (1 : Nat) (nbI x2.toNat) u) wa) := fun u wa hb => by
                rw [← hx2b]
                exact unh_dot s w wa hb 1 (by decide) (by omega) h40 u (fun a wb hM rest hr => by
                  obtain ⟨hbb, u2, rfl⟩ := hM
                  obtain ⟨m1, m2, m3⟩ := mid2_bd s 1 (by decide) h40
                  exact wp_right (unh_mid s w wb hbb h0 h40 _ m1 _ _ u2 m2 m3 (rd2_near (o := 1) ho h40 (by omega) d2 d3)) hr)
              have HNb : Hid (∀ wa, Calls Tryz.prog 24 #[.int .u8 (x2.toNat : Int)] wa fun e w' => e = .returned (.int .i64 (nbI x2.toNat)) ∧ w' = wa) := fun wa => nib_any x2.toNat wa
              clear d2 d3 hx0b hx1b hx2b
              go_enter Tryz.func9, Tryz.ntmps9
              go_wp2_with fail
              (try go_quiet (fail))
              (try go_wp2_with fail)
              refine (turned0 (HNb.out _)).mono ?_
              rintro e9 w9 ⟨rfl, rfl⟩
              rename_i K1 hK1 K0 hK0
              have HK1 := hidT hK1
              clear hK1
              go_wp2_with fail
              refine HK1.out _ _ ?_
              refine wp_right (k := 6) (c := Tryz.f9.body) ?_ rfl
              exact uhc_go (uhC_of rfl) (fun u => HX.out u _ (Below.refl _ _))
            · have hU := un_none (rd2_far (by rw [ho]; exact .inr (.inr (.inr d3))))
              rw [hU]
              have v3 : ¬ (x1.toNat : Int) = 120 := by rw [← hx1b]; omega
              clear hU d2 d3 hx0b hx1b hx2b
              go_enter Tryz.func9, Tryz.ntmps9
              go_wp2_with fail
              (try go_quiet (fail))
              all_goals (try go_wp2_with fail)
              all_goals
                go_ret2
                exact ⟨rfl, Below.refl _ _⟩
          · have hU := un_none (rd2_far (by rw [ho]; exact .inr (.inr (.inl d2))))
            rw [hU]
            have v2 : ¬ (x0.toNat : Int) = 48 := by rw [← hx0b]; omega
            clear hU d2 hx0b hx1b hx2b
            go_enter Tryz.func9, Tryz.ntmps9
            go_wp2_with fail
            (try go_quiet (fail))
            all_goals (try go_wp2_with fail)
            all_goals
              go_ret2
              exact ⟨rfl, Below.refl _ _⟩
    · have hU := un_none (rd2_far (s := s) (.inr (.inl (by split <;> omega))))
      rw [hU]
      have i0 : ¬ (0 : Int) < (s.size : Int) := by omega
      have i5 : (s.size : Int) < 5 := by omega
      clear hU
      go_enter Tryz.func9, Tryz.ntmps9
      go_wp2_with fail
      (try go_quiet (fail))
      all_goals (try go_wp2_with fail)
      all_goals
        go_ret2
        exact ⟨rfl, Below.refl _ _⟩
  · have hU := un_none (rd2_far (s := s) (.inl (by omega)))
    rw [hU]
    have i40 : (40 : Int) < (s.size : Int) := by omega
    clear hU
    go_enter Tryz.func9, Tryz.ntmps9
    go_wp2_with fail
    (try go_quiet (fail))
    all_goals (try go_wp2_with fail)
    all_goals
      go_ret2
      exact ⟨rfl, Below.refl _ _⟩
end Go.Proofs.YtbgmbodedjhfoaaGreatDoor
