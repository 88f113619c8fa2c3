/- The document's shape of a list of terms: where each term's part begins, and how deep it is. Package deal: the document's Check of any list of terms. Package deal: the document's Depth of any list of terms. -/
import Derived.Test.YtiiajhomdpfafaaGreatDoorHbd
import Derived.Test.YtiiajhomdpfafaaGreatDoorHbg
import Derived.Test.YtiiajhomdpfafaaGreatDoorRwJ
namespace Go.Proofs.YtiiajhomdpfafaaGreatDoor
open Go.RowKit

theorem fld_kind {t : Trm} (h : fldB t = true) : 1 ≤ t.kind ∧ t.kind ≤ 8 := by
  unfold fldB at h
  by_cases hk : 1 ≤ t.kind ∧ t.kind ≤ 8
  · exact hk
  · rw [if_neg (by omega), if_neg (by omega), if_neg (by omega), if_neg (by omega), if_neg (by omega), if_neg (by omega), if_neg (by omega), if_neg (by omega)] at h
    cases h
structure ShM (w : World) (A S k : Nat) (F D : List Int) (vF vD : Value) (wr : World) : Prop where
  a : wr.heap[A]? = some (.cells #[.slice none 0 0, .slice none 0 0, .int .i64 0] 56)
  s : wr.heap[S]? = some (.cells #[vF, vD, .int .i64 0] 56)
  f : wr.ownsRow w.heap.size 3 1 vF k (rowV inC F)
  d : wr.ownsRow w.heap.size 3 1 vD k (rowV inC D)
  ap : AP vF vD
  bel : Below w.heap.size w wr
theorem ShM.below {w wr w' : World} {A S k : Nat} {F D : List Int} {vF vD : Value} (h : ShM w A S k F D vF vD wr) (hb : Below wr.heap.size wr w') : ShM w A S k F D vF vD w' := ⟨(hb.block _ (lt_of_blk h.a)).trans h.a, (hb.block _ (lt_of_blk h.s)).trans h.s, orow_below h.f hb, orow_below h.d hb, h.ap, h.bel.trans (hb.mono h.bel.size)⟩
structure ShN (w : World) (A S k m : Nat) (xF xD : List Value) (vF vD : Value) (wr : World) : Prop where
  a : wr.heap[A]? = some (.cells #[.slice none 0 0, .slice none 0 0, .int .i64 0] 56)
  s : wr.heap[S]? = some (.cells #[vF, vD, .int .i64 0] 56)
  f : wr.ownsRow w.heap.size 3 1 vF k xF
  d : wr.ownsRow w.heap.size 3 1 vD m xD
  ap : AP vF vD
  bel : Below w.heap.size w wr
theorem ShN.below {w wr w' : World} {A S k m : Nat} {F D : List Value} {vF vD : Value} (h : ShN w A S k m F D vF vD wr) (hb : Below wr.heap.size wr w') : ShN w A S k m F D vF vD w' := ⟨(hb.block _ (lt_of_blk h.a)).trans h.a, (hb.block _ (lt_of_blk h.s)).trans h.s, orow_below h.f hb, orow_below h.d hb, h.ap, h.bel.trans (hb.mono h.bel.size)⟩
theorem orow_far {B sz n S : Nat} {T T' : TypeId} {v : Value} {xs : List Value} {cs : Array Value} {w : World} (h : w.ownsRow B T sz v n xs) (hs : w.heap[S]? = some (.cells cs T')) (hT : T ≠ T') : some S ≠ v.ownBlock := fun e => by
  rcases h.2 with ⟨rfl, _⟩ | ⟨g, cap, cur, rfl, _, hg, _⟩
  · cases e
  · have e' : S = g := by simpa [Value.ownBlock] using e
    subst e'
    rw [hg] at hs
    injection hs with hs
    injection hs with _ hs
    exact hT hs
theorem cell3_of {w : World} {g : Nat} {a b c : Value} {T : TypeId} (h : w.heap[g]? = some (.cells #[a, b, c] T)) : w.cell? ⟨g, 0, none⟩ = some a ∧ w.cell? ⟨g, 1, none⟩ = some b ∧ w.cell? ⟨g, 2, none⟩ = some c ∧ ∀ i, w.frozen? ⟨g, i, none⟩ = false := by
  refine ⟨?_, ?_, ?_, fun i => by simp [World.frozen?, h]⟩ <;>
  · simp only [World.cell?, h, Option.isSome_none, Bool.false_eq_true, if_false]; rfl
def put3A (w : World) (g : Nat) (a b c : Value) : World := ((w.setCell ⟨g, 0, none⟩ a).setCell ⟨g, 1, none⟩ b).setCell ⟨g, 2, none⟩ c
theorem put3A_blk {w : World} {g : Nat} {x y z : Value} {T : TypeId} (h : w.heap[g]? = some (.cells #[x, y, z] T)) (a b c : Value) : (put3A w g a b c).heap[g]? = some (.cells #[a, b, c] T) := by
  have h1 : (w.setCell ⟨g, 0, none⟩ a).heap[g]? = some (.cells #[a, y, z] T) := (heap_setCell_same w g 0 _ _ _ h).trans rfl
  have h2 : ((w.setCell ⟨g, 0, none⟩ a).setCell ⟨g, 1, none⟩ b).heap[g]? = some (.cells #[a, b, z] T) := (heap_setCell_same _ g 1 _ _ _ h1).trans rfl
  exact (heap_setCell_same _ g 2 _ _ _ h2).trans rfl
theorem put3A_bel {w : World} {g B : Nat} (a b c : Value) (h : B ≤ g) : Below B w (put3A w g a b c) := (((Below.refl B w).setCell (p := ⟨g, 0, none⟩) h _).setCell (p := ⟨g, 1, none⟩) h _).setCell (p := ⟨g, 2, none⟩) h _
theorem put3A_far {w : World} {g i : Nat} (a b c : Value) (h : i ≠ g) : (put3A w g a b c).heap[i]? = w.heap[i]? := by
  unfold put3A
  rw [blkF_far _ _ _ _ h, blkF_far _ _ _ _ h, blkF_far _ _ _ _ h]
theorem int_cells {w : World} {B n : Nat} {v : Value} {F : List Int} (h : w.ownsRow B 3 1 v n (rowV inC F)) (hl : F.length = n) : ∃ p c g, v = .slice p n c ∧ n ≤ c ∧ (0 < n → p = some ⟨g, 0, none⟩) ∧ ∀ j < n, w.cell? ⟨g, j, none⟩ = some (.int .i64 (F.getD j 0)) := by
  obtain ⟨p, c, g, hv, hc, _, hp, _, _, hcl, _⟩ := orow_src h
  refine ⟨p, c, g, hv, hc, hp, fun j hj => ?_⟩
  rw [hcl j (by omega)]
  have := rowV_get (f := inC) (s := 1) (fun _ => rfl) 0 F j 0 (by omega) (by decide)
  rw [Nat.mul_one, Nat.add_zero] at this
  rw [this]; rfl
inductive ShO (ts : List Trm) (n B : Nat) (w' : World) : Ending → Prop
  | bad (k : Nat) (F D : List Int) (p q : Option Addr) (a b c d : Nat) : k < n → shP ts k = some (F, D) → shP ts (k + 1) = none → ShO ts n B w' (.returned (.agg #[.slice p a b, .slice q c d, .int .i64 k]))
  | more (F D : List Int) (p q : Option Addr) (a b c d : Nat) : shP ts n = some (F, D) → 0 < F.getD (n - 1) 0 → ShO ts n B w' (.returned (.agg #[.slice p a b, .slice q c d, .int .i64 ((n : Int) - 1)]))
  | one (F D : List Int) (p q : Option Addr) (a b d : Nat) : shP ts n = some (F, D) → F.getD (n - 1) 0 = 0 → w'.ownsRow B 3 1 (.slice q n d) n (rowV inC D) → ShO ts n B w' (.returned (.agg #[.slice p a b, .slice q n d, .int .i64 (-1)]))
set_option maxRecDepth 20000 in
def shA (tv : Value) (A S : Nat) (i f d : Int) (ft : Bool) (u : Nat → Value) : Act := ⟨⟨tv :: undef :: .pointer (some ⟨A, 0, none⟩) :: .pointer (some ⟨S, 0, none⟩) :: .int .i64 i :: .int .i64 f :: .int .i64 d :: .bool ft :: u 8 :: u 9 :: u 10 :: u 11 :: u 12 :: u 13 :: u 14 :: u 15 :: u 16 :: u 17 :: u 18 :: u 19 :: u 20 :: u 21 :: u 22 :: u 23 :: u 24 :: u 25 :: u 26 :: u 27 :: u 28 :: u 29 :: u 30 :: u 31 :: u 32 :: u 33 :: u 34 :: u 35 :: u 36 :: u 37 :: u 38 :: u 39 :: u 40 :: u 41 :: u 42 :: u 43 :: u 44 :: u 45 :: u 46 :: u 47 :: u 48 :: u 49 :: u 50 :: u 51 :: u 52 :: u 53 :: u 54 :: u 55 :: u 56 :: u 57 :: u 58 :: u 59 :: u 60 :: u 61 :: u 62 :: u 63 :: u 64 :: u 65 :: u 66 :: u 67 :: u 68 :: u 69 :: u 70 :: u 71 :: u 72 :: u 73 :: u 74 :: u 75 :: u 76 :: u 77 :: u 78 :: u 79 :: u 80 :: u 81 :: u 82 :: u 83 :: u 84 :: u 85 :: u 86 :: u 87 :: u 88 :: u 89 :: u 90 :: u 91 :: u 92 :: u 93 :: u 94 :: u 95 :: u 96 :: u 97 :: u 98 :: u 99 :: u 100 :: u 101 :: u 102 :: u 103 :: u 104 :: u 105 :: u 106 :: u 107 :: u 108 :: u 109 :: u 110 :: u 111 :: u 112 :: u 113 :: u 114 :: u 115 :: u 116 :: u 117 :: u 118 :: u 119 :: u 120 :: u 121 :: u 122 :: u 123 :: u 124 :: u 125 :: u 126 :: u 127 :: u 128 :: u 129 :: u 130 :: u 131 :: u 132 :: u 133 :: u 134 :: u 135 :: u 136 :: u 137 :: u 138 :: u 139 :: u 140 :: u 141 :: u 142 :: u 143 :: u 144 :: u 145 :: u 146 :: u 147 :: u 148 :: u 149 :: u 150 :: u 151 :: u 152 :: u 153 :: u 154 :: u 155 :: u 156 :: u 157 :: u 158 :: u 159 :: u 160 :: u 161 :: u 162 :: u 163 :: u 164 :: u 165 :: u 166 :: u 167 :: u 168 :: undef :: undef :: undef :: undef :: undef :: undef :: undef :: undef :: undef :: undef :: undef :: undef :: undef :: undef :: []⟩, []⟩
inductive TlK (w : World) (A S k : Nat) (F D : List Int) (vF vD tv : Value) (R : Option (Int × Int)) : Act → World → Prop
  | no (u : Nat → Value) (wa : World) : R = none → ShM w A S k F D vF vD wa → TlK w A S k F D vF vD tv R (shA tv A S k k 1 false u) wa
  | yes (f d : Int) (u : Nat → Value) (wa : World) : R = some (f, d) → ShM w A S k F D vF vD wa → TlK w A S k F D vF vD tv R (shA tv A S k f d true u) wa
theorem tl_no {w : World} {A S k : Nat} {F D : List Int} {vF vD tv : Value} {R : Option (Int × Int)} {a : Act} {wa : World} (h : a = shA tv A S k k 1 false (fun j => a.tmps.getD j undef)) (hR : R = none) (hm : ShM w A S k F D vF vD wa) : TlK w A S k F D vF vD tv R a wa := by
  rw [h]; exact .no _ _ hR hm
theorem tl_yes {w : World} {A S k : Nat} {F D : List Int} {vF vD tv : Value} {R : Option (Int × Int)} {a : Act} {wa : World} (f d : Int) (h : a = shA tv A S k f d true (fun j => a.tmps.getD j undef)) (hR : R = some (f, d)) (hm : ShM w A S k F D vF vD wa) : TlK w A S k F D vF vD tv R a wa := by
  rw [h]; exact .yes _ _ _ _ hR hm
theorem then_monod {K1 K2 : Act → World → Prop} {Q : Exit → Act → World → Prop} (h : ∀ a w, K1 a w → K2 a w) : ∀ x a w, Exit.then K1 Q x a w → Exit.then K2 Q x a w := by
  intro x a w hx
  cases x with
  | normal => exact h _ _ hx
  | exit i => exact hx
  | goto l => exact hx
  | ret => exact hx
  | panic c => exact hx
  | outgrown => exact hx
theorem wp_mono1d {P : Program} {c : Code} {Q1 Q2 : Exit → Act → World → Prop} {a : Act} {w : World} (h : c.wp P Q1 a w) (hq : ∀ x a w, Q1 x a w → Q2 x a w) : c.wp P Q2 a w := by
  intro b k cs
  obtain ⟨e, a1, w1, h1, h2⟩ := h b k cs
  exact ⟨e, a1, w1, hq _ _ _ h1, h2⟩
theorem stopL {P : Program} {ops : Array Oper} {Q : Exit → Act → World → Prop} {rest : List Oper} {a : Act} {w : World} (h : ∀ L, Hid (rest = L) → wpList P ops Q L a w) : wpList P ops Q rest a w := h rest rfl
theorem wp_seqKd {P : Program} {x y : Code} {Q : Exit → Act → World → Prop} {a : Act} {w : World} (K : Act → World → Prop) (hK : ∀ a w, K a w → y.wp P Q a w) (h : x.wp P (Exit.then K Q) a w) : (Code.seq x y).wp P Q a w := wp_seq (wp_mono1d h (then_monod hK))
theorem sh_put0 {w w5 : World} {A S k : Nat} {F D : List Value} {vF vD v5 : Value} (hA : w5.heap[A]? = some (.cells #[.slice none 0 0, .slice none 0 0, .int .i64 0] 56)) (hS : w5.heap[S]? = some (.cells #[vF, vD, .int .i64 0] 56)) (hf : w5.ownsRow w.heap.size 3 1 v5 (k + 1) F) (hd : w5.ownsRow w.heap.size 3 1 vD k D) (hap : AP v5 vD) (hb : Below w.heap.size w w5) (h1 : w.heap.size ≤ S) (h2 : A ≠ S) : ShN w A S (k + 1) k F D v5 vD (w5.setCell ⟨S, 0, none⟩ v5) :=
  ⟨(blkF_far _ _ _ _ h2).trans hA, (heap_setCell_same _ S 0 _ _ _ hS).trans rfl, orow_keep hf fun g hg => blkF_far _ _ _ _ (fun e => orow_far hf hS (by decide) (by rw [hg, e])), orow_keep hd fun g hg => blkF_far _ _ _ _ (fun e => orow_far hd hS (by decide) (by rw [hg, e])), hap, hb.setCell (p := ⟨S, 0, none⟩) h1 _⟩
theorem sh_put1 {w w8 : World} {A S k : Nat} {F D : List Int} {f d : Int} {vF vD v8 : Value} (hA : w8.heap[A]? = some (.cells #[.slice none 0 0, .slice none 0 0, .int .i64 0] 56)) (hS : w8.heap[S]? = some (.cells #[vF, vD, .int .i64 0] 56)) (hf : w8.ownsRow w.heap.size 3 1 vF (k + 1) (rowV inC F ++ rowV inC [f])) (hd : w8.ownsRow w.heap.size 3 1 v8 (k + 1) (rowV inC D ++ rowV inC [d])) (hap : AP vF v8) (hb : Below w.heap.size w w8) (h1 : w.heap.size ≤ S) (h2 : A ≠ S) : ShM w A S (k + 1) (F ++ [f]) (D ++ [d]) vF v8 (w8.setCell ⟨S, 1, none⟩ v8) := by
  rw [← rowV_append] at hf hd
  exact ⟨(blkF_far _ _ _ _ h2).trans hA, (heap_setCell_same _ S 1 _ _ _ hS).trans rfl, orow_keep hf fun g hg => blkF_far _ _ _ _ (fun e => orow_far hf hS (by decide) (by rw [hg, e])), orow_keep hd fun g hg => blkF_far _ _ _ _ (fun e => orow_far hd hS (by decide) (by rw [hg, e])), hap, hb.setCell (p := ⟨S, 1, none⟩) h1 _⟩
set_option maxRecDepth 20000 in
set_option maxHeartbeats 51200000 in
theorem shape_any (ts : List Trm) (n : Nat) (p0 : Option Addr) (b off c : Nat) (w : World) (hs : TDS w p0 b off ts) (hn : ts.length = n) (hu : ∀ i < n, TrU (ts.getD i trm0)) (h1 : 1 ≤ n) (h2 : n ≤ 1024) :
    Calls Tryz.prog 17 #[.slice p0 n c] w fun e w' => ShO ts n w.heap.size w' e ∧ Below w.heap.size w w' := by
  have HS := hidD (And.intro hs (And.intro hn hu))
  have hst := store_fltD
  have HM0 : Hid (ShM w w.heap.size (w.heap.size + 1) 0 [] [] (.slice none 0 0) (.slice none 0 0) ((w.alloc (.cells #[.slice none 0 0, .slice none 0 0, .int .i64 0] 56)).alloc (.cells #[.slice none 0 0, .slice none 0 0, .int .i64 0] 56))) := by
    refine ⟨?_, ?_, orow_nil _ _ _ _, orow_nil _ _ _ _, .inl rfl, ((Below.refl _ _).alloc (Nat.le_refl _) _).alloc (by simp) _⟩
    · rw [al_at, sz_al, if_neg (by omega)]; exact heap_alloc_new _ _
    · rw [al_at, sz_al, if_pos rfl]
  clear hs hn hu
  go_enter Tryz.func17, Tryz.ntmps17
  go_wp2_with fail
  generalize hw3 : World.alloc _ _ = w3 at HM0 ⊢
  obtain ⟨S, hS⟩ : ∃ S, w.heap.size + 1 = S := ⟨_, rfl⟩
  rw [hS] at HM0 ⊢
  obtain ⟨A, hA⟩ : ∃ A, w.heap.size = A := ⟨_, rfl⟩
  have HG : Hid (w.heap.size ≤ A ∧ w.heap.size ≤ S ∧ A ≠ S) := ⟨by omega, by omega, by omega⟩
  rw [hA] at HM0 ⊢
  clear hw3 hS hA
  go_loopw [4] (fun i wr => ∃ (k : Nat) (F D : List Int) (vF vD : Value), k ≤ n ∧ i = .int .i64 k ∧ Hid (shP ts k = some (F, D)) ∧ Hid (ShM w A S k F D vF vD wr)) (fun i _ => n - (intOf i).toNat)
  case atStart => exact ⟨0, [], [], _, _, Nat.zero_le _, rfl, rfl, HM0⟩
  case round =>
    clear HM0
    obtain ⟨k, F, D, vF, vD, hk, rfl, HP, HI⟩ := hrel
    obtain ⟨hSI, _⟩ := shP_inv HP.out
    have HSI := hidD hSI
    obtain ⟨pF, cF, gF, rfl, hcF, hpF, hclF⟩ := int_cells HI.out.f hSI.lf
    obtain ⟨pD, cD, gD, rfl, hcD, hpD, hclD⟩ := int_cells HI.out.d hSI.ld
    have HCF := hidD (And.intro hpF hclF)
    have HCD := hidD (And.intro hpD hclD)
    have HL := hidD (And.intro hcF hcD)
    clear hSI hpF hclF hpD hclD hcF hcD
    by_cases hlt : k < n
    · have hlt' : k < ts.length := by rw [HS.out.2.1]; exact hlt
      have HSr := HS.out.1.below HI.out.bel
      obtain rfl := HSr.at_ (by omega)
      have c0 := HSr.c0 k hlt'
      have c1 := HSr.c1 k hlt'
      have c2 := HSr.c2 k hlt'
      have c3 := HSr.c3 k hlt'
      have c4 := HSr.c4 k hlt'
      have c5 := HSr.c5 k hlt'
      have c6 := HSr.c6 k hlt'
      have c7 := HSr.c7 k hlt'
      have c8 := HSr.c8 k hlt'
      have c9 := HSr.c9 k hlt'
      have c10 := HSr.c10 k hlt'
      have HCC : Hid (∀ w', Below w.heap.size w w' → w'.cell? ⟨b, off + k * 11, none⟩ = some (.int .i64 (ts.getD k trm0).kind) ∧ w'.cell? ⟨b, off + k * 11 + 1, none⟩ = some (.int .i64 (ts.getD k trm0).a) ∧ w'.cell? ⟨b, off + k * 11 + 2, none⟩ = some (.int .i64 (ts.getD k trm0).b)) := fun w' hb => ⟨(HS.out.1.below hb).c0 k hlt', (HS.out.1.below hb).c1 k hlt', (HS.out.1.below hb).c2 k hlt'⟩
      have HU := HS.out.2.2 k hlt
      have HF := hidD (flds_any (ts.getD k trm0) HU.x HU.y)
      have HNx := hidD (shP_next HP.out)
      obtain ⟨R, hR⟩ : ∃ R, shS k (ts.getD k trm0) F D = R := ⟨_, rfl⟩
      have HBad : Hid (∀ (p q : Option Addr) (a b c d : Nat) (w' : World), R = none → ShO ts n w.heap.size w' (.returned (.agg #[.slice p a b, .slice q c d, .int .i64 k]))) := fun p q a b c d w' h => .bad k F D p q a b c d hlt HP.out (by rw [HNx.out, hR, h]; rfl)
      have HNew : Hid (∀ f d, R = some (f, d) → shP ts (k + 1) = some (F ++ [f], D ++ [d])) := fun f d h => by rw [HNx.out, hR, h]; rfl
      unfold shS at hR
      have HR := hidD hR
      clear HNx HU HSr hR
      have HKb : Hid (fldB (ts.getD k trm0) = true → (ts.getD k trm0).kind ≠ 1 → (ts.getD k trm0).kind ≠ 2 → (ts.getD k trm0).kind ≠ 3 → ¬ (ts.getD k trm0).kind ≤ 3) := fun h a b c => by have := (fld_kind h).1; omega
      generalize ts.getD k trm0 = t at *
      generalize fldB t = FB at *
      obtain ⟨qk, qa, qb, qx, qy, qd, qt, qc, qo, qn, qm⟩ := t
      unfold trD at HF
      dsimp only at *
      have i1 : (k : Int) < (n : Int) := by omega
      clear hlt'
      go_wp2_with fail
      rename_i K3 hK3 K2 hK2 K1 hK1 K0 hK0
      have HK1 := hidD hK1
      clear hK1
      refine (HF.out _).mono ?_
      rintro e w1 ⟨rfl, hb1⟩
      have HI1 := hidD (HI.out.below hb1)
      obtain ⟨d0, d1, d2⟩ := HCC.out w1 HI1.out.bel
      have hbl : b < w1.heap.size := by have := HS.out.1.lt (by rw [HS.out.2.1]; omega); have := HI1.out.bel.size; omega
      have hbn := Nat.ne_of_lt hbl
      have HCF1 : Hid (∀ j < k, w1.cell? ⟨gF, j, none⟩ = some (.int .i64 (F.getD j 0))) := by
        intro j hj
        have := HCF.out.1 (by omega)
        obtain ⟨p', c', g', e, _, hp', hc'⟩ := int_cells HI1.out.f HSI.out.lf
        injection e with e1 e2 e3
        rw [hp' (by omega), this] at e1
        injection e1 with e1
        injection e1 with e1
        rw [e1]; exact hc' j hj
      have HCD1 : Hid (∀ j < k, w1.cell? ⟨gD, j, none⟩ = some (.int .i64 (D.getD j 0))) := by
        intro j hj
        have := HCD.out.1 (by omega)
        obtain ⟨p', c', g', e, _, hp', hc'⟩ := int_cells HI1.out.d HSI.out.ld
        injection e with e1 e2 e3
        rw [hp' (by omega), this] at e1
        injection e1 with e1
        injection e1 with e1
        rw [e1]; exact hc' j hj
      clear hb1 c0 c1 c2 c3 c4 c5 c6 c7 c8 c9 c10 HI HF HCC
      have S1 := cell3_of HI1.out.s
      obtain ⟨s0, s1, s2, sf⟩ := S1
      have sf2 := sf 2
      clear sf
      go_wp2_with fail
      refine HK1.out _ _ ?_
      clear HK1
      obtain ⟨KT, hKT⟩ : ∃ KT : Act → World → Prop, KT = TlK w A S k F D (.slice pF k cF) (.slice pD k cD) (.slice (some ⟨b, off, none⟩) n c) R := ⟨_, rfl⟩
      have HKT := hidD hKT
      clear hKT
      refine wp_seqKd KT ?_ ?_
      · intro a w1 h
        rw [HKT.out] at h
        clear HI1 HCF1 HCD1 HCF HCD HR HKb d0 d1 d2 hbl hbn s0 s1 s2 sf2 HKT
        cases h with
        | no u _ hRn HI =>
          have HI1 := hidD HI
          have hRN := hRn
          clear hRn HI
          unfold shA
          obtain ⟨s0, s1, s2, sf⟩ := cell3_of HI1.out.s
          have sf2 := sf 2
          clear sf
          have HBk := hidD (fun w' => HBad.out pF pD k cF k cD w' hRN)
          have HA6 : Hid ((w1.setCell ⟨S, 2, none⟩ (.int .i64 k)).heap[A]? = some (.cells #[.slice none 0 0, .slice none 0 0, .int .i64 0] 56)) := (blkF_far _ _ _ _ HG.out.2.2).trans HI1.out.a
          have HS6 : Hid ((w1.setCell ⟨S, 2, none⟩ (.int .i64 k)).heap[S]? = some (.cells #[.slice pF k cF, .slice pD k cD, .int .i64 k] 56)) := (heap_setCell_same _ S 2 _ _ _ HI1.out.s).trans rfl
          have HB6 := hidD (HI1.out.bel.setCell (p := ⟨S, 2, none⟩) HG.out.2.1 (.int .i64 (k : Int)))
          obtain ⟨w6, hw6⟩ : ∃ w6, w1.setCell ⟨S, 2, none⟩ (.int .i64 (k : Int)) = w6 := ⟨_, rfl⟩
          rw [hw6] at HS6 HA6 HB6
          obtain ⟨x0, x1, x2, _⟩ := cell3_of HS6.out
          obtain ⟨y0, y1, y2, yf⟩ := cell3_of HA6.out
          have yf0 := yf 0
          have yf1 := yf 1
          have yf2 := yf 2
          clear yf
          obtain ⟨w7, hw7⟩ : ∃ w7, put3A w6 A (.slice pF k cF) (.slice pD k cD) (.int .i64 (k : Int)) = w7 := ⟨_, rfl⟩
          have hA7 := put3A_blk HA6.out (.slice pF k cF) (.slice pD k cD) (.int .i64 (k : Int))
          have HB7 := hidD (HB6.out.trans (put3A_bel (w := w6) (.slice pF k cF) (.slice pD k cD) (.int .i64 (k : Int)) HG.out.1))
          rw [hw7] at hA7 HB7
          obtain ⟨z0, z1, z2, _⟩ := cell3_of hA7
          unfold put3A at hw7
          clear hA7
          go_wp2_with fail
          exact bodyPost_ret (v := .agg #[.slice pF k cF, .slice pD k cD, .int .i64 (k : Int)]) (by simp [results, Tryz.results17, go_sem, *]) rfl ⟨HBk.out _, HB7.out⟩
        | yes f d u _ hRy HI =>
          have HI1 := hidD HI
          have hRY := hRy
          clear hRy HI
          unfold shA
          obtain ⟨s0, s1, s2, sf⟩ := cell3_of HI1.out.s
          clear sf
          have HNw := hidD (HNew.out f d hRY)
          have HMa := hidD (HI1.out.below (al_bel w1 (.cells #[.int .i64 f] 3)))
          have HCa : Hid (∀ j u, (rowV inC [f])[j]? = some u → (World.alloc w1 (.cells #[.int .i64 f] 3)).cell? ⟨World.heap w1 |>.size, j, none⟩ = some u) := fun j u hj => new_cells w1 (inC f) 3 j u (by simpa [rowV] using hj)
          clear HBad HNew
          go_wp2_with (at_builtin; refine wpList_append_h _ Tryz.underlying54 info_int rfl (by decide) rfl (.tmp 158) (.tmp 160) rfl w.heap.size (.slice pF k cF) k (rowV inC F) rfl HMa.out.f HMa.out.bel.size (World.heap w1 |>.size) 1 1 (rowV inC [f]) rfl rfl HCa.out (rowV_one inC_one _) (by omega) (by omega) ?_; intro v5 w5 ho5 hg5 hn5; refine stopL ?_; intro LL HLL)
          obtain ⟨p5, c5, g5, hv5, _, _, hp5, _⟩ := orow_src ho5
          obtain rfl := hp5 (by omega)
          subst hv5
          have HD5 := hidD (HMa.out.d.kept hg5 HMa.out.ap.symm)
          have HP5 := hidD (AP.next HMa.out.ap.symm HMa.out.d hn5)
          have HS5 := hidD ((hg5.block S (lt_of_blk HMa.out.s) (orow_far HMa.out.f HMa.out.s (by decide))).trans HMa.out.s)
          have HA5 := hidD ((hg5.block A (lt_of_blk HMa.out.a) (orow_far HMa.out.f HMa.out.a (by decide))).trans HMa.out.a)
          have HB5 := hidD (HMa.out.bel.trans (orow_grown HMa.out.f hg5 HMa.out.bel.size))
          have HO5 := hidD ho5
          obtain ⟨q0, q1, q2, qf⟩ := cell3_of HS5.out
          have qf0 := qf 0
          clear qf ho5 hg5 hn5
          have HI6 := hidD (sh_put0 HA5.out HS5.out HO5.out HD5.out HP5.out.symm HB5.out HG.out.2.1 HG.out.2.2)
          obtain ⟨u0, u1, u2, _⟩ := cell3_of HI6.out.s
          have HMb := hidD (HI6.out.below (al_bel (w5.setCell ⟨S, 0, none⟩ (.slice (some ⟨g5, 0, none⟩) (k + 1) c5)) (.cells #[.int .i64 d] 3)))
          have HCb : Hid (∀ j u, (rowV inC [d])[j]? = some u → (World.alloc (w5.setCell ⟨S, 0, none⟩ (.slice (some ⟨g5, 0, none⟩) (k + 1) c5)) (.cells #[.int .i64 d] 3)).cell? ⟨w5.heap.size, j, none⟩ = some u) := fun j u hj => (by have h9 := new_cells (w5.setCell ⟨S, 0, none⟩ (.slice (some ⟨g5, 0, none⟩) (k + 1) c5)) (inC d) 3 j u (by simpa [rowV] using hj); rw [show (World.heap (w5.setCell ⟨S, 0, none⟩ (.slice (some ⟨g5, 0, none⟩) (k + 1) c5))).size = w5.heap.size by simp] at h9; exact h9)
          have eLL := HLL.out
          clear HLL
          subst eLL
          go_wp2_with (at_builtin; refine wpList_append_h _ Tryz.underlying54 info_int rfl (by decide) rfl (.tmp 164) (.tmp 166) rfl w.heap.size (.slice pD k cD) k (rowV inC D) rfl HMb.out.d HMb.out.bel.size w5.heap.size 1 1 (rowV inC [d]) rfl rfl HCb.out (rowV_one inC_one _) (by omega) (by omega) ?_; intro v8 w8 ho8 hg8 hn8; obtain ⟨p8, c8, g8, hv8, _, _, hp8, _⟩ := orow_src ho8; obtain rfl := hp8 (by omega); subst hv8; have HF8 := hidD (HMb.out.f.kept hg8 HMb.out.ap); have HP8 := hidD (AP.next HMb.out.ap HMb.out.f hn8); have HS8 := hidD ((hg8.block S (lt_of_blk HMb.out.s) (orow_far HMb.out.d HMb.out.s (by decide))).trans HMb.out.s); have HA8 := hidD ((hg8.block A (lt_of_blk HMb.out.a) (orow_far HMb.out.d HMb.out.a (by decide))).trans HMb.out.a); have HB8 := hidD (HMb.out.bel.trans (orow_grown HMb.out.d hg8 HMb.out.bel.size)); have HO8 := hidD ho8; obtain ⟨r0, r1, r2, rf⟩ := cell3_of HS8.out; have rf1 := rf 1; clear rf ho8 hg8 hn8; have HI9 := hidD (sh_put1 HA8.out HS8.out HF8.out HO8.out HP8.out HB8.out HG.out.2.1 HG.out.2.2); skip)
          go_wp2_with fail
          go_roundw
          case rel => exact ⟨k + 1, F ++ [f], D ++ [d], _, _, by omega, by go_num, HNw, HI9⟩
          case measure => simp [intOf]; omega
      · clear HBad HNew
        by_cases h1 : qk = 1
        · have HK3 : Hid (qk ≤ 3) := by show _ ≤ _; omega
          have z1 : (qk == 1) = true := beq_iff_eq.2 h1
          clear h1
          cases FB
          · have HRn : Hid (R = none) := by show _ = _; rw [← HR.out]; exact (if_pos rfl)
            clear HR
            go_wp2_with fail
            rw [HKT.out]
            exact tl_no rfl HRn.out HI1.out
          · by_cases ha : qa = 0
            · have za : (qa == 0) = true := by rw [ha]; rfl
              by_cases hb : qb = 0
              · have zb : (qb == 0) = true := by rw [hb]; rfl
                have HRy : Hid (R = some ((k : Int), 1)) := by show _ = _; rw [← HR.out]; exact (by rw [if_neg (by decide), if_pos HK3.out, if_pos ⟨ha, hb⟩])
                clear HR
                go_wp2_with fail
                rw [HKT.out]
                exact tl_yes ((k : Int)) (1) rfl HRy.out HI1.out
              · have zb : (qb == 0) = false := beq_eq_false_iff_ne.2 hb
                have HRn : Hid (R = none) := by show _ = _; rw [← HR.out]; exact (by rw [if_neg (by decide), if_pos HK3.out, if_neg (fun h => hb h.2)])
                clear HR
                go_wp2_with fail
                rw [HKT.out]
                exact tl_no rfl HRn.out HI1.out
            · have za : (qa == 0) = false := beq_eq_false_iff_ne.2 ha
              have HRn : Hid (R = none) := by show _ = _; rw [← HR.out]; exact (by rw [if_neg (by decide), if_pos HK3.out, if_neg (fun h => ha h.1)])
              clear HR
              go_wp2_with fail
              rw [HKT.out]
              exact tl_no rfl HRn.out HI1.out
        by_cases h2 : qk = 2
        · have HK3 : Hid (qk ≤ 3) := by show _ ≤ _; omega
          have z1 : (qk == 1) = false := beq_eq_false_iff_ne.2 (by omega)
          have z2 : (qk == 2) = true := beq_iff_eq.2 h2
          clear h1 h2
          cases FB
          · have HRn : Hid (R = none) := by show _ = _; rw [← HR.out]; exact (if_pos rfl)
            clear HR
            go_wp2_with fail
            rw [HKT.out]
            exact tl_no rfl HRn.out HI1.out
          · by_cases ha : qa = 0
            · have za : (qa == 0) = true := by rw [ha]; rfl
              by_cases hb : qb = 0
              · have zb : (qb == 0) = true := by rw [hb]; rfl
                have HRy : Hid (R = some ((k : Int), 1)) := by show _ = _; rw [← HR.out]; exact (by rw [if_neg (by decide), if_pos HK3.out, if_pos ⟨ha, hb⟩])
                clear HR
                go_wp2_with fail
                rw [HKT.out]
                exact tl_yes ((k : Int)) (1) rfl HRy.out HI1.out
              · have zb : (qb == 0) = false := beq_eq_false_iff_ne.2 hb
                have HRn : Hid (R = none) := by show _ = _; rw [← HR.out]; exact (by rw [if_neg (by decide), if_pos HK3.out, if_neg (fun h => hb h.2)])
                clear HR
                go_wp2_with fail
                rw [HKT.out]
                exact tl_no rfl HRn.out HI1.out
            · have za : (qa == 0) = false := beq_eq_false_iff_ne.2 ha
              have HRn : Hid (R = none) := by show _ = _; rw [← HR.out]; exact (by rw [if_neg (by decide), if_pos HK3.out, if_neg (fun h => ha h.1)])
              clear HR
              go_wp2_with fail
              rw [HKT.out]
              exact tl_no rfl HRn.out HI1.out
        by_cases h3 : qk = 3
        · have HK3 : Hid (qk ≤ 3) := by show _ ≤ _; omega
          have z1 : (qk == 1) = false := beq_eq_false_iff_ne.2 (by omega)
          have z2 : (qk == 2) = false := beq_eq_false_iff_ne.2 (by omega)
          have z3 : (qk == 3) = true := beq_iff_eq.2 h3
          clear h1 h2 h3
          cases FB
          · have HRn : Hid (R = none) := by show _ = _; rw [← HR.out]; exact (if_pos rfl)
            clear HR
            go_wp2_with fail
            rw [HKT.out]
            exact tl_no rfl HRn.out HI1.out
          · by_cases ha : qa = 0
            · have za : (qa == 0) = true := by rw [ha]; rfl
              by_cases hb : qb = 0
              · have zb : (qb == 0) = true := by rw [hb]; rfl
                have HRy : Hid (R = some ((k : Int), 1)) := by show _ = _; rw [← HR.out]; exact (by rw [if_neg (by decide), if_pos HK3.out, if_pos ⟨ha, hb⟩])
                clear HR
                go_wp2_with fail
                rw [HKT.out]
                exact tl_yes ((k : Int)) (1) rfl HRy.out HI1.out
              · have zb : (qb == 0) = false := beq_eq_false_iff_ne.2 hb
                have HRn : Hid (R = none) := by show _ = _; rw [← HR.out]; exact (by rw [if_neg (by decide), if_pos HK3.out, if_neg (fun h => hb h.2)])
                clear HR
                go_wp2_with fail
                rw [HKT.out]
                exact tl_no rfl HRn.out HI1.out
            · have za : (qa == 0) = false := beq_eq_false_iff_ne.2 ha
              have HRn : Hid (R = none) := by show _ = _; rw [← HR.out]; exact (by rw [if_neg (by decide), if_pos HK3.out, if_neg (fun h => ha h.1)])
              clear HR
              go_wp2_with fail
              rw [HKT.out]
              exact tl_no rfl HRn.out HI1.out
        have z1 : (qk == 1) = false := beq_eq_false_iff_ne.2 h1
        have z2 : (qk == 2) = false := beq_eq_false_iff_ne.2 h2
        have z3 : (qk == 3) = false := beq_eq_false_iff_ne.2 h3
        by_cases h5 : qk = 5
        · have z5 : (qk == 5) = true := beq_iff_eq.2 h5
          have HK3 : Hid (¬ qk ≤ 3) := by show ¬ _; omega
          have HK5 := hidD h5
          clear h1 h2 h3 h5
          cases FB
          · have HRn : Hid (R = none) := by show _ = _; rw [← HR.out]; exact (if_pos rfl)
            clear HR
            go_wp2_with fail
            go_quiet (fail)
            go_wp2_with fail
            rw [HKT.out]
            refine tl_no rfl HRn.out (HI1.out.below ?_)
            first | exact below_drewNm (Below.refl _ _) | exact below_drewNm (below_drewNm (Below.refl _ _)) | exact Below.refl _ _
          by_cases hk0 : 0 < k
          rotate_left
          · have HRn : Hid (R = none) := by show _ = _; rw [← HR.out]; exact (by rw [if_neg (by decide), if_neg HK3.out, if_pos HK5.out, if_neg (fun h => hk0 h.1)])
            clear HR
            go_wp2_with fail
            go_quiet (fail)
            go_wp2_with fail
            rw [HKT.out]
            refine tl_no rfl HRn.out (HI1.out.below ?_)
            first | exact below_drewNm (Below.refl _ _) | exact below_drewNm (below_drewNm (Below.refl _ _)) | exact Below.refl _ _
          obtain ⟨j, hj⟩ : ∃ j, k - 1 = j := ⟨_, rfl⟩
          have i0 : (k : Int) - 1 = (j : Int) := by omega
          have i2 : (0 : Int) ≤ (j : Int) := by omega
          have i3 : (j : Int) < (k : Int) := by omega
          have m0 : max 0 (j : Int) = (j : Int) := by omega
          obtain rfl := HCF.out.1 hk0
          obtain rfl := HCD.out.1 hk0
          have cj := HCF1.out j (by omega)
          have dj := HCD1.out j (by omega)
          have b0 := HSI.out.f0 j (by omega)
          have b1 := HSI.out.d0 j (by omega)
          have hcF := HL.out.1
          have hcD := HL.out.2
          rw [hj] at HR
          obtain ⟨fj, hfj⟩ : ∃ fj, F.getD j 0 = fj := ⟨_, rfl⟩
          obtain ⟨ej, hej⟩ : ∃ ej, D.getD j 0 = ej := ⟨_, rfl⟩
          rw [hfj] at cj b0 HR
          rw [hej] at dj b1 HR
          have HJ := hidD hj
          clear hj hfj hej
          by_cases hb : qb = (j : Int)
          rotate_left
          · have zb : (qb == (j : Int)) = false := beq_eq_false_iff_ne.2 hb
            have HRn : Hid (R = none) := by show _ = _; rw [← HR.out]; exact (by rw [if_neg (by decide), if_neg HK3.out, if_pos HK5.out, if_neg (fun h => hb (by have := h.2.1; omega))])
            clear HR
            go_wp2_with fail
            go_quiet (fail)
            go_wp2_with fail
            rw [HKT.out]
            refine tl_no rfl HRn.out (HI1.out.below ?_)
            first | exact below_drewNm (Below.refl _ _) | exact below_drewNm (below_drewNm (Below.refl _ _)) | exact Below.refl _ _
          have zb : (qb == (j : Int)) = true := beq_iff_eq.2 hb
          have HQb := hidD hb
          clear hb
          by_cases hf : 0 < fj
          rotate_left
          · obtain rfl : fj = 0 := by omega
            have HRn : Hid (R = none) := by show _ = _; rw [← HR.out]; exact (by rw [if_neg (by decide), if_neg HK3.out, if_pos HK5.out, if_neg (fun h => hf h.2.2.1)])
            clear HR
            go_wp2_with fail
            go_quiet (fail)
            go_wp2_with fail
            rw [HKT.out]
            refine tl_no rfl HRn.out (HI1.out.below ?_)
            first | exact below_drewNm (Below.refl _ _) | exact below_drewNm (below_drewNm (Below.refl _ _)) | exact Below.refl _ _
          by_cases ha : qa = fj - 1
          rotate_left
          · have za : (qa == fj - 1) = false := beq_eq_false_iff_ne.2 ha
            have HRn : Hid (R = none) := by show _ = _; rw [← HR.out]; exact (by rw [if_neg (by decide), if_neg HK3.out, if_pos HK5.out, if_neg (fun h => ha h.2.2.2)])
            clear HR
            go_wp2_with fail
            go_quiet (fail)
            go_wp2_with fail
            rw [HKT.out]
            refine tl_no rfl HRn.out (HI1.out.below ?_)
            first | exact below_drewNm (Below.refl _ _) | exact below_drewNm (below_drewNm (Below.refl _ _)) | exact Below.refl _ _
          obtain ⟨aa, haa⟩ : ∃ aa : Nat, qa = (aa : Int) := ⟨qa.toNat, by omega⟩
          have za : (qa == fj - 1) = true := beq_iff_eq.2 ha
          subst haa
          have ca := HCF1.out aa (by omega)
          have da := HCD1.out aa (by omega)
          have b2 := HSI.out.f0 aa (by omega)
          have b3 := HSI.out.d0 aa (by omega)
          have i4 : (0 : Int) ≤ (aa : Int) := by omega
          have i5 : (aa : Int) < (k : Int) := by omega
          have HAA : Hid ((aa : Int).toNat = aa) := Int.toNat_natCast aa
          have HQa := hidD ha
          rw [HAA.out] at HR
          obtain ⟨fa, hfa⟩ : ∃ fa, F.getD aa 0 = fa := ⟨_, rfl⟩
          obtain ⟨ea, hea⟩ : ∃ ea, D.getD aa 0 = ea := ⟨_, rfl⟩
          rw [hfa] at ca b2 HR
          rw [hea] at da b3 HR
          obtain ⟨mx, hmx⟩ : ∃ mx, max ea ej = mx := ⟨_, rfl⟩
          have b4 : 1 ≤ mx ∧ mx ≤ 1024 := by omega
          rw [hmx] at HR
          obtain ⟨dn, hdn⟩ : ∃ dn, 1 + mx = dn := ⟨_, rfl⟩
          rw [hdn] at HR
          clear hfa hea ha
          have HRy : Hid (R = some (fa, dn)) := by show _ = _; rw [← HR.out]; exact (by rw [if_neg (by decide), if_neg HK3.out, if_pos HK5.out, if_pos ⟨hk0, by rw [HQb.out, i0], hf, HQa.out⟩])
          clear HR
          go_wp2_with fail
          go_quiet (fail)
          go_wp2_with fail
          go_quiet (fail)
          go_wp2_with fail
          go_quiet (fail)
          go_wp2_with fail
          rw [HKT.out]
          refine tl_yes fa dn rfl HRy.out (HI1.out.below ?_)
          first | exact below_drewNm (below_drewNm (below_drewNm (Below.refl _ _))) | exact below_drewNm (Below.refl _ _) | exact below_drewNm (below_drewNm (Below.refl _ _)) | exact Below.refl _ _
        have z5 : (qk == 5) = false := beq_eq_false_iff_ne.2 h5
        have HK3b : Hid (FB = true → ¬ qk ≤ 3) := fun h hh => by have := HKb.out h h1 h2 h3; omega
        have HK5 := hidD h5
        cases FB
        · clear h1 h2 h3 h5
          have HRn : Hid (R = none) := by show _ = _; rw [← HR.out]; exact (if_pos rfl)
          clear HR
          go_wp2_with fail
          rw [HKT.out]
          exact tl_no rfl HRn.out HI1.out
        have HK3 : Hid (¬ qk ≤ 3) := HK3b.out rfl
        clear h1 h2 h3 h5
        by_cases hk0 : 0 < k
        rotate_left
        · have HRn : Hid (R = none) := by show _ = _; rw [← HR.out]; exact (by rw [if_neg (by decide), if_neg HK3.out, if_neg HK5.out, if_neg (fun h => hk0 h.1)])
          clear HR
          go_wp2_with fail
          rw [HKT.out]
          exact tl_no rfl HRn.out HI1.out
        obtain ⟨j, hj⟩ : ∃ j, k - 1 = j := ⟨_, rfl⟩
        have i0 : (k : Int) - 1 = (j : Int) := by omega
        have i2 : (0 : Int) ≤ (j : Int) := by omega
        have i3 : (j : Int) < (k : Int) := by omega
        obtain rfl := HCF.out.1 hk0
        obtain rfl := HCD.out.1 hk0
        have cj := HCF1.out j (by omega)
        have dj := HCD1.out j (by omega)
        have b0 := HSI.out.f0 j (by omega)
        have b1 := HSI.out.d0 j (by omega)
        have hcF := HL.out.1
        have hcD := HL.out.2
        rw [hj] at HR
        obtain ⟨fj, hfj⟩ : ∃ fj, F.getD j 0 = fj := ⟨_, rfl⟩
        obtain ⟨ej, hej⟩ : ∃ ej, D.getD j 0 = ej := ⟨_, rfl⟩
        rw [hfj] at cj b0 HR
        rw [hej] at dj b1 HR
        have HJ := hidD hj
        clear hj hfj hej
        by_cases ha : qa = (j : Int)
        rotate_left
        · have za : (qa == (j : Int)) = false := beq_eq_false_iff_ne.2 ha
          have HRn : Hid (R = none) := by show _ = _; rw [← HR.out]; exact (by rw [if_neg (by decide), if_neg HK3.out, if_neg HK5.out, if_neg (fun h => ha (by have := h.2.1; omega))])
          clear HR
          go_wp2_with fail
          rw [HKT.out]
          exact tl_no rfl HRn.out HI1.out
        have za : (qa == (j : Int)) = true := beq_iff_eq.2 ha
        have HQa := hidD ha
        clear ha
        by_cases hb : qb = 0
        rotate_left
        · have zb : (qb == 0) = false := beq_eq_false_iff_ne.2 hb
          have HRn : Hid (R = none) := by show _ = _; rw [← HR.out]; exact (by rw [if_neg (by decide), if_neg HK3.out, if_neg HK5.out, if_neg (fun h => hb h.2.2)])
          clear HR
          go_wp2_with fail
          rw [HKT.out]
          exact tl_no rfl HRn.out HI1.out
        have zb : (qb == 0) = true := beq_iff_eq.2 hb
        have HQb := hidD hb
        clear hb
        obtain ⟨dn, hdn⟩ : ∃ dn, 1 + ej = dn := ⟨_, rfl⟩
        rw [hdn] at HR
        have HRy : Hid (R = some (fj, dn)) := by show _ = _; rw [← HR.out]; exact (by rw [if_neg (by decide), if_neg HK3.out, if_neg HK5.out, if_pos ⟨hk0, by rw [HQa.out, i0], HQb.out⟩])
        clear HR
        go_wp2_with fail
        rw [HKT.out]
        exact tl_yes (fj) (dn) rfl HRy.out HI1.out
    · obtain rfl : k = n := by omega
      have i1 : ¬ (k : Int) < (k : Int) := by omega
      obtain rfl := HCF.out.1 (by omega)
      obtain ⟨j, hj⟩ : ∃ j, k - 1 = j := ⟨_, rfl⟩
      have cj := HCF.out.2 j (by omega)
      have i0 : (k : Int) - 1 = (j : Int) := by omega
      have i2 : (0 : Int) ≤ (j : Int) := by omega
      have i3 : (j : Int) < (k : Int) := by omega
      have b0 := HSI.out.f0 j (by omega)
      have HJ := hidD hj
      have HB0 := hidD HI.out.bel
      have hcF := HL.out.1
      obtain ⟨s0, s1, s2, sf⟩ := cell3_of HI.out.s
      have sf2 := sf 2
      clear sf hj
      have HS5 : Hid ((wr.setCell ⟨S, 2, none⟩ (.int .i64 (-1))).heap[S]? = some (.cells #[.slice (some ⟨gF, 0, none⟩) k cF, .slice pD k cD, .int .i64 (-1)] 56)) := (heap_setCell_same _ S 2 _ _ _ HI.out.s).trans rfl
      have HA5 : Hid ((wr.setCell ⟨S, 2, none⟩ (.int .i64 (-1))).heap[A]? = some (.cells #[.slice none 0 0, .slice none 0 0, .int .i64 0] 56)) := (blkF_far _ _ _ _ HG.out.2.2).trans HI.out.a
      have HB5 := hidD (HB0.out.setCell (p := ⟨S, 2, none⟩) HG.out.2.1 (.int .i64 (-1)))
      have HD5 : Hid ((wr.setCell ⟨S, 2, none⟩ (.int .i64 (-1))).ownsRow w.heap.size 3 1 (.slice pD k cD) k (rowV inC D)) := orow_keep HI.out.d fun g hg => blkF_far _ _ _ _ (fun e => orow_far HI.out.d HI.out.s (by decide) (by rw [hg, e]))
      have cj5 : (wr.setCell ⟨S, 2, none⟩ (.int .i64 (-1))).cell? ⟨gF, j, none⟩ = some (.int .i64 (F.getD j 0)) := by
        rw [World.cell?_of_block (w := wr) (blkF_far _ _ _ _ (fun e => orow_far HI.out.f HI.out.s (by decide) (by have e' : gF = S := e; rw [← e']; rfl)))]
        exact cj
      obtain ⟨w5, hw5⟩ : ∃ w5, wr.setCell ⟨S, 2, none⟩ (.int .i64 (-1)) = w5 := ⟨_, rfl⟩
      rw [hw5] at HS5 HA5 HB5 HD5 cj5
      obtain ⟨t0, t1, t2, tf⟩ := cell3_of HS5.out
      have tf2 := tf 2
      obtain ⟨a0, a1, a2, af⟩ := cell3_of HA5.out
      have af0 := af 0
      have af1 := af 1
      have af2 := af 2
      clear tf af cj
      obtain ⟨fj, hfj⟩ : ∃ fj, F.getD j 0 = fj := ⟨_, rfl⟩
      rw [hfj] at cj5 b0
      have HFJ := hidD hfj
      clear hfj
      by_cases h0 : 0 < fj
      · have HS6 : Hid ((w5.setCell ⟨S, 2, none⟩ (.int .i64 (j : Int))).heap[S]? = some (.cells #[.slice (some ⟨gF, 0, none⟩) k cF, .slice pD k cD, .int .i64 (j : Int)] 56)) := (heap_setCell_same _ S 2 _ _ _ HS5.out).trans rfl
        have HA6 : Hid ((w5.setCell ⟨S, 2, none⟩ (.int .i64 (j : Int))).heap[A]? = some (.cells #[.slice none 0 0, .slice none 0 0, .int .i64 0] 56)) := (blkF_far _ _ _ _ HG.out.2.2).trans HA5.out
        have HB6 := hidD (HB5.out.setCell (p := ⟨S, 2, none⟩) HG.out.2.1 (.int .i64 (j : Int)))
        obtain ⟨w6, hw6⟩ : ∃ w6, w5.setCell ⟨S, 2, none⟩ (.int .i64 (j : Int)) = w6 := ⟨_, rfl⟩
        rw [hw6] at HS6 HA6 HB6
        obtain ⟨x0, x1, x2, _⟩ := cell3_of HS6.out
        obtain ⟨y0, y1, y2, yf⟩ := cell3_of HA6.out
        have yf0 := yf 0
        have yf1 := yf 1
        have yf2 := yf 2
        clear yf
        obtain ⟨w7, hw7⟩ : ∃ w7, put3A w6 A (.slice (some ⟨gF, 0, none⟩) k cF) (.slice pD k cD) (.int .i64 (j : Int)) = w7 := ⟨_, rfl⟩
        have hA7 := put3A_blk HA6.out (.slice (some ⟨gF, 0, none⟩) k cF) (.slice pD k cD) (.int .i64 (j : Int))
        have HB7 := hidD (HB6.out.trans (put3A_bel (w := w6) (.slice (some ⟨gF, 0, none⟩) k cF) (.slice pD k cD) (.int .i64 (j : Int)) HG.out.1))
        rw [hw7] at hA7 HB7
        obtain ⟨z0, z1, z2, _⟩ := cell3_of hA7
        have HR : Hid (ShO ts k w.heap.size w7 (.returned (.agg #[.slice (some ⟨gF, 0, none⟩) k cF, .slice pD k cD, .int .i64 (j : Int)]))) := by
          show ShO _ _ _ _ _
          have := ShO.more (B := w.heap.size) (w' := w7) F D (some ⟨gF, 0, none⟩) pD k cF k cD HP.out (by rw [HJ.out, HFJ.out]; exact h0)
          rw [i0] at this; exact this
        unfold put3A at hw7
        clear hA7
        go_wp2_with fail
        exact bodyPost_ret (v := .agg #[.slice (some ⟨gF, 0, none⟩) k cF, .slice pD k cD, .int .i64 (j : Int)]) (by simp [results, Tryz.results17, go_sem, *]) rfl ⟨HR.out, HB7.out⟩
      · obtain ⟨w7, hw7⟩ : ∃ w7, put3A w5 A (.slice (some ⟨gF, 0, none⟩) k cF) (.slice pD k cD) (.int .i64 (-1)) = w7 := ⟨_, rfl⟩
        have hA7 := put3A_blk HA5.out (.slice (some ⟨gF, 0, none⟩) k cF) (.slice pD k cD) (.int .i64 (-1))
        have HB7 := hidD (HB5.out.trans (put3A_bel (w := w5) (.slice (some ⟨gF, 0, none⟩) k cF) (.slice pD k cD) (.int .i64 (-1)) HG.out.1))
        have HD7 : Hid ((put3A w5 A (.slice (some ⟨gF, 0, none⟩) k cF) (.slice pD k cD) (.int .i64 (-1))).ownsRow w.heap.size 3 1 (.slice pD k cD) k (rowV inC D)) := orow_keep HD5.out fun g hg => put3A_far _ _ _ (fun e => orow_far HD5.out HA5.out (by decide) (by rw [hg, e]))
        rw [hw7] at hA7 HB7 HD7
        obtain ⟨z0, z1, z2, _⟩ := cell3_of hA7
        have HR : Hid (ShO ts k w.heap.size w7 (.returned (.agg #[.slice (some ⟨gF, 0, none⟩) k cF, .slice pD k cD, .int .i64 (-1)]))) := .one F D _ _ _ _ _ HP.out (by rw [HJ.out, HFJ.out]; omega) HD7.out
        unfold put3A at hw7
        clear hA7
        go_wp2_with fail
        exact bodyPost_ret (v := .agg #[.slice (some ⟨gF, 0, none⟩) k cF, .slice pD k cD, .int .i64 (-1)]) (by simp [results, Tryz.results17, go_sem, *]) rfl ⟨HR.out, HB7.out⟩
end Go.Proofs.YtiiajhomdpfafaaGreatDoor
namespace Go.Proofs.YtiiajhomdpfafaaGreatDoor
open Go.RowKit

set_option maxRecDepth 20000 in
set_option maxHeartbeats 6400000 in
theorem r17Check_any (ts : List Trm) (n : Nat) (p0 : Option Addr) (b off c : Nat) (w : World) (hs : TDS w p0 b off ts) (hn : ts.length = n) (hu : ∀ i < n, TrU (ts.getD i trm0)) (hl : n ≤ 9223372036854775807) :
    Calls Tryz.prog 8 #[.slice p0 n c] w fun e w' => ∃ D E A, e = .returned (.tuple #[.int .i64 E, .int .i64 A]) ∧ MesR ts D E A ∧ Below w.heap.size w w' := by
  by_cases hlong : 1024 < n
  · have i0 : (1024 : Int) < (n : Int) := by omega
    have HR : Hid (MesR ts 0 2 0) := .long (by omega)
    clear hs hn hu hlong
    go_enter Tryz.func8, Tryz.ntmps8
    go_wp2_with fail
    go_ret2
    exact ⟨_, _, _, rfl, HR.out, Below.refl _ _⟩
  have i0 : ¬ (1024 : Int) < (n : Int) := by omega
  by_cases h0 : n = 0
  · have z0 : ((n : Int) == 0) = true := by rw [h0]; rfl
    have HR : Hid (MesR ts 0 171 0) := .empty (by omega)
    clear hs hn hu hlong h0
    go_enter Tryz.func8, Tryz.ntmps8
    go_wp2_with fail
    go_ret2
    exact ⟨_, _, _, rfl, HR.out, Below.refl _ _⟩
  have z0 : ((n : Int) == 0) = false := beq_eq_false_iff_ne.2 (by omega)
  have HSh := hidD (shape_any ts n p0 b off c w hs hn hu (by omega) (by omega))
  have HN := hidD hn
  have HL : Hid (ts.length ≤ 1024 ∧ 1 ≤ n) := ⟨by omega, by omega⟩
  have hn2 : n ≤ 1024 := by omega
  clear hs hn hu hlong h0 hl
  go_enter Tryz.func8, Tryz.ntmps8
  go_wp2_with fail
  refine HSh.out.mono ?_
  rintro e w1 ⟨ho, hb⟩
  have HB := hidD hb
  have HB2 : Hid (∀ ob, Below w.heap.size w (w1.alloc ob)) := fun ob => HB.out.alloc HB.out.size ob
  clear hb HSh
  cases ho with
  | bad k F D p q a b c d hk h1 h2 =>
    have HR : Hid (MesR ts 0 171 k) := mes_bad HL.out.1 (by rw [HN.out]; exact hk) h1 h2
    have j0 : (0 : Int) ≤ (k : Int) := by omega
    clear hk h1 h2
    go_wp2_with fail
    go_quiet (fail)
    go_wp2_with fail
    go_ret2
    exact ⟨_, _, _, rfl, HR.out, below_drewNm (HB2.out _)⟩
  | more F D p q a b c d h1 h2 =>
    have HR : Hid (MesR ts 0 171 ((n : Int) - 1)) := mes_more HL.out.1 HN.out HL.out.2 h1 h2
    obtain ⟨m, hm⟩ : ∃ m : Nat, (n : Int) - 1 = (m : Int) := ⟨n - 1, by have := HL.out.2; omega⟩
    rw [hm] at HR
    have j0 : (0 : Int) ≤ (m : Int) := by omega
    rw [hm]
    clear hm h1 h2
    go_wp2_with fail
    go_quiet (fail)
    go_wp2_with fail
    go_ret2
    exact ⟨_, _, _, rfl, HR.out, below_drewNm (HB2.out _)⟩
  | one F D p q a b d h1 h2 ho =>
    obtain ⟨hSI, _⟩ := shP_inv h1
    have HR := hidD (mes_one HL.out.1 HN.out HL.out.2 h1 h2)
    obtain ⟨p', c', g, e1, e2, hp, hc⟩ := int_cells (orow_below ho (al_bel w1 (.cells #[.slice p a b, .slice q n d, .int .i64 (-1)] 56))) hSI.ld
    injection e1 with e1 e3 e4
    subst e1 e4
    obtain rfl := hp (by have := HL.out.2; omega)
    obtain ⟨j, hj⟩ : ∃ j, n - 1 = j := ⟨_, rfl⟩
    have hjn : j < n := by have := HL.out.2; omega
    have cj := hc j hjn
    rw [hj] at HR
    have i1 : (n : Int) - 1 = (j : Int) := by have := HL.out.2; omega
    rw [i1] at HR
    have i2 : (0 : Int) ≤ (j : Int) := by omega
    have i3 : (j : Int) < (n : Int) := by omega
    obtain ⟨dj, hdj⟩ : ∃ dj, D.getD j 0 = dj := ⟨_, rfl⟩
    rw [hdj] at HR cj
    have b1 := hSI.d0 j hjn
    rw [hdj] at b1
    clear hj ho h1 h2 hp hc hSI hdj
    by_cases hd : 64 < dj
    · have HR2 := hidD (HR.out.1 hd)
      clear HR
      go_wp2_with fail
      go_ret2
      exact ⟨_, _, _, rfl, HR2.out, HB2.out _⟩
    · have HR2 := hidD (HR.out.2 (by omega))
      clear HR
      go_wp2_with fail
      go_ret2
      exact ⟨_, _, _, rfl, HR2.out, HB2.out _⟩
theorem r17Check_is {ts : List Trm} {D E A : Int} (hm : MesR ts D E A) (n : Nat) (p0 : Option Addr) (b off c : Nat) (w : World) (hs : TDS w p0 b off ts) (hn : ts.length = n) (hu : ∀ i < n, TrU (ts.getD i trm0)) (hl : n ≤ 9223372036854775807) :
    Calls Tryz.prog 8 #[.slice p0 n c] w fun e w' => e = .returned (.tuple #[.int .i64 E, .int .i64 A]) ∧ Below w.heap.size w w' :=
  (r17Check_any ts n p0 b off c w hs hn hu hl).mono fun e w' ⟨D', E', A', he, hm', hb⟩ => by
    obtain ⟨rfl, rfl, rfl⟩ := hm.unique hm'
    exact ⟨he, hb⟩
end Go.Proofs.YtiiajhomdpfafaaGreatDoor
namespace Go.Proofs.YtiiajhomdpfafaaGreatDoor
open Go.RowKit

theorem MesR.good {ts : List Trm} {D A : Int} (h : MesR ts D 0 A) : ts.length ≤ 1024 ∧ 1 ≤ ts.length ∧ A = 0 := by
  cases h with
  | ok p d h1 h2 h3 =>
    refine ⟨h1, ?_, rfl⟩
    rcases Nat.eq_zero_or_pos ts.length with h | h
    · rw [h] at h2
      have : (some [] : Option (List (Int × Int))) = some [(p, D)] := h2
      injection this with this
      cases this
    · exact h
theorem MesR.zero {ts : List Trm} {D E A : Int} (h : MesR ts D E A) (hE : E ≠ 0) : D = 0 := by
  cases h <;> first | rfl | exact absurd rfl hE
end Go.Proofs.YtiiajhomdpfafaaGreatDoor
