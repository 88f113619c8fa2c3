/- Flows in plain words: keys, sums by key, the keys in their order. A family of exact sums, kept by their keys. Rows of keys of one's own; a map of sums by their keys. -/
import Derived.Test.YteglnchcnacjlaaGreatJfA
import Derived.Test.YteglnchcnacjlaaGreatHaz
import Derived.Maps.OwnSet
import Derived.Maps.Views
import Derived.DeepKeys4
namespace Go.Proofs.YteglnchcnacjlaaGreat
open Go.RowKit

def keyF (f : Flw) : Int × Int := (f.cur, f.day)
def kadd (ks : List (Int × Int)) (x : Int × Int) : List (Int × Int) := if x ∈ ks then ks else ks ++ [x]
def keysN (l : List Flw) : Nat → List (Int × Int)
  | 0 => []
  | k + 1 => kadd (keysN l k) (keyF (l.getD k flw0))
def sumN (l : List Flw) (x : Int × Int) : Nat → A.St
  | 0 => ⟨0, 0⟩
  | k + 1 => if keyF (l.getD k flw0) = x then (sumN l x k).merge (A.oneS (l.getD k flw0).am) else sumN l x k
theorem keysN_mem (l : List Flw) (x : Int × Int) : ∀ k, x ∈ keysN l k ↔ ∃ i < k, keyF (l.getD i flw0) = x
  | 0 => ⟨fun h => (by cases h), fun ⟨i, hi, _⟩ => (by omega)⟩
  | k + 1 => by
    have ih := keysN_mem l x k
    show x ∈ kadd _ _ ↔ _
    unfold kadd
    split
    · rename_i hm
      constructor
      · intro h
        obtain ⟨i, hi, he⟩ := ih.1 h
        exact ⟨i, by omega, he⟩
      · rintro ⟨i, hi, he⟩
        by_cases c : i < k
        · exact ih.2 ⟨i, c, he⟩
        · obtain rfl : i = k := by omega
          rw [← he]; exact hm
    · rw [List.mem_append, List.mem_singleton]
      constructor
      · rintro (h | h)
        · obtain ⟨i, hi, he⟩ := ih.1 h
          exact ⟨i, by omega, he⟩
        · exact ⟨k, by omega, h.symm⟩
      · rintro ⟨i, hi, he⟩
        by_cases c : i < k
        · exact Or.inl (ih.2 ⟨i, c, he⟩)
        · obtain rfl : i = k := by omega
          exact Or.inr he.symm
theorem keysN_nodup (l : List Flw) : ∀ k, (keysN l k).Nodup
  | 0 => List.nodup_nil
  | k + 1 => by
    show (kadd _ _).Nodup
    unfold kadd
    split
    · exact keysN_nodup l k
    · rename_i hm
      rw [List.nodup_append]
      refine ⟨keysN_nodup l k, by simp, fun a ha b hb => ?_⟩
      rw [List.mem_singleton] at hb
      rintro rfl
      exact hm (hb ▸ ha)
theorem keysN_len (l : List Flw) : ∀ k, (keysN l k).length ≤ k
  | 0 => Nat.le_refl _
  | k + 1 => by
    have := keysN_len l k
    show (kadd _ _).length ≤ _
    unfold kadd
    split
    · omega
    · rw [List.length_append]; simp; omega
def ltK (x y : Int × Int) : Prop := x.1 < y.1 ∨ x.1 = y.1 ∧ x.2 < y.2
theorem ltK_trans {x y z : Int × Int} (h : ltK x y) (h' : ltK y z) : ltK x z := by unfold ltK at *; omega
theorem ltK_irrefl (x : Int × Int) : ¬ ltK x x := by unfold ltK; omega
theorem ltK_total {x y : Int × Int} (h : x ≠ y) : ltK x y ∨ ltK y x := by
  unfold ltK
  obtain ⟨a, b⟩ := x
  obtain ⟨c, d⟩ := y
  have : ¬ (a = c ∧ b = d) := fun ⟨h1, h2⟩ => h (by rw [h1, h2])
  dsimp only
  omega
theorem rising_unique : ∀ {a b : List (Int × Int)}, a.Pairwise ltK → b.Pairwise ltK → (∀ x, x ∈ a ↔ x ∈ b) → a = b
  | [], [], _, _, _ => rfl
  | [], y :: b, _, _, h => by have := (h y).2 (by simp); cases this
  | x :: a, [], _, _, h => by have := (h x).1 (by simp); cases this
  | x :: a, y :: b, ha, hb, h => by
    obtain ⟨ha1, ha2⟩ := List.pairwise_cons.1 ha
    obtain ⟨hb1, hb2⟩ := List.pairwise_cons.1 hb
    have e : x = y := by
      rcases List.mem_cons.1 ((h x).1 (by simp)) with e | hx
      · exact e
      · rcases List.mem_cons.1 ((h y).2 (by simp)) with e | hy
        · exact e.symm
        · exact absurd (ltK_trans (ha1 y hy) (hb1 x hx)) (ltK_irrefl x)
    subst e
    rw [rising_unique ha2 hb2 (fun z => ?_)]
    constructor
    · intro hz
      rcases List.mem_cons.1 ((h z).1 (by simp [hz])) with e | hz'
      · subst e; exact absurd (ha1 z hz) (ltK_irrefl z)
      · exact hz'
    · intro hz
      rcases List.mem_cons.1 ((h z).2 (by simp [hz])) with e | hz'
      · subst e; exact absurd (hb1 z hz) (ltK_irrefl z)
      · exact hz'
structure KeyR (l : List Flw) (S : List (Int × Int)) : Prop where
  rise : S.Pairwise ltK
  mem : ∀ x, x ∈ S ↔ ∃ i < l.length, keyF (l.getD i flw0) = x
theorem KeyR.unique {l : List Flw} {S S' : List (Int × Int)} (h : KeyR l S) (h' : KeyR l S') : S = S' :=
  rising_unique h.rise h'.rise (fun x => (h.mem x).trans (h'.mem x).symm)
theorem KeyR.len {l : List Flw} {S : List (Int × Int)} (h : KeyR l S) : S.Nodup := List.Pairwise.imp (R := ltK) (S := fun a b => a ≠ b) (fun {a b} hab e => ltK_irrefl a (by rw [← e] at hab; exact hab)) h.rise
def netA (l : List Flw) (x : Int × Int) : Nat := A.valSt (sumN l x l.length)
def netF (l : List Flw) (x : Int × Int) : Flw := ⟨x.2, netA l x, x.1⟩
end Go.Proofs.YteglnchcnacjlaaGreat
namespace Go.Proofs.YteglnchcnacjlaaGreat
open Go.RowKit

structure Fam (w : World) (B : Nat) (ks : List (Int × Int)) (pb : Int × Int → Nat) (vv : Int × Int → Value) (L : Nat) (S : Int × Int → A.St) : Prop where
  acc : ∀ x ∈ ks, A.AccAt w B (pb x) (vv x) L (S x)
  ap : ∀ x ∈ ks, ∀ y ∈ ks, x ≠ y → ∀ k, A.Ft (pb x) (vv x) k → ¬ A.Ft (pb y) (vv y) k
theorem Fam.nil (w : World) (B L : Nat) (pb : Int × Int → Nat) (vv : Int × Int → Value) (S : Int × Int → A.St) : Fam w B [] pb vv L S := ⟨fun x h => (by cases h), fun x h => (by cases h)⟩
theorem Fam.wrote {w w' : World} {B L : Nat} {ks : List (Int × Int)} {pb : Int × Int → Nat} {vv : Int × Int → Value} {S : Int × Int → A.St} {F : Nat → Prop} (h : Fam w B ks pb vv L S) (hw : A.Wrote w w' F) (hF : ∀ x ∈ ks, ∀ k, A.Ft (pb x) (vv x) k → ¬ F k) : Fam w' B ks pb vv L S :=
  ⟨fun x hx => (h.acc x hx).wrote hw (hF x hx), h.ap⟩
theorem Fam.below {w w' : World} {B L : Nat} {ks : List (Int × Int)} {pb : Int × Int → Nat} {vv : Int × Int → Value} {S : Int × Int → A.St} (h : Fam w B ks pb vv L S) (hw : Below w.heap.size w w') : Fam w' B ks pb vv L S :=
  ⟨fun x hx => (h.acc x hx).below hw, h.ap⟩
theorem Fam.congr {w : World} {B L : Nat} {ks : List (Int × Int)} {pb : Int × Int → Nat} {vv : Int × Int → Value} {S S' : Int × Int → A.St} (h : Fam w B ks pb vv L S) (hS : ∀ x ∈ ks, S x = S' x) : Fam w B ks pb vv L S' :=
  ⟨fun x hx => by rw [← hS x hx]; exact h.acc x hx, h.ap⟩
theorem Fam.lt {w : World} {B L : Nat} {ks : List (Int × Int)} {pb : Int × Int → Nat} {vv : Int × Int → Value} {S : Int × Int → A.St} (h : Fam w B ks pb vv L S) {x : Int × Int} (hx : x ∈ ks) {k : Nat} (hk : A.Ft (pb x) (vv x) k) : k < w.heap.size := ((h.acc x hx).base k hk).2
theorem Fam.obj {w : World} {B L : Nat} {ks : List (Int × Int)} {pb : Int × Int → Nat} {vv : Int × Int → Value} {S : Int × Int → A.St} (h : Fam w B ks pb vv L S) {x : Int × Int} (hx : x ∈ ks) {k : Nat} (hk : A.Ft (pb x) (vv x) k) : ∃ c t, (t = 95 ∨ t = 40) ∧ w.heap[k]? = some (.cells c t (0, 0)) := by
  have ha := h.acc x hx
  rcases hk with rfl | hk
  · exact ⟨_, _, Or.inl rfl, ha.blk⟩
  · obtain ⟨xs, ho, _⟩ := ha.own
    rcases ho.own.2 with ⟨e, _⟩ | ⟨g, cap, cur, e, hg, hh, _⟩
    · rw [e] at hk; cases hk
    · rw [e] at hk
      obtain rfl : g = k := by simpa [A.At, Value.ownBlock] using hk
      exact ⟨_, _, Or.inr rfl, hh⟩
def upd {α : Type} (f : Int × Int → α) (x : Int × Int) (a : α) : Int × Int → α := fun y => if y = x then a else f y
theorem upd_same {α : Type} (f : Int × Int → α) (x : Int × Int) (a : α) : upd f x a x = a := if_pos rfl
theorem upd_other {α : Type} (f : Int × Int → α) {x y : Int × Int} (a : α) (h : y ≠ x) : upd f x a y = f y := if_neg h
theorem Fam.join {w w' : World} {B L : Nat} {ks : List (Int × Int)} {pb : Int × Int → Nat} {vv : Int × Int → Value} {S : Int × Int → A.St} {x : Int × Int} (h : Fam w B ks pb vv L S) (hb : Below w.heap.size w w') (hx : x ∉ ks) (ha : A.AccAt w' B w.heap.size (.slice none 0 0) L ⟨0, 0⟩) :
    Fam w' B (ks ++ [x]) (upd pb x w.heap.size) (upd vv x (.slice none 0 0)) L (upd S x ⟨0, 0⟩) := by
  have hne : ∀ y ∈ ks, y ≠ x := fun y hy e => hx (e ▸ hy)
  refine ⟨fun y hy => ?_, fun y hy z hz hyz k hk => ?_⟩
  · rcases List.mem_append.1 hy with hy | hy
    · rw [upd_other _ _ (hne y hy), upd_other _ _ (hne y hy), upd_other _ _ (hne y hy)]
      exact (h.acc y hy).below hb
    · obtain rfl := List.mem_singleton.1 hy
      rw [upd_same, upd_same, upd_same]; exact ha
  · rcases List.mem_append.1 hy with hy | hy
    · rw [upd_other _ _ (hne y hy), upd_other _ _ (hne y hy)] at hk
      rcases List.mem_append.1 hz with hz | hz
      · rw [upd_other _ _ (hne z hz), upd_other _ _ (hne z hz)]
        exact h.ap y hy z hz hyz k hk
      · have hlt := h.lt hy hk
        obtain rfl := List.mem_singleton.1 hz
        rw [upd_same, upd_same]
        rintro (rfl | hk')
        · omega
        · cases hk'
    · obtain rfl := List.mem_singleton.1 hy
      rw [upd_same, upd_same] at hk
      rcases List.mem_append.1 hz with hz | hz
      · rw [upd_other _ _ (hne z hz), upd_other _ _ (hne z hz)]
        intro hk'
        have := h.lt hz hk'
        rcases hk with rfl | hk
        · omega
        · cases hk
      · exact absurd (List.mem_singleton.1 hz).symm hyz
theorem Fam.did {w w' : World} {B L L' : Nat} {ks : List (Int × Int)} {pb : Int × Int → Nat} {vv : Int × Int → Value} {S : Int × Int → A.St} {x : Int × Int} {a : A.St} {v' : Value} (h : Fam w B ks pb vv L S) (hx : x ∈ ks) (hd : A.Did w w' B (pb x) (vv x) L' a v') (hL : L ≤ L') :
    Fam w' B ks pb (upd vv x v') L' (upd S x a) := by
  have key : ∀ k, A.Ft (pb x) v' k → A.Ft (pb x) (vv x) k ∨ w.heap.size ≤ k := fun k hk => by
    rcases hk with rfl | hk
    · exact Or.inl (Or.inl rfl)
    · rcases hd.new k hk with e | e
      · exact Or.inl (Or.inr e)
      · exact Or.inr e
  refine ⟨fun y hy => ?_, fun y hy z hz hyz k hk => ?_⟩
  · by_cases e : y = x
    · subst e; rw [upd_same, upd_same]; exact hd.acc
    · rw [upd_other _ _ e, upd_other _ _ e]
      exact ((h.acc y hy).wrote hd.wrote (fun k hk => h.ap y hy x hx e k hk)).mono hL
  · by_cases e : y = x
    · subst e
      rw [upd_same] at hk
      rw [upd_other _ _ (fun e => hyz e.symm)]
      intro hk'
      rcases key k hk with hk | hk
      · exact h.ap y hy z hz hyz k hk hk'
      · have := h.lt hz hk'; omega
    · rw [upd_other _ _ e] at hk
      by_cases e' : z = x
      · subst e'
        rw [upd_same]
        intro hk'
        rcases key k hk' with hk' | hk'
        · exact h.ap y hy z hz hyz k hk hk'
        · have := h.lt hy hk; omega
      · rw [upd_other _ _ e']; exact h.ap y hy z hz hyz k hk
end Go.Proofs.YteglnchcnacjlaaGreat
namespace Go.Proofs.YteglnchcnacjlaaGreat
open Go.RowKit

def key0 : Int × Int := (0, 0)
def keyC (x : Int × Int) : List Value := [.int .i64 x.1, .int .i64 x.2]
def rowK : List (Int × Int) → List Value
  | [] => []
  | r :: l => keyC r ++ rowK l
theorem rowK_len : ∀ l : List (Int × Int), (rowK l).length = l.length * 2
  | [] => rfl
  | r :: l => by rw [rowK, List.length_append, rowK_len l, List.length_cons]; show 2 + _ = _; omega
theorem rowK_append : ∀ a b : List (Int × Int), rowK (a ++ b) = rowK a ++ rowK b
  | [], _ => rfl
  | r :: a, b => by rw [List.cons_append, rowK, rowK, rowK_append a b, List.append_assoc]
theorem rowK_get : ∀ (l : List (Int × Int)) (i j : Nat), i < l.length → j < 2 → (rowK l)[i * 2 + j]? = (keyC (l.getD i key0))[j]?
  | [], i, j, h, _ => by simp at h
  | r :: l, 0, j, _, hj => by
    rw [rowK, Nat.zero_mul, Nat.zero_add, List.getElem?_append_left (by show j < 2; exact hj)]; rfl
  | r :: l, i + 1, j, h, hj => by
    rw [rowK, List.getElem?_append_right (by show 2 ≤ _; omega), show (i + 1) * 2 + j - (keyC r).length = i * 2 + j by show _ - 2 = _; omega, rowK_get l i j (by simpa using h) hj]
    rfl
theorem rowK_one : ∀ (l : List (Int × Int)), ∀ u ∈ rowK l, u.oneCell' = true
  | [], u, h => by cases h
  | r :: l, u, h => by
    rw [rowK, List.mem_append] at h
    rcases h with h | h
    · simp only [keyC, List.mem_cons, List.not_mem_nil, or_false] at h
      rcases h with rfl | rfl <;> rfl
    · exact rowK_one l u h
theorem info_key : (Tryz.prog.info? 61).map (fun i => (i.zero, i.size, i.bytes)) = some (some (.agg #[.int .i64 0, .int .i64 0]), 2, 16) := by kernel_rfl
theorem kyown_nil (w : World) (base : Nat) : w.ownsRow base 61 2 (.slice none 0 0) 0 (rowK []) := ⟨rfl, Or.inl ⟨rfl, rfl⟩⟩
theorem kyown_wrote {w w' : World} {base n : Nat} {v : Value} {xs : List Value} {F : Nat → Prop} (h : w.ownsRow base 61 2 v n xs) (hw : A.Wrote w w' F) (hF : ∀ k, v.ownBlock = some k → ¬ F k) : w'.ownsRow base 61 2 v n xs := by
  refine ⟨h.1, ?_⟩
  rcases h.2 with hn | ⟨g, cap, cur, rfl, hg, hgg, rest⟩
  · exact .inl hn
  · exact .inr ⟨g, cap, cur, rfl, hg, by rw [hw.block g (Array.getElem?_eq_some_iff.1 hgg).1 (hF g rfl)]; exact hgg, rest⟩
theorem kyown_obj {w : World} {base n : Nat} {v : Value} {xs : List Value} (h : w.ownsRow base 61 2 v n xs) {k : Nat} (hk : v.ownBlock = some k) : ∃ c, w.heap[k]? = some (.cells c 61 (0, 0)) := by
  rcases h.2 with ⟨rfl, _⟩ | ⟨g, cap, cur, rfl, hg, hgg, rest⟩
  · cases hk
  · obtain rfl : g = k := by simpa [Value.ownBlock] using hk
    exact ⟨_, hgg⟩
theorem kygrown_below {w w' : World} {v : Value} {B n : Nat} {xs : List Value} (ho : w.ownsRow B 61 2 v n xs) (hg : w.grownBy w' v.ownBlock) (hB : B ≤ w.heap.size) : Below B w w' :=
  (Below.refl B w).grown hg hB (fun k hk => by
    rcases ho.2 with ⟨rfl, _⟩ | ⟨g, cap, cur, rfl, hbg, _⟩
    · cases hk
    · obtain rfl : g = k := by simpa [Value.ownBlock] using hk
      exact hbg)
theorem wpList_append_key (w : World) {ops : Array Oper} {rest : List Oper} {o : Oper} {a : Act} {Q : Exit → Act → World → Prop} (hgd : o.guard = none) (s x : Operand)
    (ho : o.op = .call { callee := .builtin .append, args := #[s, x], argTypes := #[55, 55] })
    (base : Nat) (v : Value) (n : Nat) (xs : List (Int × Int)) (hs : a.eval s = v) (hown : w.ownsRow base 61 2 v n (rowK xs))
    (g : Nat) (z : Int × Int) (hx : a.eval x = .slice (some ⟨g, 0, none⟩) 1 1) (c0 : w.cell? ⟨g, 0, none⟩ = some (.int .i64 z.1)) (c1 : w.cell? ⟨g, 1, none⟩ = some (.int .i64 z.2)) (hn : n ≤ 100000) (hbase : base ≤ w.heap.size)
    (h : ∀ v' w', w'.ownsRow base 61 2 v' (n + 1) (rowK (xs ++ [z])) → w.grownBy w' v.ownBlock → wpList Tryz.prog ops Q rest (a.put o.dst v') w') : wpList Tryz.prog ops Q (o :: rest) a w := by
  obtain ⟨i0, hi, hz0, hz1, hz2⟩ := info_parts info_key
  refine wpList_append_own w hgd s x 55 ho base 61 i0 (.agg #[.int .i64 0, .int .i64 0]) 2 16 Tryz.underlying55 hi hz0 hz1 hz2 rfl (by decide) v n (rowK xs) hs hown ⟨g, 0, none⟩ 1 1 (rowK [z]) hx (by rw [rowK_len]; rfl) ?_ (rowK_one [z]) (by unfold maxLen; omega) (by omega) hbase ?_
  · intro j u hj
    have hlt : j < 2 := by
      have := (List.getElem?_eq_some_iff.1 hj).1
      rw [rowK_len] at this
      exact this
    rw [Addr.add_lit]
    rcases (show j = 0 ∨ j = 1 by omega) with rfl | rfl
    · rw [← hj]; exact c0
    · rw [← hj]; exact c1
  · intro v' w' h1 h2 _
    refine h v' w' ?_ h2
    rw [rowK_append]; exact h1

def keyV (x : Int × Int) : Value := .agg #[.int .i64 x.1, .int .i64 x.2]
def ptrR (v : Value) : Option (DataW Unit × List MemPlace) := match v with
  | .pointer none => some (.nil, [])
  | .pointer (some ⟨b, 0, none⟩) => some (.lit (.int .i64 (b : Int)), [])
  | _ => none
theorem ptrR_inv {v : Value} {b : Nat} {ps : List MemPlace} (h : ptrR v = some (.lit (.int .i64 (b : Int)), ps)) : v = .pointer (some ⟨b, 0, none⟩) := by
  unfold ptrR at h
  split at h
  · simp at h
  · rename_i g
    simp only [Option.some.injEq, Prod.mk.injEq, DataW.lit.injEq, Lit.int.injEq, true_and] at h
    have : g = b := by omega
    rw [this]
  · cases h
theorem ptrR_nil {v : Value} {ps : List MemPlace} (h : ptrR v = some (.nil, ps)) : v = .pointer none := by
  unfold ptrR at h
  split at h
  · rfl
  · simp at h
  · cases h
theorem laidOutJ : laidOutB Tryz.prog = true := by kernel_rfl
theorem keyRow : (61 : TypeId) < Tryz.prog.types.size := of_decide_eq_true (by kernel_rfl)
theorem keyWide : (match Tryz.prog.underlying 61 with | some (.array _ _) | some (.struct _) => true | _ => false) = true := by rw [Tryz.underlying61]
set_option maxRecDepth 100000 in
theorem keyLawJ : Go.Maps.Keyed Tryz.prog 61 := Go.Maps.Keyed.of_law (deep_law_laid laidOutJ (m := 2) (by omega) keyRow (by kernel_rfl) keyWide)
def KeyB (x : Int × Int) : Prop := 0 ≤ x.1 ∧ x.1 ≤ 109572 ∧ 0 ≤ x.2 ∧ x.2 ≤ 109572
theorem key_field (x : Int) (h0 : 0 ≤ x) (h : x ≤ 109572) : (Lit.int .i64 x).wf = true := by
  simp [Lit.wf, IntKind.min, IntKind.max, IntKind.bits, IntKind.signed]
  omega
theorem keyTyJ : Tryz.prog.keyType 61 = true := by kernel_rfl
theorem typesJ : ∃ n, Tryz.prog.types.size + 1 = n + 2 := by
  have h : (1 : Nat) ≤ Tryz.prog.types.size := of_decide_eq_true (by kernel_rfl)
  exact ⟨Tryz.prog.types.size - 1, by omega⟩
theorem cellsKeyJ : Tryz.prog.cellsOf 61 = 2 := by kernel_rfl
theorem cellsIntJ : Tryz.prog.cellsOf 3 = 1 := by kernel_rfl
set_option maxRecDepth 100000 in
theorem keyLitsJ (n : Nat) (a b : Int) (w1 : (Lit.int .i64 a).wf = true) (w2 : (Lit.int .i64 b).wf = true) : Tryz.prog.keyLits (n + 2) 61 [.int .i64 a, .int .i64 b] = some [.int .i64 a, .int .i64 b] := by
  unfold Program.keyLits
  rw [Tryz.underlying61]
  simp [cellsKeyJ, cellsIntJ, Program.keyLits, Tryz.underlying3, w1, w2]
set_option maxRecDepth 100000 in
theorem keyOf_key (x : Int × Int) (h : KeyB x) : keyOf Tryz.prog 61 (keyV x) = some (.string (keyBytes [.int .i64 x.1, .int .i64 x.2])) := by
  obtain ⟨a, b⟩ := x
  obtain ⟨h1, h2, h3, h4⟩ := h
  have w1 := key_field a h1 h2
  have w2 := key_field b h3 h4
  obtain ⟨n, hn⟩ := typesJ
  have e := keyLitsJ n a b w1 w2
  unfold keyOf
  rw [Tryz.underlying61, hn]
  dsimp only
  rw [keyTyJ]
  have hf : (keyV (a, b)).formed Tryz.prog 61 = true := by
    simp [keyV, Value.formed, Tryz.underlying61, cellsKeyJ]
  rw [hf, Bool.and_true, if_pos rfl]
  show (Tryz.prog.keyLits (n + 2) 61 [.int .i64 a, .int .i64 b]).map _ = _
  rw [e]; rfl
def klJ (x : Int × Int) : Lit := .string (keyBytes [.int .i64 x.1, .int .i64 x.2])
theorem klJ_inj {x y : Int × Int} (hx : KeyB x) (hy : KeyB y) (h : klJ x = klJ y) : x = y := by
  have e : keyV x = keyV y := keyLawJ.inj (keyOf_key x hx) ((keyOf_key y hy).trans (congrArg some h.symm))
  obtain ⟨a, b⟩ := x
  obtain ⟨c, d⟩ := y
  simp only [keyV, Value.agg.injEq, Array.mk.injEq, List.cons.injEq, Value.int.injEq, true_and, and_true] at e
  rw [e.1, e.2]
theorem klJ_key {x : Int × Int} (hx : KeyB x) : WideAt.IsKeyLit (klJ x) := keyLawJ.key (keyOf_key x hx)
theorem zeroPtrJ (w : World) : (zeroValue 63).run Tryz.prog w = .ok (.pointer none) w := by
  kernel_rfl
def MapK (w : World) (bm n : Nat) (ks : List (Int × Int)) (pb : Int × Int → Nat) : Prop :=
  ∃ D, w.ownsMap Tryz.prog 61 ptrR bm n D ∧ (∀ x ∈ ks, KeyB x ∧ D.atKey (klJ x) .nil = .lit (.int .i64 (pb x : Nat)) ∧ Go.Maps.has D (klJ x) = true) ∧ ∀ x, KeyB x → x ∉ ks → Go.Maps.has D (klJ x) = false
theorem MapK.made (w : World) (pb : Int × Int → Nat) : MapK (w.alloc (.map #[] 0)) w.heap.size 0 [] pb :=
  ⟨_, World.ownsMap_made w _ _ _, fun x h => (by cases h), fun x _ _ => rfl⟩
theorem MapK.obj {w : World} {bm n : Nat} {ks : List (Int × Int)} {pb : Int × Int → Nat} (h : MapK w bm n ks pb) : ∃ es c, w.heap[bm]? = some (.map es c) := by
  obtain ⟨D, ⟨es, c, hb, _⟩, _⟩ := h
  exact ⟨es, c, hb⟩
theorem MapK.lt {w : World} {bm n : Nat} {ks : List (Int × Int)} {pb : Int × Int → Nat} (h : MapK w bm n ks pb) : bm < w.heap.size := by
  obtain ⟨es, c, hb⟩ := h.obj
  exact (Array.getElem?_eq_some_iff.1 hb).1
theorem MapK.wrote {w w' : World} {bm n : Nat} {ks : List (Int × Int)} {pb : Int × Int → Nat} {F : Nat → Prop} (h : MapK w bm n ks pb) (hw : A.Wrote w w' F) (hF : ¬ F bm) : MapK w' bm n ks pb := by
  have hlt := h.lt
  obtain ⟨D, ⟨es, c, hb, rest⟩, h1, h2⟩ := h
  exact ⟨D, ⟨es, c, (hw.block bm hlt hF).trans hb, rest⟩, h1, h2⟩
theorem MapK.below {w w' : World} {bm n : Nat} {ks : List (Int × Int)} {pb : Int × Int → Nat} (h : MapK w bm n ks pb) (hw : Below w.heap.size w w') : MapK w' bm n ks pb :=
  h.wrote (F := fun _ => False) (A.wrote_below hw) id
theorem MapK.congr {w : World} {bm n : Nat} {ks : List (Int × Int)} {pb pb' : Int × Int → Nat} (h : MapK w bm n ks pb) (he : ∀ x ∈ ks, pb x = pb' x) : MapK w bm n ks pb' := by
  obtain ⟨D, ho, h1, h2⟩ := h
  exact ⟨D, ho, fun x hx => ⟨(h1 x hx).1, by rw [← he x hx]; exact (h1 x hx).2.1, (h1 x hx).2.2⟩, h2⟩
set_option maxRecDepth 100000 in
theorem MapK.there {w : World} {bm n : Nat} {ks : List (Int × Int)} {pb : Int × Int → Nat} {x : Int × Int} (h : MapK w bm n ks pb) (hx : x ∈ ks) :
    (Instr.lookup 56 (.map (some bm)) (keyV x) true).run Tryz.prog w = .ok (.tuple #[.pointer (some ⟨pb x, 0, none⟩), .bool true]) w ∧ (Instr.lookup 56 (.map (some bm)) (keyV x) false).run Tryz.prog w = .ok (.pointer (some ⟨pb x, 0, none⟩)) w := by
  obtain ⟨D, ho, h1, h2⟩ := h
  obtain ⟨hb, ha, hh⟩ := h1 x hx
  obtain ⟨v, ps, hr, hv⟩ := ho.look_ok keyLawJ Tryz.underlying56 (zeroPtrJ w) (show ptrR (.pointer none) = some (.nil, []) from rfl) (keyOf_key x hb)
  obtain ⟨v', ps', hr', hv'⟩ := ho.lookup keyLawJ Tryz.underlying56 (zeroPtrJ w) (show ptrR (.pointer none) = some (.nil, []) from rfl) (keyOf_key x hb)
  change ptrR v = some (D.atKey (klJ x) .nil, ps) at hv
  change ptrR v' = some (D.atKey (klJ x) .nil, ps') at hv'
  rw [ha] at hv hv'
  rw [hr, hr', ptrR_inv hv, ptrR_inv hv']
  exact ⟨by change _ = Result.ok (Value.tuple #[_, .bool true]) w; rw [← hh]; rfl, rfl⟩
set_option maxRecDepth 100000 in
theorem MapK.lacks {w : World} {bm n : Nat} {ks : List (Int × Int)} {pb : Int × Int → Nat} {x : Int × Int} (h : MapK w bm n ks pb) (hb : KeyB x) (hx : x ∉ ks) :
    (Instr.lookup 56 (.map (some bm)) (keyV x) true).run Tryz.prog w = .ok (.tuple #[.pointer none, .bool false]) w := by
  obtain ⟨D, ho, h1, h2⟩ := h
  have hh := h2 x hb hx
  obtain ⟨v, ps, hr, hv⟩ := ho.look_ok keyLawJ Tryz.underlying56 (zeroPtrJ w) (show ptrR (.pointer none) = some (.nil, []) from rfl) (keyOf_key x hb)
  change ptrR v = some (D.atKey (klJ x) .nil, ps) at hv
  rw [Go.Maps.atKey_of_not_has hh] at hv
  rw [hr, ptrR_nil hv]
  change _ = Result.ok (Value.tuple #[_, .bool false]) w
  rw [← hh]; rfl
theorem MapK.put {w : World} {bm n : Nat} {ks : List (Int × Int)} {pb : Int × Int → Nat} {x : Int × Int} (h : MapK w bm n ks pb) (hb : KeyB x) (hx : x ∉ ks) (hn : n < maxLen) (g : Nat) :
    ∃ w', (Instr.mapUpdate 56 (.map (some bm)) (keyV x) (.pointer (some ⟨g, 0, none⟩))).run Tryz.prog w = .ok () w' ∧ MapK w' bm (n + 1) (ks ++ [x]) (upd pb x g) ∧ w.grownBy w' (some bm) := by
  obtain ⟨D, ho, h1, h2⟩ := h
  obtain ⟨w', hr, ho', hg⟩ := ho.update keyLawJ Tryz.underlying56 hn (keyOf_key x hb) (show ptrR (.pointer (some ⟨g, 0, none⟩)) = some (.lit (.int .i64 (g : Int)), []) from rfl)
  change w'.ownsMap _ _ _ _ _ (D.put (klJ x) _) at ho'
  have hD : Go.Maps.IsMap D := by obtain ⟨_, _, _, _, _, e⟩ := ho; exact ⟨_, e⟩
  have hne : ∀ y, KeyB y → y ≠ x → klJ y ≠ klJ x := fun y hy he e => he (klJ_inj hy hb e)
  refine ⟨w', hr, ⟨_, ho', fun y hy => ?_, fun y hy hny => ?_⟩, hg⟩
  · rcases List.mem_append.1 hy with hy | hy
    · obtain ⟨a, b, c⟩ := h1 y hy
      have e : y ≠ x := fun e => hx (e ▸ hy)
      exact ⟨a, by rw [Go.Maps.atKey_put_other (hne y a e), upd_other _ _ e]; exact b, by rw [Go.Maps.has_put_other (hne y a e)]; exact c⟩
    · obtain rfl := List.mem_singleton.1 hy
      exact ⟨hb, by rw [Go.Maps.atKey_put_same hD (klJ_key hb), upd_same], Go.Maps.has_put_same hD (klJ_key hb) _⟩
  · have e : y ≠ x := fun e => hny (by rw [e]; simp)
    rw [Go.Maps.has_put_other (hne y hy e)]
    exact h2 y hy (fun h => hny (by simp [h]))
end Go.Proofs.YteglnchcnacjlaaGreat
