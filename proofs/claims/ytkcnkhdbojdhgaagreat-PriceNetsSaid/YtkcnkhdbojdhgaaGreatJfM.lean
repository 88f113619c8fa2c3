/- A family of exact sums, kept by their keys. -/
import Derived.Test.YtkcnkhdbojdhgaaGreatJfP
import Derived.Test.YtkcnkhdbojdhgaaGreatHbd
namespace Go.Proofs.YtkcnkhdbojdhgaaGreat
open Go.RowKit

structure Fam (w : World) (B : Nat) (ks : List (Int × Int)) (pb : Int × Int → Nat) (vv : Int × Int → Value) (L : Nat) (S : Int × Int → A.St) : Prop where
  acc : ∀ x ∈ ks, A.AccAt w B (pb x) (vv x) L (S x)
  ap : ∀ x ∈ ks, ∀ y ∈ ks, x ≠ y → ∀ k, A.Ft (pb x) (vv x) k → ¬ A.Ft (pb y) (vv y) k
theorem Fam.nil (w : World) (B L : Nat) (pb : Int × Int → Nat) (vv : Int × Int → Value) (S : Int × Int → A.St) : Fam w B [] pb vv L S := ⟨fun x h => (by cases h), fun x h => (by cases h)⟩
theorem Fam.wrote {w w' : World} {B L : Nat} {ks : List (Int × Int)} {pb : Int × Int → Nat} {vv : Int × Int → Value} {S : Int × Int → A.St} {F : Nat → Prop} (h : Fam w B ks pb vv L S) (hw : A.Wrote w w' F) (hF : ∀ x ∈ ks, ∀ k, A.Ft (pb x) (vv x) k → ¬ F k) : Fam w' B ks pb vv L S :=
  ⟨fun x hx => (h.acc x hx).wrote hw (hF x hx), h.ap⟩
theorem Fam.below {w w' : World} {B L : Nat} {ks : List (Int × Int)} {pb : Int × Int → Nat} {vv : Int × Int → Value} {S : Int × Int → A.St} (h : Fam w B ks pb vv L S) (hw : Below w.heap.size w w') : Fam w' B ks pb vv L S :=
  ⟨fun x hx => (h.acc x hx).below hw, h.ap⟩
theorem Fam.congr {w : World} {B L : Nat} {ks : List (Int × Int)} {pb : Int × Int → Nat} {vv : Int × Int → Value} {S S' : Int × Int → A.St} (h : Fam w B ks pb vv L S) (hS : ∀ x ∈ ks, S x = S' x) : Fam w B ks pb vv L S' :=
  ⟨fun x hx => by rw [← hS x hx]; exact h.acc x hx, h.ap⟩
theorem Fam.lt {w : World} {B L : Nat} {ks : List (Int × Int)} {pb : Int × Int → Nat} {vv : Int × Int → Value} {S : Int × Int → A.St} (h : Fam w B ks pb vv L S) {x : Int × Int} (hx : x ∈ ks) {k : Nat} (hk : A.Ft (pb x) (vv x) k) : k < w.heap.size := ((h.acc x hx).base k hk).2
theorem Fam.obj {w : World} {B L : Nat} {ks : List (Int × Int)} {pb : Int × Int → Nat} {vv : Int × Int → Value} {S : Int × Int → A.St} (h : Fam w B ks pb vv L S) {x : Int × Int} (hx : x ∈ ks) {k : Nat} (hk : A.Ft (pb x) (vv x) k) : ∃ c t, (t = 104 ∨ t = 48) ∧ w.heap[k]? = some (.cells c t (0, 0)) := by
  have ha := h.acc x hx
  rcases hk with rfl | hk
  · exact ⟨_, _, Or.inl rfl, ha.blk⟩
  · obtain ⟨xs, ho, _⟩ := ha.own
    rcases ho.own.2 with ⟨e, _⟩ | ⟨g, cap, cur, e, hg, hh, _⟩
    · rw [e] at hk; cases hk
    · rw [e] at hk
      obtain rfl : g = k := by simpa [A.At, Value.ownBlock] using hk
      exact ⟨_, _, Or.inr rfl, hh⟩
def upd {α : Type} (f : Int × Int → α) (x : Int × Int) (a : α) : Int × Int → α := fun y => if y = x then a else f y
theorem upd_same {α : Type} (f : Int × Int → α) (x : Int × Int) (a : α) : upd f x a x = a := if_pos rfl
theorem upd_other {α : Type} (f : Int × Int → α) {x y : Int × Int} (a : α) (h : y ≠ x) : upd f x a y = f y := if_neg h
theorem Fam.join {w w' : World} {B L : Nat} {ks : List (Int × Int)} {pb : Int × Int → Nat} {vv : Int × Int → Value} {S : Int × Int → A.St} {x : Int × Int} (h : Fam w B ks pb vv L S) (hb : Below w.heap.size w w') (hx : x ∉ ks) (ha : A.AccAt w' B w.heap.size (.slice none 0 0) L ⟨0, 0⟩) :
    Fam w' B (ks ++ [x]) (upd pb x w.heap.size) (upd vv x (.slice none 0 0)) L (upd S x ⟨0, 0⟩) := by
  have hne : ∀ y ∈ ks, y ≠ x := fun y hy e => hx (e ▸ hy)
  refine ⟨fun y hy => ?_, fun y hy z hz hyz k hk => ?_⟩
  · rcases List.mem_append.1 hy with hy | hy
    · rw [upd_other _ _ (hne y hy), upd_other _ _ (hne y hy), upd_other _ _ (hne y hy)]
      exact (h.acc y hy).below hb
    · obtain rfl := List.mem_singleton.1 hy
      rw [upd_same, upd_same, upd_same]; exact ha
  · rcases List.mem_append.1 hy with hy | hy
    · rw [upd_other _ _ (hne y hy), upd_other _ _ (hne y hy)] at hk
      rcases List.mem_append.1 hz with hz | hz
      · rw [upd_other _ _ (hne z hz), upd_other _ _ (hne z hz)]
        exact h.ap y hy z hz hyz k hk
      · have hlt := h.lt hy hk
        obtain rfl := List.mem_singleton.1 hz
        rw [upd_same, upd_same]
        rintro (rfl | hk')
        · omega
        · cases hk'
    · obtain rfl := List.mem_singleton.1 hy
      rw [upd_same, upd_same] at hk
      rcases List.mem_append.1 hz with hz | hz
      · rw [upd_other _ _ (hne z hz), upd_other _ _ (hne z hz)]
        intro hk'
        have := h.lt hz hk'
        rcases hk with rfl | hk
        · omega
        · cases hk
      · exact absurd (List.mem_singleton.1 hz).symm hyz
theorem Fam.did {w w' : World} {B L L' : Nat} {ks : List (Int × Int)} {pb : Int × Int → Nat} {vv : Int × Int → Value} {S : Int × Int → A.St} {x : Int × Int} {a : A.St} {v' : Value} (h : Fam w B ks pb vv L S) (hx : x ∈ ks) (hd : A.Did w w' B (pb x) (vv x) L' a v') (hL : L ≤ L') :
    Fam w' B ks pb (upd vv x v') L' (upd S x a) := by
  have key : ∀ k, A.Ft (pb x) v' k → A.Ft (pb x) (vv x) k ∨ w.heap.size ≤ k := fun k hk => by
    rcases hk with rfl | hk
    · exact Or.inl (Or.inl rfl)
    · rcases hd.new k hk with e | e
      · exact Or.inl (Or.inr e)
      · exact Or.inr e
  refine ⟨fun y hy => ?_, fun y hy z hz hyz k hk => ?_⟩
  · by_cases e : y = x
    · subst e; rw [upd_same, upd_same]; exact hd.acc
    · rw [upd_other _ _ e, upd_other _ _ e]
      exact ((h.acc y hy).wrote hd.wrote (fun k hk => h.ap y hy x hx e k hk)).mono hL
  · by_cases e : y = x
    · subst e
      rw [upd_same] at hk
      rw [upd_other _ _ (fun e => hyz e.symm)]
      intro hk'
      rcases key k hk with hk | hk
      · exact h.ap y hy z hz hyz k hk hk'
      · have := h.lt hz hk'; omega
    · rw [upd_other _ _ e] at hk
      by_cases e' : z = x
      · subst e'
        rw [upd_same]
        intro hk'
        rcases key k hk' with hk' | hk'
        · exact h.ap y hy z hz hyz k hk hk'
        · have := h.lt hy hk; omega
      · rw [upd_other _ _ e']; exact h.ap y hy z hz hyz k hk
end Go.Proofs.YtkcnkhdbojdhgaaGreat
