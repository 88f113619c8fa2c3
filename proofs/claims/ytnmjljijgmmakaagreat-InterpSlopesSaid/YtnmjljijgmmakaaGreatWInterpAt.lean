/- The walk of InterpAt. -/
import Derived.Test.YtnmjljijgmmakaaGreatHaj
import Derived.Test.YtnmjljijgmmakaaGreatHbh
import Derived.Test.YtnmjljijgmmakaaGreatIRefK
import Derived.Test.YtnmjljijgmmakaaGreatFTab
namespace Go.Proofs.YtnmjljijgmmakaaGreat
open Go.RowKit

/-- The document's At, as the program's. -/
theorem docAt (kind x E : Int) (V : Nat) (px py : Option Addr) (bx ox cx b2 oy cy : Nat) (xs : List Int) (ys : List Nat) (w : World) (h : AtO kind xs ys x V E) (hs : TSrc w px py bx ox b2 oy xs ys) (hcy : ys.length ≤ cy) (hcy' : cy ≤ 9223372036854775807) :
    Calls Tryz.prog 7 #[.agg #[.int .i64 kind, .slice px xs.length cx, .slice py ys.length cy], .int .i64 x] w fun e w' => e = .returned (.tuple #[.int .u64 (V : Int), .int .i64 E]) ∧ Below w.heap.size w w' := by
  cases h with
  | err k E h hE => exact ref10At_err kind x k E px py bx ox cx b2 oy cy xs ys w h hE hs
  | node k ok h hk he =>
    have hl := ok.len
    rw [hl]
    exact ref10At_node kind x px py bx ox cx b2 oy cy xs.length k xs ys w ok rfl h hk.lt (.inl he) hs
  | piece k D i ok h hk he hI =>
    have hl := ok.len
    have k1 := ok.k1
    have k4 := ok.k4
    rw [hl]
    rw [hl] at hcy
    unfold pieV
    by_cases q1 : kind = 1
    · rw [if_pos q1]
      exact ref10At_node kind x px py bx ox cx b2 oy cy xs.length k xs ys w ok rfl h hk.lt (.inr ⟨he, q1⟩) hs
    · rw [if_neg q1]
      by_cases q2 : kind = 2
      · rw [if_pos q2]
        subst q2
        exact ref10At_lin x px py bx ox cx b2 oy cy xs.length k D i xs ys w ok rfl h hI hcy hcy' hs
      · rw [if_neg q2]
        by_cases q3 : kind = 3
        · rw [if_pos q3]
          subst q3
          exact ref10At_cub x px py bx ox cx b2 oy cy xs.length k D i xs ys w ok rfl h hI hs
        · rw [if_neg q3]
          obtain rfl : kind = 4 := by omega
          exact ref10At_logW x px py bx ox cx b2 oy cy xs.length k D i xs ys w ok hs.f rfl h hI hs
/-- The document's table out of the law's. -/
theorem docOf (kind : Int) (px py : Option Addr) (bx ox cx b2 oy cy : Nat) (xs : List Int) (ys : List Nat) (w : World) (hs : TFl w px py bx ox b2 oy xs ys) (hy : ys.length ≤ 17592186043904) :
    Calls Tryz.prog 8 #[.agg #[.int .i64 kind, .slice px xs.length cx, .slice py ys.length cy]] w fun e w' => ∃ p g c, e = .returned (.agg #[.int .i64 kind, .slice px xs.length cx, .slice p ys.length c]) ∧ (TSrc w' px p bx ox g 0 xs ys ∧ ys.length ≤ c ∧ c ≤ 9223372036854775807 ∧ w.heap.size ≤ g) ∧ Below w.heap.size w w' := by
  refine (ref10Of_any kind b2 oy cx cy xs.length ys.length px py ys w hs.y rfl hy).mono fun e w' ⟨v, he, ho, hb⟩ => ?_
  obtain ⟨p, g, c, rfl, hsrc, hg, hnc, hcm⟩ := uown_src ho rfl
  exact ⟨p, g, c, he, ⟨⟨hs.x.below hb, ⟨hsrc.at_, hsrc.lt, hsrc.cell⟩, hs.u⟩, hnc, by unfold maxLen at hcm; omega, hg⟩, hb⟩
theorem atO_lt {kind x E : Int} {V : Nat} {xs : List Int} {ys : List Nat} (h : AtO kind xs ys x V E) (hf : ∀ i < ys.length, ys.getD i 0 < 18446744073709551616) : V < 18446744073709551616 := by
  have hf' : ∀ i < ys.length, U64 (ys.getD i 0 : Nat) := fun i hi => u64N (hf i hi)
  cases h with
  | err => decide
  | node k ok h hk he => exact hf k (by rw [ok.len]; exact hk.lt)
  | piece k D i ok h hk he hI =>
    have hv : ∀ {W : Nat}, U64 (W : Nat) → W < 18446744073709551616 := fun hu => by have := hu.2; omega
    have up : ∀ W, AtR xs ys kind x k W → W < 18446744073709551616 := fun W hA => by
      by_cases hr : k + 1 < xs.length → rankI (ys.getD k 0 : Nat) ≤ rankI (ys.getD (k + 1) 0 : Nat)
      · exact hv (at_held_up ok hf' hk.lt hA hr).1
      · exact hv (at_held_down ok hf' hk.lt hA (fun hl => by
          have : ¬ rankI (ys.getD k 0 : Nat) ≤ rankI (ys.getD (k + 1) 0 : Nat) := fun c => hr (fun _ => c)
          omega)).1
    unfold pieV
    have k1 := ok.k1
    have k4 := ok.k4
    by_cases q1 : kind = 1
    · rw [if_pos q1]; subst q1; exact up _ (.flat x k he)
    · rw [if_neg q1]
      by_cases q2 : kind = 2
      · rw [if_pos q2]; subst q2; exact up _ (.lin x k D i hI)
      · rw [if_neg q2]
        by_cases q3 : kind = 3
        · rw [if_pos q3]; subst q3; exact up _ (.cub x k D i hI)
        · rw [if_neg q3]
          obtain rfl : kind = 4 := by omega
          exact (log_held ok hf' hI).2.1
theorem interpAt_walk (kind x : Int) (px py : Option Addr) (bx ox cx b2 oy cy : Nat) (xs : List Int) (ys : List Nat) (w : World) (hs : TFl w px py bx ox b2 oy xs ys) (_hxI : ∀ i < xs.length, TI64 (xs.getD i 0)) (hx : xs.length ≤ 17592186043904) (hy : ys.length ≤ 17592186043904) (_hlx : xs.length ≤ cx) (_hly : ys.length ≤ cy) (_hxx : TI64 x) :
    Calls Tryz.prog 3 #[.agg #[.int .i64 kind, .slice px xs.length cx, .slice py ys.length cy], .int .i64 x] w fun e w' => e = .returned (.bool true) ∧ Below w.heap.size w w' := by
  by_cases hl : 40 < xs.length
  · exact interpAt_many kind x px py _ cx _ cy w hl (by omega) (fun wx => awake10 wx)
  · obtain ⟨V, E, hA⟩ := atO_ex kind xs ys x
    have hV := atO_lt hA hs.f
    refine interpAt_few kind x E (V : Int) px py _ cx _ cy V w (by omega) (fun wx hb => intAt_any kind x E V px py bx ox cx b2 oy cy xs ys wx hA (hs.below hb)) (fun wx hb => ?_) (fun wx => isS V V wx rfl (u64N hV)) (fun wx => awake10 wx)
    refine (docOf kind px py bx ox cx b2 oy cy xs ys wx (hs.below hb) hy).mono fun e w' ⟨p, g, c, he, ⟨ht, h1, h2, _⟩, hbl⟩ => ?_
    exact ⟨_, he, hbl, fun wy hwy => docAt kind x E V px p bx ox cx g 0 c xs ys wy hA (ht.below hwy) h1 h2⟩
end Go.Proofs.YtnmjljijgmmakaaGreat
