/- The walk of InterpAt. -/
import Derived.Test.YtnmjljijgmmakaaHaj
import Derived.Test.YtnmjljijgmmakaaHbb
import Derived.Test.YtnmjljijgmmakaaIRefK
import Derived.Test.YtnmjljijgmmakaaFTab
namespace Go.Proofs.Ytnmjljijgmmakaa
open Go.RowKit

/-- The document's table out of the law's. -/
theorem docOf (kind : Int) (px py : Option Addr) (bx ox cx b2 oy cy : Nat) (xs : List Int) (ys : List Nat) (w : World) (hs : TFl w px py bx ox b2 oy xs ys) (hy : ys.length ≤ 17592186043904) :
    Calls Try.prog 10 #[.agg #[.int .i64 kind, .slice px xs.length cx, .slice py ys.length cy]] w fun e w' => ∃ p g c, e = .returned (.agg #[.int .i64 kind, .slice px xs.length cx, .slice p ys.length c]) ∧ (TSrc w' px p bx ox g 0 xs ys ∧ ys.length ≤ c ∧ c ≤ 9223372036854775807 ∧ w.heap.size ≤ g) ∧ Below w.heap.size w w' := by
  refine (ref10Of_any kind b2 oy cx cy xs.length ys.length px py ys w hs.y rfl hy).mono fun e w' ⟨v, he, ho, hb⟩ => ?_
  obtain ⟨p, g, c, rfl, hsrc, hg, hnc, hcm⟩ := uown_src ho rfl
  exact ⟨p, g, c, he, ⟨⟨hs.x.below hb, ⟨hsrc.at_, hsrc.lt, hsrc.cell⟩, hs.u⟩, hnc, by unfold maxLen at hcm; omega, hg⟩, hb⟩
end Go.Proofs.Ytnmjljijgmmakaa
