/- The walk of FlowTwice. -/
import Derived.Test.YthddhgjfboeggaaHbb
import Derived.Test.YthddhgjfboeggaaJfW
import Derived.Test.YthddhgjfboeggaaHao
import Derived.Test.YthddhgjfboeggaaHat
import Derived.Test.YthddhgjfboeggaaFFlw
namespace Go.Proofs.Ythddhgjfboeggaa
open Go.RowKit

theorem lstO_some {o : Option (List Flw)} {m : List Flw} {E : Int} {base : Nat} {e : Ending} {w : World} (h : LstO aF 36 o E base e w) (ho : o = some m) : ∃ u, e = .returned (.tuple #[u, .int .i64 0]) ∧ JL w u m := by
  rcases h with ⟨h, _⟩ | ⟨m', u, h, he, hw⟩
  · rw [ho] at h; cases h
  · rw [ho] at h
    obtain rfl := Option.some.inj h
    exact ⟨u, he, JL.own hw⟩
end Go.Proofs.Ythddhgjfboeggaa
