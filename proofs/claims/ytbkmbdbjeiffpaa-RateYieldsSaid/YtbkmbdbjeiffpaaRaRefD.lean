/- The contracts of the document's Forward and Convert. -/
import Derived.Test.YtbkmbdbjeiffpaaRaRefC
namespace Go.Proofs.Ytbkmbdbjeiffpaa
open Go.RowKit

/-- A number above 0. -/
def posB (u : Int) : Bool := finB u && ltB 0 u
/-- The three words that Forward is asked for. -/
def fwI (a b c : Int) : Nat → Int
  | 0 => a
  | 1 => b
  | _ => c
theorem fw_u64 {a b c : Int} (ha : U64 a) (hb : U64 b) (hc : U64 c) : ∀ m, U64 (fwI a b c m)
  | 0 => ha
  | 1 => hb
  | _ + 2 => hc
theorem fw_cell (w : World) (a b c : Int) (m : Nat) (hm : m < 3) : (w.alloc (.cells #[.int .u64 a, .int .u64 b, .int .u64 c] 26)).cell? ⟨w.heap.size, m, none⟩ = some (.int .u64 (fwI a b c m)) := by
  rcases (show m = 0 ∨ m = 1 ∨ m = 2 by omega) with rfl | rfl | rfl
  · simp [fwI]
  · simp [fwI]
  · simp [fwI]
