/- The great region of SchedEnds: its words, and a walk through it step by step. -/
import Derived.Test.YtelghkhcplmnmaaSpQ
import Derived.Test.YtelghkhcplmnmaaLexLine
import Derived.BigQuiet
namespace Go.Proofs.Ytelghkhcplmnmaa
open Go.RowKit

/-- A region of a code, by its number. -/
def regAt (n : Nat) : Code → Option Code
  | .region k ops b => if k = n then some (.region k ops b) else none
  | .seq a b => match regAt n a with
    | some c => some c
    | none => regAt n b
  | .cond _ a b => match regAt n a with
    | some c => some c
    | none => regAt n b
  | .loop c => regAt n c
  | .block _ c => regAt n c
  | .scope c => regAt n c
  | _ => none
noncomputable def endsReg : Code := ((Try.f3.body.bind (regAt 21)).getD .skip)
end Go.Proofs.Ytelghkhcplmnmaa
