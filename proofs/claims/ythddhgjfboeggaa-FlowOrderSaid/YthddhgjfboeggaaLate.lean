/- Regions that draw their order and whose last operations write what others read: the reads may still be taken first. -/
import Derived.Test.YthddhgjfboeggaaHal
import Derived.Deep.RegionHeld3
namespace Go.Proofs.Ythddhgjfboeggaa
open Go.RowKit

variable {P : Program} {md : Region.Mode} {ops : Array Oper} {Q : Exit → Act → World → Prop} {S : World → Prop} {L : Nat → Bool}

end Go.Proofs.Ythddhgjfboeggaa
