/-  -/
import Derived.Test.YtpddmnmhdahnlaaGreatHad
import Derived.Test.YtpddmnmhdahnlaaGreatRows
import Derived.WalkKit
import Derived.WalkSpells
import Derived.WalkLawsBesides
import Derived.Handy
import Derived.LoopTactic
import Derived.BigQuiet
namespace Go.Proofs.YtpddmnmhdahnlaaGreat
open Go.RowKit

theorem hideS {p:Prop} (h:p):Hid p:=h

set_option maxHeartbeats 400000 in
theorem wj (y:Int) (w:World) :
  Calls Tryz.prog 289 #[.int .i64 y] w fun e w'=>e=.returned (.bool (leapB y))∧w'=w:=by
 unfold leapB
 cases h4:(y.tmod 4==0)<;>cases h1:(y.tmod 100 !=0)<;>cases h400:(y.tmod 400==0)
 all_goals
  go_enter Tryz.func289,Tryz.ntmps289
  go_wp2
  go_ret
  exact⟨rfl,rfl⟩

theorem LH {y m:Int} {l:Bool} (hl:leapB y=l) (x:Int) (hx:(if m=2 then 28+(if l then 1 else 0) else if m=4∨m=6∨m=9∨m=11 then 30 else (31:Int))=x):ce y m=x:=by
 unfold ce lpI;rw [hl];exact hx

set_option maxHeartbeats 1000000 in
theorem jA (y m:Int) (w:World) (h1:1≤m) (h2:m≤12) :
  Calls Tryz.prog 313 #[.int .i64 y,.int .i64 m] w fun e w'=>e=.returned (.int .i64 (ce y m))∧w'=w:=by
 cases hl:leapB y<;>rcases month_cases h1 h2 with rfl | rfl | rfl | rfl | rfl | rfl | rfl | rfl | rfl | rfl | rfl | rfl
 all_goals
  rw [LH hl _ rfl]
  clear h1 h2
  go_enter Tryz.func313,Tryz.ntmps313
  go_wp2_with (go_at_call 289;refine (wj _ _).mono ?_;rintro e w' ⟨rfl,rfl⟩)
  go_ret
  exact⟨rfl,rfl⟩

end Go.Proofs.YtpddmnmhdahnlaaGreat
