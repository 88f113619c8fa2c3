/-  -/
import Derived.Test.YtfdddijdjpijbaaGreatHad
import Derived.Test.YtfdddijdjpijbaaGreatRows
import Derived.WalkKit
import Derived.WalkSpells
import Derived.WalkLawsBesides
import Derived.Handy
import Derived.LoopTactic
import Derived.BigQuiet
set_option maxHeartbeats 1000000
namespace Go.Proofs.YtfdddijdjpijbaaGreat
open Go.RowKit
theorem hideS {p:Prop} (h:p):Hid p:=h
theorem zd (y:Int) (w:World) :
  Calls Tryz.prog 188 #[.int .i64 y] w fun e b=>e=.returned (.bool (leapB y))/\b=w:=by
 unfold leapB;cases c:(y.tmod 4==0)<;>cases d:(y.tmod 100 !=0)<;>cases a:(y.tmod 400==0)
 all_goals
  go_enter Tryz.func188,Tryz.ntmps188
  go_wp2
  go_ret
  exact⟨rfl,rfl⟩
theorem PB {y m:Int} {l:Bool} (a:leapB y=l) (x:Int) (b:(if m=2 then 28+(if l then 1 else 0) else if m=4\/m=6\/m=9\/m=11 then 30 else (31:Int))=x):cI y m=x:=by
 unfold cI lpI;rw [a];exact b
theorem kR (y m:Int) (w:World) (c:1<=m) (b:m<=12) :
  Calls Tryz.prog 206 #[.int .i64 y,.int .i64 m] w fun e a=>e=.returned (.int .i64 (cI y m))/\a=w:=by
 cases d:leapB y<;>rcases month_cases c b with rfl | rfl | rfl | rfl | rfl | rfl | rfl | rfl | rfl | rfl | rfl | rfl
 all_goals
  rw [PB d _ rfl];clear c b
  go_enter Tryz.func206,Tryz.ntmps206
  go_wp2_with (go_at_call 188;refine (zd _ _).mono ?_;rintro e a ⟨rfl,rfl⟩)
  go_ret
  exact⟨rfl,rfl⟩
end Go.Proofs.YtfdddijdjpijbaaGreat
