/-  -/
import Derived.Test.YtfdddijdjpijbaaGreatHai
import Derived.Laws.EntriesVeiled
namespace Go.Proofs.YtfdddijdjpijbaaGreat
open Go.RowKit
theorem mc {f:FuncId} {b:Func} {c:Code} (d:Tryz.prog.funcs[f]? =some b) (a:(b.name== "runtime.NumGoroutine")=false) (e:b.body=some c) (args:Array Value) (w:World) :
  (callFunc f args).run Tryz.prog w=.ok (.enter f args) w:=by
 have g:b.name≠ "runtime.NumGoroutine":=by simpa using a
 simp [callFunc,d,g,e]
theorem me (b:Fn) (first a:Array Value) (w:World):(Instr.makeFunc b first a).run Tryz.prog w=.ok (.func b first a) w:=rfl
end Go.Proofs.YtfdddijdjpijbaaGreat
