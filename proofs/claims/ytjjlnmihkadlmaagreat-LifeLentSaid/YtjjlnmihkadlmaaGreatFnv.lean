/-  -/
import Derived.Test.YtjjlnmihkadlmaaGreatHaj
import Derived.Laws.EntriesVeiled
namespace Go.Proofs.YtjjlnmihkadlmaaGreat
open Go.RowKit

theorem rq {f:FuncId} {fn:Func} {c:Code} (hf:Tryz.prog.funcs[f]? =some fn) (hname:(fn.name== "runtime.NumGoroutine")=false) (hb:fn.body=some c) (args:Array Value) (w:World) :
  (callFunc f args).run Tryz.prog w=.ok (.enter f args) w:=by
 have h1:fn.name≠ "runtime.NumGoroutine":=by simpa using hname
 simp [callFunc,hf,h1,hb]
theorem ru (fn:Fn) (first cap:Array Value) (w:World):(Instr.makeFunc fn first cap).run Tryz.prog w=.ok (.func fn first cap) w:=rfl
end Go.Proofs.YtjjlnmihkadlmaaGreat
