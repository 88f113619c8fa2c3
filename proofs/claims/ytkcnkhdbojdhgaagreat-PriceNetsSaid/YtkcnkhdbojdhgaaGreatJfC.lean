/- The contracts of package flow's Give and Window. -/
import Derived.Test.YtkcnkhdbojdhgaaGreatJfB
namespace Go.Proofs.YtkcnkhdbojdhgaaGreat
open Go.RowKit

theorem fcells_new (w : World) (f : Flw) : FCells aF (w.alloc (.cells #[.int .i64 f.day, .float .f64 f.am, .int .i64 f.cur] 81)) w.heap.size 0 f :=
  ⟨by simp, by simp [aF], by simp⟩
theorem wpList_append_f1 (w : World) {ops : Array Oper} {rest : List Oper} {o : Oper} {a : Act} {Q : Exit → Act → World → Prop} (hgd : o.guard = none) (s x : Operand)
    (ho : o.op = .call { callee := .builtin .append, args := #[s, x], argTypes := #[22, 22] })
    (base : Nat) (v : Value) (n : Nat) (xs : List Flw) (hs : a.eval s = v) (hown : w.ownsRow base 81 3 v n (rowF aF xs)) (hb : base ≤ w.heap.size)
    (g : Nat) (z : Flw) (hx : a.eval x = .slice (some ⟨g, 0, none⟩) 1 1) (hc : FCells aF w g 0 z) (hn : (n + 1) * 24 ≤ 140737488355328)
    (h : ∀ v' w', w'.ownsRow base 81 3 v' (n + 1) (rowF aF (xs ++ [z])) → Below base w w' → wpList Tryz.prog ops Q rest (a.put o.dst v') w') : wpList Tryz.prog ops Q (o :: rest) a w :=
  wpList_append_fl aF (fun _ => rfl) 22 81 Tryz.underlying22 info_fl rfl w hgd s x ho base v n xs hs hown g 0 1 [z] hx (fun i hi => by
    obtain rfl : i = 0 := by simp at hi; omega
    exact hc) hn hb (fun v' w' h1 h2 => h v' w' h1 (fgrown_below hown h2 hb))

end Go.Proofs.YtkcnkhdbojdhgaaGreat
