/- The contract of sched's between. -/
import Derived.Test.YtelghkhcplmnmaaSpCf
import Derived.Test.YtelghkhcplmnmaaSpCb
namespace Go.Proofs.Ytelghkhcplmnmaa
open Go.RowKit

/-- between, of a schedule that may be. -/
theorem schBet_any (s : Spc) (W : Int) (v : Value) (K : Nat) (w : World) (h : SpcOk s) (hK : DatR s K) :
    Calls Try.prog 16 #[.agg #[.int .i64 s.st, .int .i64 s.en, .int .i64 s.n, .int .i64 s.unit, .int .i64 s.stub, .int .i64 s.roll, .int .i64 s.conv, .int .i64 s.lag, .int .i64 W, v]] w fun e w' => BetG (innL s) (evenB s K) K w e w' ∧ Below w.heap.size w w' := by
  have H : BetH s W v K (pkO s) (innL s) (evenB s K) (ancI s) (othI s) (sgnI s) := by
    have hsg : sgnI s = 1 ∨ sgnI s = -1 := by unfold sgnI; split; exact Or.inr rfl; exact Or.inl rfl
    have hA : isDayP (ancI s) := by unfold ancI; split; exact h.e0; exact h.s0
    refine ⟨fun j hj => pk_in h hK hj, ?_, fun k J o wx hk hJ ho => ?_, rfl, inn_succ s, inn_len s, hsg⟩
    · have ho := hK.out
      unfold evenB
      cases hp : pkO s (K + 1) with
      | none => exact Or.inl ⟨rfl, rfl⟩
      | some x =>
        rw [hp] at ho
        refine Or.inr ⟨x, rfl, ?_, rfl⟩
        have ho2 : (if s.stub ≤ 2 then decide (x ≤ s.st) else decide (s.en ≤ x)) = true := ho
        have hlt := h.lt
        by_cases e : s.stub ≤ 2
        · rw [if_pos e] at ho2
          have := of_decide_eq_true ho2
          exact Or.inl (decide_eq_false (by omega))
        · rw [if_neg e] at ho2
          have := of_decide_eq_true ho2
          exact Or.inr ⟨decide_eq_true (by omega), decide_eq_false (by omega)⟩
    · have hJb : -200000 ≤ J ∧ J ≤ 200000 := by rcases hsg with e | e <;> rw [e] at hJ <;> omega
      have := schStep_any s W (ancI s) J v wx h hA hJb.1 hJb.2
      have ho' : ptO s (ancI s) J = o := by rw [hJ]; exact ho
      rw [ho'] at this
      exact this
  by_cases e : s.stub ≤ 2
  · exact between_b s W v K (pkO s) (innL s) (evenB s K) (ancI s) (othI s) (sgnI s) w h.t1 h.t2 (decide_eq_true e).symm (if_pos e) (if_pos e) (if_pos e) H
  · exact between_f s W v K (pkO s) (innL s) (evenB s K) (ancI s) (othI s) (sgnI s) w h.t1 h.t2 (decide_eq_false e).symm (if_neg e) (if_neg e) (if_neg e) H
end Go.Proofs.Ytelghkhcplmnmaa
