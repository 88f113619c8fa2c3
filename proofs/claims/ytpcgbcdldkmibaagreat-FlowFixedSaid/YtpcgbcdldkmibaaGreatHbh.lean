/- The contracts of the document's Of, Cur and Check of flows. The contract of the document's Same of two lists that are one. What tenorlaw14's Few and same tell. Lists of the program and of the document that are one. The contracts of the document's Cur and Check of flows. -/
import Derived.Test.YtpcgbcdldkmibaaGreatHba
import Derived.Deep.QuietTactic
import Derived.BigQuiet
import Derived.RegionTactic
import Derived.Deep.RegionHeld3
import Derived.Deep.RegionLaw
import Derived.Test.YtpcgbcdldkmibaaGreatJfW
namespace Go.Proofs.YtpcgbcdldkmibaaGreat
open Go.RowKit

theorem step_append_fd {ops : Array Oper} {o : Oper} {a : Act} {w : World} {K : Act → World → Prop} {Q : Exit → Act → World → Prop} {E : Prop} (hgd : o.guard = none) (s x : Operand)
    (ho : o.op = .call { callee := .builtin .append, args := #[s, x], argTypes := #[40, 40] })
    (base : Nat) (v : Value) (n : Nat) (xs : List Flw) (hs : a.eval s = v) (hown : w.ownsRow base 65 3 v n (rowF aB xs)) (hb : base ≤ w.heap.size)
    (g : Nat) (z : Flw) (hx : a.eval x = .slice (some ⟨g, 0, none⟩) 1 1) (hc : FCells aB w g 0 z) (hn : (n + 1) * 24 ≤ 140737488355328)
    (h : ∀ v' w', w'.ownsRow base 65 3 v' (n + 1) (rowF aB (xs ++ [z])) → Below base w w' → K (a.put o.dst v') w') :
    if Region.wanted o (yielded ops a.tmps) = true then Oper.wp Tryz.prog o a w K Q else E := by
  have hw : Region.wanted o (yielded ops a.tmps) = true := by simp [Region.wanted, hgd]
  rw [if_pos hw]
  obtain ⟨i0, hi, hz0, hz1, hz2⟩ := info_parts info_fd
  refine wp_append_own w s x 40 ho base 65 i0 (.agg #[.int .i64 0, aB 0, .int .i64 0]) 3 24 Tryz.underlying40 hi hz0 hz1 hz2 rfl (by decide) v n (rowF aB xs) hs hown ⟨g, 0, none⟩ 1 1 (rowF aB [z]) hx (by rw [rowF_len]; rfl) ?_ (rowF_one (fun _ => rfl) [z]) (by unfold maxLen; omega) (by omega) hb ?_
  · intro j u hj
    have hlt : j < 3 := by
      have := (List.getElem?_eq_some_iff.1 hj).1
      rw [rowF_len] at this
      exact this
    rw [Addr.add_lit]
    rcases (show j = 0 ∨ j = 1 ∨ j = 2 by omega) with rfl | rfl | rfl
    · rw [← hj]; exact hc.c0
    · rw [← hj]; exact hc.c1
    · rw [← hj]; exact hc.c2
  · intro v' w' h1 h2 _
    refine h v' w' ?_ (fgrown_below hown h2 hb)
    rw [rowF_append]; exact h1
theorem dcells_new (w : World) (f : Flw) : FCells aB (w.alloc (.cells #[.int .i64 f.day, .int .u64 (f.am : Int), .int .i64 f.cur] 65)) w.heap.size 0 f :=
  ⟨by simp, by simp [aB], by simp⟩
end Go.Proofs.YtpcgbcdldkmibaaGreat
namespace Go.Proofs.YtpcgbcdldkmibaaGreat
open Go.RowKit

theorem sameB_self (a : Nat) : sameB (a : Int) (a : Int) = true := by
  unfold sameB; simp
set_option maxRecDepth 20000 in
set_option maxHeartbeats 6400000 in
theorem ref14Same_same (l : List Flw) (p q : Option Addr) (b off c b2 off2 c2 N : Nat) (w : World) (hl : JSrc aF w p b off l) (hm : JSrc aB w q b2 off2 l) (hN : l.length = N) (hc : N ≤ 9223372036854775807) (hf : FitJ l) :
    Calls Tryz.prog 11 #[.slice p N c, .slice q N c2] w fun e w' => e = .returned (.bool true) ∧ Below w.heap.size w w' := by
  have HN := hideS hN
  have HQ := hideS hl
  have HQ2 := hideS hm
  have HF := hideS hf
  have HP : Hid (0 < N → p = some ⟨b, off, none⟩ ∧ q = some ⟨b2, off2, none⟩) := fun h => ⟨hl.at_ (by omega), hm.at_ (by omega)⟩
  clear hl hm hN hf
  go_enter Tryz.func11, Tryz.ntmps11
  go_wp2_with fail
  go_loopw [5] (fun i wr => ∃ k : Nat, k ≤ N ∧ i = .int .i64 k ∧ Hid (∃ n, wr = w.drewN n)) (fun i _ => N - (intOf i).toNat)
  case atStart => exact ⟨0, Nat.zero_le _, rfl, 0, rfl⟩
  case round =>
    obtain ⟨k, hk, rfl, HW⟩ := hrel
    have HB : Hid (Below w.heap.size w wr) := by obtain ⟨n, rfl⟩ := HW.out; exact ⟨rfl, rfl, rfl, Nat.le_refl _, fun _ _ => rfl⟩
    by_cases hlt : k < N
    · obtain ⟨rfl, rfl⟩ := HP.out (by omega)
      obtain ⟨c0, c1, c2'⟩ := (HQ.out.below HB.out).cell k (by rw [HN.out]; exact hlt)
      obtain ⟨d0, d1, d2⟩ := (HQ2.out.below HB.out).cell k (by rw [HN.out]; exact hlt)
      have HSm := hideS fun wx => refSame_any ((l.getD k flw0).am : Int) ((l.getD k flw0).am : Int) wx (by have := HF.out k; unfold U64; omega) (by have := HF.out k; unfold U64; omega)
      rw [sameB_self] at HSm
      obtain ⟨f, hf⟩ : ∃ f, l.getD k flw0 = f := ⟨_, rfl⟩
      rw [hf] at c0 c1 c2' d0 d1 d2 HSm
      clear hf
      obtain ⟨qd, qa, qc⟩ := f
      dsimp only [aF, aB] at *
      have g3 : (0 : Int) ≤ (k : Int) := by omega
      have g4 : (k : Int) < (N : Int) := by omega
      have e1 : (qd != qd) = false := by simp
      have e2 : (qc != qc) = false := by simp
      go_wp2_with fail
      go_quiet (first | (go_at_call 16; exact Calls.quiet_of_same (bits_any _ _)) | (go_at_call 24; exact Calls.quiet_of_same (HSm.out _)))
      all_goals
        go_wp2_with fail
        go_roundw
        case rel => exact ⟨k + 1, by omega, by go_num, by obtain ⟨n, rfl⟩ := HW.out; exact ⟨n + _, by simp [World.drewN, Nat.add_assoc]; rfl⟩⟩
        case measure => simp [intOf]; omega
    · obtain rfl : k = N := by omega
      go_wp2_with fail
      go_ret
      exact ⟨rfl, HB.out⟩
end Go.Proofs.YtpcgbcdldkmibaaGreat
namespace Go.Proofs.YtpcgbcdldkmibaaGreat
open Go.RowKit

structure JL (w : World) (v : Value) (l : List Flw) : Prop where
  ex : ∃ p g o c, v = .slice p l.length c ∧ JSrc aF w p g o l
theorem JL.below {w w' : World} {v : Value} {l : List Flw} (h : JL w v l) (hb : Below w.heap.size w w') : JL w' v l := by
  obtain ⟨p, g, o, c, e, hs⟩ := h.ex
  exact ⟨p, g, o, c, e, hs.below hb⟩
theorem JL.own {w : World} {base : Nat} {v : Value} {l : List Flw} (h : w.ownsRow base 45 3 v l.length (rowF aF l)) : JL w v l := by
  obtain ⟨p, g, c, e, hs, _⟩ := fown_src h rfl
  exact ⟨p, g, 0, c, e, hs⟩
end Go.Proofs.YtpcgbcdldkmibaaGreat
namespace Go.Proofs.YtpcgbcdldkmibaaGreat
open Go.RowKit

structure JD (w : World) (v : Value) (l : List Flw) : Prop where
  ex : ∃ p g c, v = .slice p l.length c ∧ JSrc aB w p g 0 l
theorem JD.below {w w' : World} {v : Value} {l : List Flw} (h : JD w v l) (hb : Below w.heap.size w w') : JD w' v l := by
  obtain ⟨p, g, c, e, hs⟩ := h.ex
  exact ⟨p, g, c, e, hs.below hb⟩
theorem JD.own {w : World} {base : Nat} {v : Value} {l : List Flw} (h : w.ownsRow base 65 3 v l.length (rowF aB l)) : JD w v l := by
  obtain ⟨p, g, c, e, hs, _⟩ := fown_src h rfl
  exact ⟨p, g, c, e, hs⟩
theorem sameD_any (u v : Value) (l : List Flw) (w : World) (hu : JL w u l) (hv : JD w v l) (hl : l.length ≤ 9223372036854775807) (hf : FitJ l) : Calls Tryz.prog 11 #[u, v] w fun e w' => e = .returned (.bool true) ∧ Below w.heap.size w w' := by
  obtain ⟨p, g, o, c, rfl, hs⟩ := hu.ex
  obtain ⟨q, g', c', rfl, hs'⟩ := hv.ex
  exact ref14Same_same l p q g o c g' 0 c' l.length w hs hs' rfl hl hf
end Go.Proofs.YtpcgbcdldkmibaaGreat
namespace Go.Proofs.YtpcgbcdldkmibaaGreat
open Go.RowKit

theorem ref14Cur_any (n : Int) (w : World) :
    Calls Tryz.prog 35 #[.int .i64 n] w fun e w' => e = .returned (.bool (decide (1 ≤ n ∧ n ≤ 8))) ∧ w' = w := by
  by_cases h1 : 1 ≤ n <;> by_cases h2 : n ≤ 8
  all_goals
    first | rw [decide_eq_true (⟨h1, h2⟩ : 1 ≤ n ∧ n ≤ 8)] | rw [decide_eq_false (fun h : 1 ≤ n ∧ n ≤ 8 => by omega)]
    go_enter Tryz.func35, Tryz.ntmps35
    go_wp2
    go_ret
    exact ⟨rfl, rfl⟩
end Go.Proofs.YtpcgbcdldkmibaaGreat
