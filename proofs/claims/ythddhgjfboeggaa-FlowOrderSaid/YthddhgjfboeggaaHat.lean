/- The contracts of the document's Of, Cur and Check of flows. The contract of the document's Same of two lists that are one. What tenorlaw14's Few and same tell. Lists of the program and of the document that are one. -/
import Derived.Test.YthddhgjfboeggaaHao
import Derived.Deep.QuietTactic
import Derived.BigQuiet
import Derived.RegionTactic
import Derived.Deep.RegionHeld3
import Derived.Deep.RegionLaw
import Derived.Test.YthddhgjfboeggaaJfW
namespace Go.Proofs.Ythddhgjfboeggaa
open Go.RowKit

/-- An append of one flow of the document's, inside a region that draws. -/
theorem step_append_fd {ops : Array Oper} {o : Oper} {a : Act} {w : World} {K : Act → World → Prop} {Q : Exit → Act → World → Prop} {E : Prop} (hgd : o.guard = none) (s x : Operand)
    (ho : o.op = .call { callee := .builtin .append, args := #[s, x], argTypes := #[54, 54] })
    (base : Nat) (v : Value) (n : Nat) (xs : List Flw) (hs : a.eval s = v) (hown : w.ownsRow base 75 3 v n (rowF aB xs)) (hb : base ≤ w.heap.size)
    (g : Nat) (z : Flw) (hx : a.eval x = .slice (some ⟨g, 0, none⟩) 1 1) (hc : FCells aB w g 0 z) (hn : (n + 1) * 24 ≤ 140737488355328)
    (h : ∀ v' w', w'.ownsRow base 75 3 v' (n + 1) (rowF aB (xs ++ [z])) → Below base w w' → K (a.put o.dst v') w') :
    if Region.wanted o (yielded ops a.tmps) = true then Oper.wp Try.prog o a w K Q else E := by
  have hw : Region.wanted o (yielded ops a.tmps) = true := by simp [Region.wanted, hgd]
  rw [if_pos hw]
  obtain ⟨i0, hi, hz0, hz1, hz2⟩ := info_parts info_fd
  refine wp_append_own w s x 54 ho base 75 i0 (.agg #[.int .i64 0, aB 0, .int .i64 0]) 3 24 Try.underlying54 hi hz0 hz1 hz2 rfl (by decide) v n (rowF aB xs) hs hown ⟨g, 0, none⟩ 1 1 (rowF aB [z]) hx (by rw [rowF_len]; rfl) ?_ (rowF_one (fun _ => rfl) [z]) (by unfold maxLen; omega) (by omega) hb ?_
  · intro j u hj
    have hlt : j < 3 := by
      have := (List.getElem?_eq_some_iff.1 hj).1
      rw [rowF_len] at this
      exact this
    rw [Addr.add_lit]
    rcases (show j = 0 ∨ j = 1 ∨ j = 2 by omega) with rfl | rfl | rfl
    · rw [← hj]; exact hc.c0
    · rw [← hj]; exact hc.c1
    · rw [← hj]; exact hc.c2
  · intro v' w' h1 h2 _
    refine h v' w' ?_ (fgrown_below hown h2 hb)
    rw [rowF_append]; exact h1
theorem dcells_new (w : World) (f : Flw) : FCells aB (w.alloc (.cells #[.int .i64 f.day, .int .u64 (f.am : Int), .int .i64 f.cur] 75)) w.heap.size 0 f :=
  ⟨by simp, by simp [aB], by simp⟩
theorem take_id (l : List Flw) : mapN id l l.length = l := by rw [mapN_all]; simp

set_option maxRecDepth 20000 in
set_option maxHeartbeats 6400000 in
theorem ref14Of_any (l : List Flw) (p : Option Addr) (b off c N : Nat) (w : World) (hl : JSrc aF w p b off l) (hN : l.length = N) (hc : N * 24 ≤ 140737488355328) :
    Calls Try.prog 20 #[.slice p N c] w fun e w' => (∃ u, e = .returned u ∧ w'.ownsRow w.heap.size 75 3 u N (rowF aB l)) ∧ Below w.heap.size w w' := by
  have HN := hideS hN
  have HQ := hideS hl
  have HP : Hid (0 < N → p = some ⟨b, off, none⟩) := fun h => hl.at_ (by omega)
  have HC := hideS hc
  have hc2 : N ≤ 140737488355328 := by omega
  have HO0 := hideS (fown_nil aB w w.heap.size 75)
  clear hl hN hc
  go_enter Try.func20, Try.ntmps20
  go_wp2_with fail
  go_loopw [3, 4] (fun g i wr => ∃ (k : Nat) (q : Option Addr) (cp : Nat), k ≤ N ∧ i = .int .i64 k ∧ g = .slice q k cp ∧ Hid (wr.ownsRow w.heap.size 75 3 (.slice q k cp) k (rowF aB (mapN id l k))) ∧ Hid (Below w.heap.size w wr)) (fun _ i _ => N - (intOf i).toNat)
  case atStart => exact ⟨0, none, 0, Nat.zero_le _, rfl, rfl, HO0, Below.refl _ _⟩
  case round =>
    clear HO0
    obtain ⟨k, q, cp, hk, rfl, rfl, HO, HB⟩ := hrel
    by_cases hlt : k < N
    · obtain rfl := HP.out (by omega)
      obtain ⟨c0, c1, c2⟩ := (HQ.out.below HB.out).cell k (by rw [HN.out]; exact hlt)
      have hbl : b < wr.heap.size := Nat.lt_of_lt_of_le (HQ.out.lt (by rw [HN.out]; omega)) HB.out.size
      have HS : Hid (mapN id l (k + 1) = mapN id l k ++ [l.getD k flw0]) := mapN_succ id l k
      obtain ⟨f, hf⟩ : ∃ f, l.getD k flw0 = f := ⟨_, rfl⟩
      rw [hf] at HS c0 c1 c2
      clear hf
      obtain ⟨qd, qa, qc⟩ := f
      dsimp only [aF] at *
      have hbn : b ≠ wr.heap.size := Nat.ne_of_lt hbl
      have HBw := hideS ((Below.refl wr.heap.size wr).drew.alloc (Nat.le_refl _) (.cells #[.int .i64 qd, .int .u64 (qa : Int), .int .i64 qc] 75))
      have HO4 := hideS (fown_below HO.out HBw.out)
      have HB4 := hideS (HB.out.trans (HBw.out.mono HB.out.size))
      have HFc : Hid (FCells aB (wr.drew.alloc (.cells #[.int .i64 qd, .int .u64 (qa : Int), .int .i64 qc] 75)) wr.heap.size 0 ⟨qd, qa, qc⟩) := dcells_new wr.drew ⟨qd, qa, qc⟩
      have g3 : (0 : Int) ≤ (k : Int) := by omega
      have g4 : (k : Int) < (N : Int) := by omega
      go_wp2_with fail
      go_region_law (first | (go_simp; go_at_call 10; refine (turned (bits_any _ _)).mono ?_; rintro e wb ⟨rfl, rfl⟩) | (refine step_append_fd rfl (.tmp 11) (.tmp 29) rfl w.heap.size (.slice q k cp) k (mapN id l k) rfl HO4.out HB4.out.size wr.heap.size ⟨qd, qa, qc⟩ rfl HFc.out (by have := HC.out; omega) ?_; intro v5 w5 ho5 hb5; rw [← HS.out] at ho5; have HB5 := hideS (HB4.out.trans hb5); obtain ⟨q5, g5, k5, hv5, _, _, _, hm5⟩ := fown_src ho5 (mapN_len _ _ _); subst hv5; have HO5 := hideS ho5; clear ho5 hb5))
      all_goals
        go_wp2_with fail
        go_roundw
        case rel => exact ⟨k + 1, q5, k5, by omega, by go_num, rfl, HO5, HB5⟩
        case measure => simp [intOf]; omega
    · obtain rfl : k = N := by omega
      go_wp2_with fail
      go_ret
      refine ⟨⟨_, rfl, ?_⟩, HB.out⟩
      have := HO.out
      rw [← HN.out, take_id, HN.out] at this
      exact this
end Go.Proofs.Ythddhgjfboeggaa
namespace Go.Proofs.Ythddhgjfboeggaa
open Go.RowKit

theorem sameB_self (a : Nat) : sameB (a : Int) (a : Int) = true := by
  unfold sameB; simp
set_option maxRecDepth 20000 in
set_option maxHeartbeats 6400000 in
theorem ref14Same_same (l : List Flw) (p q : Option Addr) (b off c b2 off2 c2 N : Nat) (w : World) (hl : JSrc aF w p b off l) (hm : JSrc aB w q b2 off2 l) (hN : l.length = N) (hc : N ≤ 9223372036854775807) (hf : FitJ l) :
    Calls Try.prog 19 #[.slice p N c, .slice q N c2] w fun e w' => e = .returned (.bool true) ∧ Below w.heap.size w w' := by
  have HN := hideS hN
  have HQ := hideS hl
  have HQ2 := hideS hm
  have HF := hideS hf
  have HP : Hid (0 < N → p = some ⟨b, off, none⟩ ∧ q = some ⟨b2, off2, none⟩) := fun h => ⟨hl.at_ (by omega), hm.at_ (by omega)⟩
  clear hl hm hN hf
  go_enter Try.func19, Try.ntmps19
  go_wp2_with fail
  go_loopw [5] (fun i wr => ∃ k : Nat, k ≤ N ∧ i = .int .i64 k ∧ Hid (∃ n, wr = w.drewN n)) (fun i _ => N - (intOf i).toNat)
  case atStart => exact ⟨0, Nat.zero_le _, rfl, 0, rfl⟩
  case round =>
    obtain ⟨k, hk, rfl, HW⟩ := hrel
    have HB : Hid (Below w.heap.size w wr) := by obtain ⟨n, rfl⟩ := HW.out; exact ⟨rfl, rfl, rfl, Nat.le_refl _, fun _ _ => rfl⟩
    by_cases hlt : k < N
    · obtain ⟨rfl, rfl⟩ := HP.out (by omega)
      obtain ⟨c0, c1, c2'⟩ := (HQ.out.below HB.out).cell k (by rw [HN.out]; exact hlt)
      obtain ⟨d0, d1, d2⟩ := (HQ2.out.below HB.out).cell k (by rw [HN.out]; exact hlt)
      have HSm := hideS fun wx => refSame_any ((l.getD k flw0).am : Int) ((l.getD k flw0).am : Int) wx (by have := HF.out k; unfold U64; omega) (by have := HF.out k; unfold U64; omega)
      rw [sameB_self] at HSm
      obtain ⟨f, hf⟩ : ∃ f, l.getD k flw0 = f := ⟨_, rfl⟩
      rw [hf] at c0 c1 c2' d0 d1 d2 HSm
      clear hf
      obtain ⟨qd, qa, qc⟩ := f
      dsimp only [aF, aB] at *
      have g3 : (0 : Int) ≤ (k : Int) := by omega
      have g4 : (k : Int) < (N : Int) := by omega
      have e1 : (qd != qd) = false := by simp
      have e2 : (qc != qc) = false := by simp
      go_wp2_with fail
      go_quiet (first | (go_at_call 10; exact Calls.quiet_of_same (bits_any _ _)) | (go_at_call 34; exact Calls.quiet_of_same (HSm.out _)))
      all_goals
        go_wp2_with fail
        go_roundw
        case rel => exact ⟨k + 1, by omega, by go_num, by obtain ⟨n, rfl⟩ := HW.out; exact ⟨n + _, by simp [World.drewN, Nat.add_assoc]; rfl⟩⟩
        case measure => simp [intOf]; omega
    · obtain rfl : k = N := by omega
      go_wp2_with fail
      go_ret
      exact ⟨rfl, HB.out⟩
end Go.Proofs.Ythddhgjfboeggaa
namespace Go.Proofs.Ythddhgjfboeggaa
open Go.RowKit

theorem few14_any (p : Option Addr) (N c : Nat) (w : World) (hc : N ≤ 9223372036854775807) : Calls Try.prog 4 #[.slice p N c] w fun e w' => e = .returned (.bool (decide (N ≤ 120))) ∧ w' = w := by
  by_cases h : N ≤ 120
  · rw [decide_eq_true h]
    have h' : (N : Int) ≤ 120 := by omega
    go_enter Try.func4, Try.ntmps4
    go_wp2
    go_ret
    exact ⟨by simp, rfl⟩
  · rw [decide_eq_false h]
    have h' : ¬ (N : Int) ≤ 120 := by omega
    go_enter Try.func4, Try.ntmps4
    go_wp2
    go_ret
    exact ⟨by simp, rfl⟩
/-- A list in memory that may be asked. -/
structure JL (w : World) (v : Value) (l : List Flw) : Prop where
  ex : ∃ p g o c, v = .slice p l.length c ∧ JSrc aF w p g o l
theorem JL.below {w w' : World} {v : Value} {l : List Flw} (h : JL w v l) (hb : Below w.heap.size w w') : JL w' v l := by
  obtain ⟨p, g, o, c, e, hs⟩ := h.ex
  exact ⟨p, g, o, c, e, hs.below hb⟩
theorem JL.own {w : World} {base : Nat} {v : Value} {l : List Flw} (h : w.ownsRow base 36 3 v l.length (rowF aF l)) : JL w v l := by
  obtain ⟨p, g, c, e, hs, _⟩ := fown_src h rfl
  exact ⟨p, g, 0, c, e, hs⟩
set_option maxHeartbeats 1600000 in
/-- Two lists that are one. -/
theorem same14_any (u v : Value) (l : List Flw) (w : World) (hu : JL w u l) (hv : JL w v l) (hl : l.length * 24 ≤ 140737488355328) (hf : FitJ l) : Calls Try.prog 8 #[u, v] w fun e w' => e = .returned (.bool true) ∧ Below w.heap.size w w' := by
  obtain ⟨p, g, o, c, rfl, hs⟩ := hu.ex
  obtain ⟨p', g', o', c', rfl, hs'⟩ := hv.ex
  have H1 := hideS (ref14Of_any l p' g' o' c' l.length w hs' rfl hl)
  have H2 := hideS fun wx (hb : Below w.heap.size w wx) q b2 c2 (hm : JSrc aB wx q b2 0 l) => ref14Same_same l p q g o c b2 0 c2 l.length wx (hs.below hb) hm rfl (by omega) hf
  have HD := hideS fun (wx : World) u (h : wx.ownsRow w.heap.size 75 3 u l.length (rowF aB l)) => fown_src h rfl
  generalize l.length = N at *
  clear hs hs' hu hv hl hf
  go_enter Try.func8, Try.ntmps8
  go_wp2_with fail
  refine H1.out.mono ?_
  rintro e w1 ⟨⟨u, rfl, ho⟩, hb1⟩
  obtain ⟨q, b2, c2, rfl, hm, _, _, _⟩ := HD.out w1 u ho
  have H3 := hideS (H2.out w1 hb1 q b2 c2 hm)
  have HB := hideS hb1
  clear ho hb1 hm H1 H2 HD
  go_wp2_with fail
  refine H3.out.mono ?_
  rintro e w2 ⟨rfl, hb2⟩
  have HB2 := hideS (HB.out.trans (hb2.mono HB.out.size))
  clear hb2
  go_wp2_with fail
  go_ret
  exact ⟨rfl, HB2.out⟩
end Go.Proofs.Ythddhgjfboeggaa
namespace Go.Proofs.Ythddhgjfboeggaa
open Go.RowKit

end Go.Proofs.Ythddhgjfboeggaa
