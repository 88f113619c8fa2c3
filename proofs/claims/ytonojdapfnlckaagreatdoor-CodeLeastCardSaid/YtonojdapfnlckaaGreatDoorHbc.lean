/- Package deal: Parse of the deal of awake18. The document's Same, of a code and itself. The document's Marks, whatever code. -/
import Derived.Test.YtonojdapfnlckaaGreatDoorHbb
import Derived.Tactics
import Derived.Tactics2
import Derived.Defers
import Derived.Recover
import Derived.Laws.Pointers
namespace Go.Proofs.YtonojdapfnlckaaGreatDoor
open Go.RowKit

set_option maxRecDepth 20000 in
theorem idle18 (p1 p2 p3 : Value) (w : World) :
    CallsD Tryz.prog 21 #[p1, p2, p3] .returning w fun e u' w' => e = .returned (.tuple #[]) ∧ u' = .returning ∧ w' = w := by
  refine callsD_of_wpS Tryz.func21 rfl fun c₀ cs hu => ?_
  apply wpS_seq
  apply wpS_region
  simp [wpOpsS, go_sem, recoverD, hu, Tryz.ntmps21, Exit.thenS]
  apply wpS_seq
  apply wpS_region
  simp [wpOpsS, go_sem, recoverD, hu, Exit.thenS]
  refine wpS_cond (t := false) (by simp [Act.eval, Array.replicate]) ?_
  simp only [Bool.false_eq_true, if_false]
  refine wpS_of_wp (wp_skip ?_)
  cases c₀
  simp_all [bodyPostS, results, Tryz.results21]
structure PrB (w wr : World) : Prop where
  r0 : wr.heap[w.heap.size]? = some (.cells #[.slice none 0 0] 39)
  r1 : wr.heap[w.heap.size + 1]? = some (.cells #[.int .i64 0] 24)
  r2 : wr.heap[w.heap.size + 1 + 1]? = some (.cells #[.int .i64 0] 3)
  bl : Below w.heap.size w wr
theorem prB_at (w : World) : PrB w (((w.alloc (.cells #[.slice none 0 0] 39)).alloc (.cells #[.int .i64 0] 24)).alloc (.cells #[.int .i64 0] 3)) := by
  refine ⟨?_, ?_, ?_, (((Below.refl _ _).alloc (Nat.le_refl _) _).alloc (by simp) _).alloc (by simp; omega) _⟩
  · simp only [al_at, sz_al]; repeat rw [if_neg (by omega)]
    exact if_pos trivial
  · simp only [al_at, sz_al]; repeat rw [if_neg (by omega)]
    exact if_pos trivial
  · simp only [al_at, sz_al]; exact if_pos trivial
theorem PrB.step {w wr w' : World} (h : PrB w wr) (hb : Below wr.heap.size wr w') : PrB w w' := ⟨(hb.block _ (lt_of_blk h.r0)).trans h.r0, (hb.block _ (lt_of_blk h.r1)).trans h.r1, (hb.block _ (lt_of_blk h.r2)).trans h.r2, h.bl.trans (hb.mono h.bl.size)⟩
theorem PrB.over {w wr w' : World} {b : Nat} (h : PrB w wr) (hx : BelX b wr w') (hb : w.heap.size + 1 + 1 < b) : PrB w w' := ⟨(hx.block _ (lt_of_blk h.r0) (by omega)).trans h.r0, (hx.block _ (lt_of_blk h.r1) (by omega)).trans h.r1, (hx.block _ (lt_of_blk h.r2) (by omega)).trans h.r2, hx.below h.bl (by omega) h.bl.size⟩
theorem rdB_at (w : World) (s : ByteArray) (kv : Value) : RdB (w.alloc (.cells #[.string s, kv, .int .i64 0, .int .i64 0, .int .i64 0, .slice none 0 0] 66)) w.heap.size s kv 0 0 0 (.slice none 0 0) := heap_alloc_new _ _
set_option maxRecDepth 20000 in
set_option maxHeartbeats 6400000 in
theorem parse18 (w : World) {bp op cp : Nat} (hp : PfT 6 5 9 bp op cp w) :
    Calls Tryz.prog 12 #[.string txt18] w fun e w' => ∃ v, e = .returned (.tuple #[v, .int .i64 0, .int .i64 0]) ∧ OwnT w.heap.size v [tmP 3, giveT 0, giveT 1] w' ∧ Below w.heap.size w w' := by
  have hmf := make_fnD
  have HP := hidD hp
  have hsz : txt18.size = 28 := rfl
  clear hp
  go_enter_defers Tryz.func12, Tryz.ntmps12
  go_wp2_with fail
  have H0 := hidD (prB_at w)
  refine (kinds_any _).mono ?_
  rintro e wk ⟨v, rfl, hv, hb⟩
  obtain ⟨h, u, rfl, ht⟩ := tab_open hv
  have H1 := hidD (H0.out.step hb)
  have HTb := hidD ht
  have hwk : w.heap.size + 1 + 1 < wk.heap.size := lt_of_blk H1.out.r2
  have HWk := hidD (show w.heap.size ≤ wk.heap.size + 1 by omega)
  clear hv hb ht H0
  have hb1 := al_bel wk (.cells #[.string txt18, .slice (some ⟨h, 0, none⟩) 8 8, .int .i64 0, .int .i64 0, .int .i64 0, .slice none 0 0] 66)
  have H2 := hidD (H1.out.step hb1)
  have HTm := hidD (term18 wk.heap.size h u wk _ HTb.out hb1 (Nat.le_refl _) (rdB_at wk txt18 (.slice (some ⟨h, 0, none⟩) 8 8)) (HP.out.below H1.out.bl))
  have hs2 : (wk.alloc (.cells #[.string txt18, .slice (some ⟨h, 0, none⟩) 8 8, .int .i64 0, .int .i64 0, .int .i64 0, .slice none 0 0] 66)).heap.size = wk.heap.size + 1 := by simp
  clear hb1 hsz
  go_wp2_with fail
  refine HTm.out.mono ?_
  rintro e w3 ⟨rfl, v3, hr3, ho3, hx3⟩
  rw [hs2] at ho3
  have H3 := hidD (H2.out.over hx3 hwk)
  have HO3 := hidD (ho3.lower (show w.heap.size ≤ wk.heap.size + 1 by omega))
  have HWd := hidD (word_at wr18_28 wk.heap.size (.slice (some ⟨h, 0, none⟩) 8 8) v3 18 3 ⟨#[]⟩ (by decide) w3 hr3 (by decide))
  obtain ⟨g3, c3, rfl⟩ := ho3.full (by decide)
  have HG3 := hidD (And.intro ho3 hr3)
  clear hr3 ho3 hx3 HTm H2 hs2
  go_wp2_with fail
  refine HWd.out.mono ?_
  rintro e w4 ⟨rfl, hr4, ho4⟩
  have H4 := hidD (H3.out.over (.of_one ho4) hwk)
  obtain ⟨_, _, q5, _⟩ := rd_cells hr4
  have hg3 : wk.heap.size + 1 ≤ g3 := HG3.out.1.base
  have HO4 := hidD (HG3.out.1.keep (w' := w4) fun k hk => by
    have : g3 = k := by simpa [Value.ownBlock] using hk
    exact ho4.out k (by omega))
  clear hr4 ho4 HWd
  have c0 := cell1_of H4.out.r0
  have c1 := cell1_of H4.out.r1
  have c2 := cell1_of H4.out.r2
  have y0 : w4.frozen? ⟨w.heap.size, 0, none⟩ = false := by simp [World.frozen?, H4.out.r0]
  have y1 : w4.frozen? ⟨w.heap.size + 1, 0, none⟩ = false := by simp [World.frozen?, H4.out.r1]
  have y2 : w4.frozen? ⟨w.heap.size + 1 + 1, 0, none⟩ = false := by simp [World.frozen?, H4.out.r2]
  obtain ⟨w5, hw5⟩ : ∃ w5, ((w4.setCell ⟨w.heap.size, 0, none⟩ (.slice (some ⟨g3, 0, none⟩) [tmP 3, giveT 0, giveT 1].length c3)).setCell ⟨w.heap.size + 1, 0, none⟩ (.int .i64 0)).setCell ⟨w.heap.size + 1 + 1, 0, none⟩ (.int .i64 0) = w5 := ⟨_, rfl⟩
  have HE : Hid ((w5.cell? ⟨w.heap.size, 0, none⟩ = some (.slice (some ⟨g3, 0, none⟩) [tmP 3, giveT 0, giveT 1].length c3) ∧ w5.cell? ⟨w.heap.size + 1, 0, none⟩ = some (.int .i64 0) ∧ w5.cell? ⟨w.heap.size + 1 + 1, 0, none⟩ = some (.int .i64 0)) ∧ OwnT (wk.heap.size + 1) (.slice (some ⟨g3, 0, none⟩) [tmP 3, giveT 0, giveT 1].length c3) [tmP 3, giveT 0, giveT 1] w5 ∧ Below w.heap.size w w5) := by
    refine ⟨⟨?_, ?_, ?_⟩, ?_, ?_⟩
    · rw [← hw5]; simp [go_sem, c0]
    · rw [← hw5]; simp [go_sem, c1]
    · rw [← hw5]; simp [go_sem, c2]
    · rw [← hw5]
      exact HO4.out.keep fun k hk => by
        have : g3 = k := by simpa [Value.ownBlock] using hk
        rw [blkF_far _ _ _ _ (by show k ≠ w.heap.size + 1 + 1; omega), blkF_far _ _ _ _ (by show k ≠ w.heap.size + 1; omega), blkF_far _ _ _ _ (by show k ≠ w.heap.size; omega)]
    · rw [← hw5]
      exact ((H4.out.bl.setCell (p := ⟨w.heap.size, 0, none⟩) (Nat.le_refl _) _).setCell (p := ⟨w.heap.size + 1, 0, none⟩) (by show w.heap.size ≤ w.heap.size + 1; omega) _).setCell (p := ⟨w.heap.size + 1 + 1, 0, none⟩) (by show w.heap.size ≤ w.heap.size + 1 + 1; omega) _
  have e3 : [tmP 3, giveT 0, giveT 1].length = 3 := rfl
  rw [e3] at hw5 q5
  clear e3 hg3 hwk
  go_wp2_with fail
  refine leaves_cons (f := 21) (args := #[.pointer (some ⟨w.heap.size, 0, none⟩), .pointer (some ⟨w.heap.size + 1, 0, none⟩), .pointer (some ⟨w.heap.size + 1 + 1, 0, none⟩)]) (by simp) (by simp [go_sem]) ?_
  refine (idle18 _ _ _ _).mono ?_
  rintro e u' w'' ⟨rfl, rfl, rfl⟩
  obtain ⟨⟨k0, k1, k2⟩, ho, hb⟩ := HE.out
  simp [Leaves, settle, results, Tryz.results12, go_sem, k0, k1, k2]
  exact ⟨ho.lower HWk.out, hb⟩
end Go.Proofs.YtonojdapfnlckaaGreatDoor
namespace Go.Proofs.YtonojdapfnlckaaGreatDoor
open Go.RowKit

theorem below_drewNm {B : Nat} {w w2 : World} {n : Nat} (hb : Below B w w2) : Below B w (w2.drewN n) := ⟨hb.os, hb.tape, hb.output, hb.size, hb.block⟩
theorem eqP_refl (p : Opr) : eqP p p = true := by simp [eqP]
theorem eqP_nrun (p q : Opr) (w : World) : (binOp .neq 57 (.agg (opD p)) (.agg (opD q))).run Tryz.prog w = .ok (.bool (!(eqP p q))) w := by
  have h := eqP_run p q w
  rw [run_eql_struct] at h
  rw [run_neq_struct]
  generalize (Op.equalIn 10000 57 (.agg (opD p)) (.agg (opD q))).run Tryz.prog w = z at h ⊢
  cases z with
  | ok b w' =>
    have h' : Result.ok (Value.bool b) w' = Result.ok (Value.bool (eqP p q)) w := h
    injection h' with h1 h2
    injection h1 with h1
    subst h1 h2
    rfl
  | _ => cases h

set_option maxRecDepth 20000 in
set_option maxHeartbeats 12800000 in
theorem r18Same_same (l : List Opr) (N : Nat) (p q : Option Addr) (b off c g off' c' : Nat) (w : World) (hl : OSrc w p b off l) (hm : DSrc w q g off' l) (hN : l.length = N) (hc : N * 72 ≤ 140737488355328) :
    Calls Tryz.prog 9 #[.slice p N c, .slice q N c'] w fun e w' => e = .returned (.bool true) ∧ Below w.heap.size w w' := by
  have HO := hidD (r18Of_any l N p b off c w hl hN hc)
  have HS := hidD (And.intro hm hN)
  have hc2 : N ≤ 140737488355328 := by omega
  clear hl hm hc hN
  go_enter Tryz.func9, Tryz.ntmps9
  go_wp2_with fail
  refine HO.out.mono ?_
  rintro e w1 ⟨⟨k0, cq, rfl, ho⟩, hb⟩
  obtain ⟨g2, hd⟩ := dsrc_of ho HS.out.2
  have H1 := hidD (And.intro hb hd)
  clear ho hb hd HO
  go_wp2_with fail
  go_loopw [6] (fun i wr => ∃ k : Nat, k ≤ N ∧ i = .int .i64 k ∧ Hid (Below w.heap.size w wr) ∧ Hid (DSrc wr k0 g2 0 l)) (fun i _ => N - (intOf i).toNat)
  case atStart => exact ⟨0, Nat.zero_le _, rfl, H1.out.1, H1.out.2⟩
  case round =>
    obtain ⟨k, hk, rfl, HB, HD⟩ := hrel
    by_cases hlt : k < N
    · have hlt' : k < l.length := by rw [HS.out.2]; exact hlt
      have HSr := hidD (HS.out.1.below HB.out)
      obtain rfl := HSr.out.at_ (by omega)
      obtain rfl := HD.out.at_ (by omega)
      have c0 := HSr.out.c0 k hlt'
      have c1 := HSr.out.c1 k hlt'
      have c2 := HSr.out.c2 k hlt'
      have c3 := HSr.out.c3 k hlt'
      have c4 := HSr.out.c4 k hlt'
      have c5 := HSr.out.c5 k hlt'
      have c6 := HSr.out.c6 k hlt'
      have c7 := HSr.out.c7 k hlt'
      have c8 := HSr.out.c8 k hlt'
      have d0 := HD.out.c0 k hlt'
      have d1 := HD.out.c1 k hlt'
      have d2 := HD.out.c2 k hlt'
      have d3 := HD.out.c3 k hlt'
      have d4 := HD.out.c4 k hlt'
      have d5 := HD.out.c5 k hlt'
      have d6 := HD.out.c6 k hlt'
      have d7 := HD.out.c7 k hlt'
      have d8 := HD.out.c8 k hlt'
      simp only [Nat.zero_add] at d0 d1 d2 d3 d4 d5 d6 d7 d8
      have heq := fun w => eqP_nrun (l.getD k opr0) (l.getD k opr0) w
      rw [eqP_refl] at heq
      generalize l.getD k opr0 = o at *
      unfold opD at heq
      have i1 : (k : Int) < (N : Int) := by omega
      clear hlt'
      go_wp2_with fail
      go_quiet (fail)
      go_wp2_with fail
      go_roundw
      case rel => exact ⟨k + 1, by omega, by simp, below_drewNm HB.out, HD.out.below (below_drewNm (Below.refl _ _))⟩
      case measure => simp [intOf]; omega
    · obtain rfl : k = N := by omega
      go_wp2_with fail
      go_ret
      exact ⟨rfl, HB.out⟩
end Go.Proofs.YtonojdapfnlckaaGreatDoor
namespace Go.Proofs.YtonojdapfnlckaaGreatDoor
open Go.RowKit

theorem MeaR.none {l : List Opr} {M E A : Int} (h : MeaR l M E A) (he : E ≠ 0) : M = 0 := by
  cases h with
  | long => rfl
  | bad => rfl
  | left => rfl
  | fine => exact absurd rfl he
end Go.Proofs.YtonojdapfnlckaaGreatDoor
