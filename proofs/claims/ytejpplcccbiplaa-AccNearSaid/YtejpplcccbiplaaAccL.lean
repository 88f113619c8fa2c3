/- The contracts of package acc's Turn, Copy, Merge, Same. -/
import Derived.Test.YtejpplcccbiplaaAccK
namespace Go.Proofs.Ytejpplcccbiplaa
open Go.RowKit

set_option maxHeartbeats 800000 in
theorem turn_any (B b : Nat) (v : Value) (L : Nat) (a : St) (w : World) (h : AccAt w B b v L a) (hB : B ≤ w.heap.size) (hL : L ≤ 40000) :
    Calls Try.prog 18 #[.pointer (some ⟨b, 0, none⟩)] w fun r w' => r = .returned (.tuple #[]) ∧ ∃ v', Did w w' B b v (L + 1) a.turn v' := by
  have HA := hideS h
  have c0 := h.cell0
  have c1 := h.cell1
  have f0 := h.frozen 0
  have hs3 := h.ok.s3
  have hn0 := h.ok.n0
  obtain ⟨xs, ho, hl, hs⟩ := h.own
  have HT := hideS (turned_any B v xs a.N w ho hs (by omega))
  have HL := hideS hl
  obtain ⟨tgt, htgt⟩ : ∃ tgt : St, a.turn = tgt := ⟨_, rfl⟩
  rw [htgt]
  clear h ho hl hs
  rcases (show a.s = 0 ∨ a.s = 1 ∨ a.s = 2 ∨ a.s = 3 by omega) with h0 | h0 | h0 | h0
  · have HR : Hid (tgt = ⟨a.s, -a.N⟩) := by show _ = _; rw [← htgt]; unfold St.turn; rw [h0]; rfl
    rw [h0] at c0
    clear htgt hs3 hn0
    go_enter Try.func18, Try.ntmps18
    go_wp2_with fail
    refine HT.out.mono ?_
    rintro e w1 ⟨v1, zs, rfl, o1, l1, s1, b1⟩
    obtain ⟨p1, g1, cc1, rfl, _⟩ := o1.shape
    have o2 : OwnW w1 B (.slice p1 zs.length cc1) zs := by
      refine ⟨⟨o1.own.1, ?_⟩, o1.fit⟩
      rcases o1.own.2 with h6 | ⟨g, cap, cur, h6, h7, rest⟩
      · exact .inl h6
      · exact .inr ⟨g, cap, cur, h6, Nat.le_trans hB h7, rest⟩
    have n1 : New w v (.slice p1 zs.length cc1) := fun k hk => Or.inr (o1.lt k hk).1
    have r1 : Wrote w w1 (At v) := wrote_below b1
    obtain ⟨d1, fz⟩ := HA.out.wroteAt r1
    have R := hideS (HA.out.stored r1 o2 (L' := L + 1) (by have := HL.out; omega) s1 n1 (fun h => absurd h0 h))
    have RN := hideS n1
    clear o1 l1 s1 b1 o2 n1 r1 HT
    go_wp2_with fail
    go_end0
    exact ⟨rfl, _, by rw [HR.out]; exact R.out.1, R.out.2, RN.out⟩
  · have HR : Hid (tgt = ⟨2, a.N⟩) := by show _ = _; rw [← htgt]; unfold St.turn; rw [h0, hn0 (by omega)]; rfl
    have HS := hideS (HA.out.setState 2 (by omega) (fun _ => hn0 (by omega)))
    rw [h0] at c0
    clear htgt hs3 hn0 HT h0
    go_enter Try.func18, Try.ntmps18
    go_wp2_with fail
    go_end0
    exact ⟨rfl, v, by rw [HR.out]; exact HS.out.1.mono (by omega), HS.out.2.mono (fun k hk => Or.inl hk), New.refl _ _⟩
  · have HR : Hid (tgt = ⟨1, a.N⟩) := by show _ = _; rw [← htgt]; unfold St.turn; rw [h0, hn0 (by omega)]; rfl
    have HS := hideS (HA.out.setState 1 (by omega) (fun _ => hn0 (by omega)))
    rw [h0] at c0
    clear htgt hs3 hn0 HT h0
    go_enter Try.func18, Try.ntmps18
    go_wp2_with fail
    go_end0
    exact ⟨rfl, v, by rw [HR.out]; exact HS.out.1.mono (by omega), HS.out.2.mono (fun k hk => Or.inl hk), New.refl _ _⟩
  · have HR : Hid (tgt = a) := by
      show _ = _
      rw [← htgt]
      unfold St.turn
      apply st_ext
      · show (if a.s = 1 then 2 else if a.s = 2 then 1 else a.s) = a.s
        rw [h0]; rfl
      · show -a.N = a.N
        rw [hn0 (by omega)]; rfl
    rw [h0] at c0
    clear htgt hs3 hn0 HT h0
    go_enter Try.func18, Try.ntmps18
    go_wp2_with fail
    go_end0
    exact ⟨rfl, v, by rw [HR.out]; exact HA.out.mono (by omega), Wrote.refl _ _, New.refl _ _⟩

/-- slices.Clone of a row of words. -/
theorem clone_any (B : Nat) (v : Value) (xs : List Nat) (w : World) (h : OwnW w B v xs) (hn : xs.length ≤ 100000) :
    Calls Try.prog 42 #[v] w fun e w' => ∃ v', e = .returned v' ∧ OwnW w' w.heap.size v' xs ∧ Below w.heap.size w w' := by
  obtain ⟨i0, hi, hz0, hz1, hz2⟩ := info_parts infoU
  rcases h.own.2 with ⟨hv, hn0⟩ | ⟨g, cap, cur, hv, hb, hg, hnc, hcm, hcs, htake⟩
  · have hx : xs = [] := List.length_eq_zero_iff.1 hn0
    subst hx
    rw [hv]
    refine (AnyE.slices_Clone_nil Try.cloneL 0 0 w : Calls Try.prog 42 #[.slice none 0 0] w _).mono ?_
    rintro e w' ⟨rfl, rfl⟩
    exact ⟨_, rfl, ⟨World.ownsRow_nil _ _ _ _, h.fit⟩, Below.refl _ _⟩
  · have ho := h.own
    rw [hv] at ho
    have key := AnyE.slices_Clone Try.cloneL i0 (.int .u64 0) 1 8 hi hz0 hz1 hz2 rfl (by decide) Try.sizeOf38 g 0 xs.length cap (xs.map uV) w (by simp) (by unfold maxLen; omega) (by omega) (fun j u hj => by
      have := ho.cells (g := g) rfl j u hj
      rw [Addr.add_lit] at this; exact this) (fun u hu => by obtain ⟨x, _, rfl⟩ := List.mem_map.1 hu; rfl)
    rw [hv]
    refine (key : Calls Try.prog 42 _ _ _).mono ?_
    rintro e w' ⟨v', rfl, ho', _, hb'⟩
    exact ⟨v', rfl, ⟨ho', h.fit⟩, hb'⟩

theorem copied_acc {w w1 : World} {B L : Nat} {v1 : Value} {a : St} {xs : List Nat} (hok : a.Ok) (hl : xs.length ≤ L) (hs : Sg xs a.N) (hB : B ≤ w.heap.size) (o1 : OwnW w1 w.heap.size v1 xs) (b1 : Below w.heap.size w w1) :
    AccAt (w1.alloc (.cells #[.int .u8 (a.s : Int), v1] 56)) B w1.heap.size v1 L a ∧ (∀ k, Ft w1.heap.size v1 k → w.heap.size ≤ k) ∧ Below w.heap.size w (w1.alloc (.cells #[.int .u8 (a.s : Int), v1] 56)) := by
  have hsz := b1.size
  have o2 : OwnW w1 B v1 xs := by
    refine ⟨⟨o1.own.1, ?_⟩, o1.fit⟩
    rcases o1.own.2 with h6 | ⟨g, cap, cur, h6, h7, rest⟩
    · exact .inl h6
    · exact .inr ⟨g, cap, cur, h6, Nat.le_trans hB h7, rest⟩
  refine ⟨⟨heap_alloc_new w1 _, by omega, ⟨xs, o2.alloc _, hl, hs⟩, fun e => ?_, hok⟩, ?_, b1.alloc hsz _⟩
  · have := (o1.lt _ e).2; omega
  · rintro k (rfl | hk)
    · exact hsz
    · exact (o1.lt k hk).1

set_option maxHeartbeats 1600000 in
theorem copy_any (B b : Nat) (v : Value) (L : Nat) (a : St) (w : World) (h : AccAt w B b v L a) (hB : B ≤ w.heap.size) (hL : L ≤ 40000) :
    Calls Try.prog 17 #[.pointer (some ⟨b, 0, none⟩)] w fun r w' => ∃ c v', r = .returned (.pointer (some ⟨c, 0, none⟩)) ∧ AccAt w' B c v' L a ∧ (∀ k, Ft c v' k → w.heap.size ≤ k) ∧ Below w.heap.size w w' := by
  have HA := hideS h
  have c0 := h.cell0
  have c1 := h.cell1
  obtain ⟨xs, ho, hl, hs⟩ := h.own
  have HC := hideS (fun n => clone_any B v xs (w.drewN n) (ho.drewN n) (by omega))
  have HL := hideS (And.intro hl hs)
  have hlt := h.lt
  clear h ho hl hs
  generalize hq : ((a.s : Nat) : Int) = q at c0
  have HQ := hideS hq
  clear hq
  go_enter Try.func17, Try.ntmps17
  go_wp2_with fail
  go_region_with ((go_at_call 42; refine (HC.out 1).mono ?_; rintro e w1 ⟨v1, rfl, o1, b1⟩; obtain ⟨p1, g1, cc1, rfl, _⟩ := o1.shape; have d0 : w1.cell? ⟨b, 0, none⟩ = some (.int .u8 q) := (b1.cell (p := ⟨b, 0, none⟩) hlt).trans c0))
  all_goals
    have R := hideS (copied_acc HA.out.ok HL.out.1 HL.out.2 hB o1 ⟨b1.os, b1.tape, b1.output, b1.size, b1.block⟩)
    rw [HQ.out] at R
    clear o1 b1 d0
    go_wp2_with fail
    go_ret
    exact ⟨_, _, rfl, R.out⟩

/-- Two Accs have no block in common. -/
def Apart (b : Nat) (v : Value) (c : Nat) (u : Value) : Prop := ∀ k, Ft b v k → ¬ Ft c u k
theorem Apart.symm {b c : Nat} {v u : Value} (h : Apart b v c u) : Apart c u b v := fun k h1 h2 => h k h2 h1
/-- Where one has gone on, they are apart still. -/
theorem Apart.step {w w' : World} {B B' b c L L' : Nat} {v v' u : Value} {a d : St} (h : Apart b v c u) (hd : Did w w' B b v L a v') (hc : AccAt w B' c u L' d) : Apart b v' c u := by
  rintro k (rfl | hk) h2
  · exact h k (Or.inl rfl) h2
  · rcases hd.new k hk with h3 | h3
    · exact h k (Or.inr h3) h2
    · have := (hc.base k h2).2; omega
theorem AccAt.apart {w w' : World} {B B' b c L L' : Nat} {v v' u : Value} {a d : St} (hc : AccAt w B' c u L' d) (h : Apart b v c u) (hd : Did w w' B b v L a v') : AccAt w' B' c u L' d :=
  hc.wrote hd.wrote (fun k h1 h2 => h k h2 h1)
theorem merge_zero {a d : St} (h : mt a.s d.s = 0) : a.s = 0 ∧ d.s = 0 := by
  unfold mt at h
  split at h
  · rename_i h1; rcases h1 with h1 | h1 <;> omega
  · split at h <;> omega

set_option maxHeartbeats 1600000 in
theorem merge_core (B b c : Nat) (v u : Value) (L L' : Nat) (a d : St) (w : World) (h : AccAt w B b v L a) (h' : AccAt w B c u L' d)
    (hkeep : ∀ w1, Wrote w w1 (Ft b v) → AccAt w1 B b v L a → AccAt w1 B c u L' d)
    (hplus : ∀ w1, a.s = 0 → d.s = 0 → AccAt w1 B b v L a → AccAt w1 B c u L' d → w.heap.size ≤ w1.heap.size → Calls Try.prog 35 #[v, u] w1 fun e w' => ∃ v' zs, e = .returned v' ∧ OwnW w' B v' zs ∧ zs.length ≤ max L L' + 1 ∧ Sg zs (a.N + d.N) ∧ Wrote w1 w' (At v) ∧ New w1 v v') :
    Calls Try.prog 11 #[.pointer (some ⟨b, 0, none⟩), .pointer (some ⟨c, 0, none⟩)] w fun r w' => r = .returned (.tuple #[]) ∧ ∃ v', Did w w' B b v (max L L' + 1) (a.merge d) v' := by
  have HKe := hideS hkeep
  have HPl := hideS hplus
  have d0 := h'.cell0
  have hd3 := h'.ok.s3
  have HM := hideS (meet_any B b v L a d.s w h hd3)
  obtain ⟨tgt, htgt⟩ : ∃ tgt : St, a.merge d = tgt := ⟨_, rfl⟩
  rw [htgt]
  clear h h' hkeep hplus
  by_cases h0 : mt a.s d.s = 0
  · obtain ⟨ha0, hd0⟩ := merge_zero h0
    have HR : Hid (tgt = ⟨a.s, a.N + d.N⟩) := by show _ = _; rw [← htgt]; unfold St.merge; rw [h0, ha0]; rfl
    have HM2 : Hid (Calls Try.prog 31 #[.pointer (some ⟨b, 0, none⟩), .int .u8 0] w fun x w' => x = .returned (.tuple #[]) ∧ Wrote w w' (Ft b v) ∧ AccAt w' B b v L a) := by
      have := HM.out
      rw [h0, if_pos rfl, hd0] at this
      refine this.mono ?_
      rintro x w' ⟨rfl, v1, hd, hv⟩
      obtain rfl := hv rfl
      refine ⟨rfl, hd.wrote, ?_⟩
      have h2 := hd.acc
      obtain ⟨s, N⟩ := a
      dsimp only at ha0
      subst ha0; exact h2
    rw [hd0] at d0
    have HZ := hideS (And.intro ha0 hd0)
    clear htgt hd3 HM h0 hd0 ha0
    go_enter Try.func11, Try.ntmps11
    go_wp2_with fail
    refine HM2.out.mono ?_
    rintro e w1 ⟨rfl, hw1, ha1⟩
    have A1 := hideS ha1
    have A2 := hideS (HKe.out w1 hw1 ha1)
    have W1 := hideS hw1
    have e0 : w1.cell? ⟨b, 0, none⟩ = some (.int .u8 0) := by have := ha1.cell0; rw [HZ.out.1] at this; exact this
    have e1 := ha1.cell1
    have e2 := A2.out.cell1
    have HP2 := hideS (HPl.out (w1.drewN 1) HZ.out.1 HZ.out.2 (A1.out.drewN 1) (A2.out.drewN 1) W1.out.size)
    clear hw1 ha1 HM2 HPl HKe d0
    go_wp2_with fail
    go_region_with ((go_at_call 35; refine HP2.out.mono ?_; rintro e w2 ⟨v2, zs, rfl, o2, l2, s2, r2, n2⟩; obtain ⟨p2, g2, cc2, rfl, _⟩ := o2.shape; obtain ⟨x1, x2⟩ := (A1.out.drewN 1).wroteAt r2))
    all_goals
      have R := hideS ((A1.out.drewN 1).stored r2 o2 l2 s2 n2 (fun h => absurd HZ.out.1 h))
      have RN := hideS n2
      clear o2 l2 s2 r2 n2 x1 x2
      go_wp2_with fail
      go_end0
      refine ⟨rfl, _, by rw [HR.out]; exact R.out.1, ?_, fun k hk => ?_⟩
      · exact W1.out.trans ⟨R.out.2.os, R.out.2.tape, R.out.2.output, R.out.2.size, R.out.2.block⟩ (fun k _ hk => hk)
      · rcases RN.out k hk with h5 | h5
        · exact Or.inl h5
        · exact Or.inr (Nat.le_trans W1.out.size h5)
  · have HR : Hid (tgt = ⟨mt a.s d.s, 0⟩) := by show _ = _; rw [← htgt]; unfold St.merge; rw [if_neg h0]
    have HM2 : Hid (Calls Try.prog 31 #[.pointer (some ⟨b, 0, none⟩), .int .u8 (d.s : Int)] w fun x w' => x = .returned (.tuple #[]) ∧ ∃ v', Did w w' B b v L ⟨mt a.s d.s, 0⟩ v') := by
      have := HM.out
      rw [if_neg h0] at this
      exact this.mono fun _ _ ⟨a, v', b, _⟩ => ⟨a, v', b⟩
    clear htgt HM HPl HKe
    generalize (d.s : Int) = q at d0 HM2
    obtain ⟨r, hr⟩ : ∃ r : Nat, mt a.s d.s = r := ⟨_, rfl⟩
    rw [hr] at HR HM2 h0
    go_enter Try.func11, Try.ntmps11
    go_wp2_with fail
    refine HM2.out.mono ?_
    rintro e w1 ⟨rfl, v1, hd⟩
    have e0 := hd.acc.cell0
    obtain ⟨ri, hri⟩ : ∃ ri : Int, (r : Int) = ri := ⟨_, rfl⟩
    have e1 : w1.cell? ⟨b, 0, none⟩ = some (.int .u8 ri) := by rw [← hri]; exact e0
    have hri0 : (ri == 0) = false := by simp; omega
    have HD := hideS hd
    clear hd e0 hri h0 hr
    go_wp2_with fail
    go_end0
    exact ⟨rfl, v1, by rw [HR.out]; exact HD.out.acc.mono (by omega), HD.out.wrote, HD.out.new⟩

theorem merge_any (B b c : Nat) (v u : Value) (L L' : Nat) (a d : St) (w : World) (h : AccAt w B b v L a) (h' : AccAt w B c u L' d) (hap : Apart b v c u) (hB : B ≤ w.heap.size) (hL : L ≤ 40000) (hL' : L' ≤ 40000) :
    Calls Try.prog 11 #[.pointer (some ⟨b, 0, none⟩), .pointer (some ⟨c, 0, none⟩)] w fun r w' => r = .returned (.tuple #[]) ∧ ∃ v', Did w w' B b v (max L L' + 1) (a.merge d) v' := by
  refine merge_core B b c v u L L' a d w h h' (fun w1 hw _ => h'.wrote hw (fun k h1 h2 => hap k h2 h1)) (fun w1 _ _ h1 h2 hs => ?_)
  obtain ⟨xs, o1, l1, s1⟩ := h1.own
  obtain ⟨ys, o2, l2, s2⟩ := h2.own
  refine (plus_any B B v u xs ys a.N d.N w1 o1 o2 s1 s2 (fun k h3 h4 => hap k (Or.inr h4) (Or.inr h3)) (by omega) (by omega) (by omega)).mono ?_
  rintro e w' ⟨v', zs, rfl, o3, l3, s3, r3, n3⟩
  exact ⟨v', zs, rfl, o3, by omega, s3, r3, n3⟩
theorem merge_own (B b : Nat) (v : Value) (L : Nat) (a : St) (w : World) (h : AccAt w B b v L a) (hB : B ≤ w.heap.size) (hL : L ≤ 40000) :
    Calls Try.prog 11 #[.pointer (some ⟨b, 0, none⟩), .pointer (some ⟨b, 0, none⟩)] w fun r w' => r = .returned (.tuple #[]) ∧ ∃ v', Did w w' B b v (max L L + 1) (a.merge a) v' := by
  refine merge_core B b b v v L L a a w h h (fun w1 _ h1 => h1) (fun w1 _ _ h1 _ hs => ?_)
  obtain ⟨xs, o1, l1, s1⟩ := h1.own
  refine (plus_self B v xs a.N w1 o1 s1 (by omega) (by omega)).mono ?_
  rintro e w' ⟨v', zs, rfl, o3, l3, s3, r3, n3⟩
  exact ⟨v', zs, rfl, o3, by omega, s3, r3, n3⟩

def sameSt (a d : St) : Bool := decide (a.s = d.s) && decide (a.N = d.N)
set_option maxHeartbeats 1600000 in
theorem sameA_any (B B' b c : Nat) (v u : Value) (L L' : Nat) (a d : St) (w : World) (h : AccAt w B b v L a) (h' : AccAt w B' c u L' d) (hL : L ≤ 40000) (hL' : L' ≤ 40000) :
    Calls Try.prog 12 #[.pointer (some ⟨b, 0, none⟩), .pointer (some ⟨c, 0, none⟩)] w fun r w' => r = .returned (.bool (sameSt a d)) ∧ ∃ q, w' = w.drewN q := by
  have c0 := h.cell0
  have c1 := h.cell1
  have d0 := h'.cell0
  have d1 := h'.cell1
  obtain ⟨xs, o1, l1, s1⟩ := h.own
  obtain ⟨ys, o2, l2, s2⟩ := h'.own
  have HW := hideS (fun n => sameW_any B B' v u xs ys a.N d.N (w.drewN n) (o1.drewN n) (o2.drewN n) s1 s2 (by omega) (by omega))
  have HR := hideS (show sameSt a d = (decide (a.s = d.s) && decide (a.N = d.N)) from rfl)
  clear h h' o1 l1 s1 o2 l2 s2
  by_cases h0 : a.s = d.s
  · have HV : Hid (sameSt a d = decide (a.N = d.N)) := by show _ = _; rw [HR.out]; simp [h0]
    rw [HV.out]
    rw [h0] at c0
    clear HV HR h0
    generalize (d.s : Int) = q at c0 d0
    generalize decide (a.N = d.N) = rr at HW
    go_enter Try.func12, Try.ntmps12
    go_wp2_with fail
    go_quiet ((go_at_call 36; exact Calls.quiet_of_same (HW.out _)))
    go_wp2
    go_ret
    exact ⟨rfl, _, rfl⟩
  · have HV : Hid (sameSt a d = false) := by show _ = _; rw [HR.out]; simp [h0]
    rw [HV.out]
    have hne : ((a.s : Int) == (d.s : Int)) = false := by simp; omega
    clear HV HR h0
    generalize (a.s : Int) = q at c0 hne
    generalize (d.s : Int) = q2 at d0 hne
    go_enter Try.func12, Try.ntmps12
    go_wp2_with fail
    go_quiet (fail)
    go_wp2
    go_ret
    exact ⟨rfl, _, rfl⟩
end Go.Proofs.Ytejpplcccbiplaa
