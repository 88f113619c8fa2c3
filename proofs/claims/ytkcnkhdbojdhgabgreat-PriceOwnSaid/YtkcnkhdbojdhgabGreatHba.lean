/- The contracts of package acc's Turn, Copy, Merge, Same. Division of words by a word; the contract of package acc's Over. The contracts of package acc's Sum and Dot (of numbers). The division of two words by one, digit by digit: what the trial digits are. The contract of math/bits.Div64 at any words. -/
import Derived.Test.YtkcnkhdbojdhgabGreatHaz
import Derived.Test.YtkcnkhdbojdhgabGreatCShelf
namespace Go.Proofs.YtkcnkhdbojdhgabGreat.A
open Go.RowKit

set_option maxHeartbeats 800000 in
theorem turn_any (B b : Nat) (v : Value) (L : Nat) (a : St) (w : World) (h : AccAt w B b v L a) (hB : B ≤ w.heap.size) (hL : L ≤ 40000) :
    Calls Tryz.prog 25 #[.pointer (some ⟨b, 0, none⟩)] w fun r w' => r = .returned (.tuple #[]) ∧ ∃ v', Did w w' B b v (L + 1) a.turn v' := by
  have HA := hideS h
  have c0 := h.cell0
  have c1 := h.cell1
  have f0 := h.frozen 0
  have hs3 := h.ok.s3
  have hn0 := h.ok.n0
  obtain ⟨xs, ho, hl, hs⟩ := h.own
  have HT := hideS (turned_any B v xs a.N w ho hs (by omega))
  have HL := hideS hl
  obtain ⟨tgt, htgt⟩ : ∃ tgt : St, a.turn = tgt := ⟨_, rfl⟩
  rw [htgt]
  clear h ho hl hs
  rcases (show a.s = 0 ∨ a.s = 1 ∨ a.s = 2 ∨ a.s = 3 by omega) with h0 | h0 | h0 | h0
  · have HR : Hid (tgt = ⟨a.s, -a.N⟩) := by show _ = _; rw [← htgt]; unfold St.turn; rw [h0]; rfl
    rw [h0] at c0
    clear htgt hs3 hn0
    go_enter Tryz.func25, Tryz.ntmps25
    go_wp2_with fail
    refine HT.out.mono ?_
    rintro e w1 ⟨v1, zs, rfl, o1, l1, s1, b1⟩
    obtain ⟨p1, g1, cc1, rfl, _⟩ := o1.shape
    have o2 : OwnW w1 B (.slice p1 zs.length cc1) zs := by
      refine ⟨⟨o1.own.1, ?_⟩, o1.fit⟩
      rcases o1.own.2 with h6 | ⟨g, cap, cur, h6, h7, rest⟩
      · exact .inl h6
      · exact .inr ⟨g, cap, cur, h6, Nat.le_trans hB h7, rest⟩
    have n1 : New w v (.slice p1 zs.length cc1) := fun k hk => Or.inr (o1.lt k hk).1
    have r1 : Wrote w w1 (At v) := wrote_below b1
    obtain ⟨d1, fz⟩ := HA.out.wroteAt r1
    have R := hideS (HA.out.stored r1 o2 (L' := L + 1) (by have := HL.out; omega) s1 n1 (fun h => absurd h0 h))
    have RN := hideS n1
    clear o1 l1 s1 b1 o2 n1 r1 HT
    go_wp2_with fail
    go_end0
    exact ⟨rfl, _, by rw [HR.out]; exact R.out.1, R.out.2, RN.out⟩
  · have HR : Hid (tgt = ⟨2, a.N⟩) := by show _ = _; rw [← htgt]; unfold St.turn; rw [h0, hn0 (by omega)]; rfl
    have HS := hideS (HA.out.setState 2 (by omega) (fun _ => hn0 (by omega)))
    rw [h0] at c0
    clear htgt hs3 hn0 HT h0
    go_enter Tryz.func25, Tryz.ntmps25
    go_wp2_with fail
    go_end0
    exact ⟨rfl, v, by rw [HR.out]; exact HS.out.1.mono (by omega), HS.out.2.mono (fun k hk => Or.inl hk), New.refl _ _⟩
  · have HR : Hid (tgt = ⟨1, a.N⟩) := by show _ = _; rw [← htgt]; unfold St.turn; rw [h0, hn0 (by omega)]; rfl
    have HS := hideS (HA.out.setState 1 (by omega) (fun _ => hn0 (by omega)))
    rw [h0] at c0
    clear htgt hs3 hn0 HT h0
    go_enter Tryz.func25, Tryz.ntmps25
    go_wp2_with fail
    go_end0
    exact ⟨rfl, v, by rw [HR.out]; exact HS.out.1.mono (by omega), HS.out.2.mono (fun k hk => Or.inl hk), New.refl _ _⟩
  · have HR : Hid (tgt = a) := by
      show _ = _
      rw [← htgt]
      unfold St.turn
      apply st_ext
      · show (if a.s = 1 then 2 else if a.s = 2 then 1 else a.s) = a.s
        rw [h0]; rfl
      · show -a.N = a.N
        rw [hn0 (by omega)]; rfl
    rw [h0] at c0
    clear htgt hs3 hn0 HT h0
    go_enter Tryz.func25, Tryz.ntmps25
    go_wp2_with fail
    go_end0
    exact ⟨rfl, v, by rw [HR.out]; exact HA.out.mono (by omega), Wrote.refl _ _, New.refl _ _⟩

theorem clone_any (B : Nat) (v : Value) (xs : List Nat) (w : World) (h : OwnW w B v xs) (hn : xs.length ≤ 100000) :
    Calls Tryz.prog 46 #[v] w fun e w' => ∃ v', e = .returned v' ∧ OwnW w' w.heap.size v' xs ∧ Below w.heap.size w w' := by
  obtain ⟨i0, hi, hz0, hz1, hz2⟩ := info_parts infoU
  rcases h.own.2 with ⟨hv, hn0⟩ | ⟨g, cap, cur, hv, hb, hg, hnc, hcm, hcs, htake⟩
  · have hx : xs = [] := List.length_eq_zero_iff.1 hn0
    subst hx
    rw [hv]
    refine (AnyE.slices_Clone_nil Tryz.cloneL 0 0 w : Calls Tryz.prog 46 #[.slice none 0 0] w _).mono ?_
    rintro e w' ⟨rfl, rfl⟩
    exact ⟨_, rfl, ⟨World.ownsRow_nil _ _ _ _, h.fit⟩, Below.refl _ _⟩
  · have ho := h.own
    rw [hv] at ho
    have key := AnyE.slices_Clone Tryz.cloneL i0 (.int .u64 0) 1 8 hi hz0 hz1 hz2 rfl (by decide) Tryz.sizeOf33 g 0 xs.length cap (xs.map uV) w (by simp) (by unfold maxLen; omega) (by omega) (fun j u hj => by
      have := ho.cells (g := g) rfl j u hj
      rw [Addr.add_lit] at this; exact this) (fun u hu => by obtain ⟨x, _, rfl⟩ := List.mem_map.1 hu; rfl)
    rw [hv]
    refine (key : Calls Tryz.prog 46 _ _ _).mono ?_
    rintro e w' ⟨v', rfl, ho', _, hb'⟩
    exact ⟨v', rfl, ⟨ho', h.fit⟩, hb'⟩

theorem copied_acc {w w1 : World} {B L : Nat} {v1 : Value} {a : St} {xs : List Nat} (hok : a.Ok) (hl : xs.length ≤ L) (hs : Sg xs a.N) (hB : B ≤ w.heap.size) (o1 : OwnW w1 w.heap.size v1 xs) (b1 : Below w.heap.size w w1) :
    AccAt (w1.alloc (.cells #[.int .u8 (a.s : Int), v1] 56)) B w1.heap.size v1 L a ∧ (∀ k, Ft w1.heap.size v1 k → w.heap.size ≤ k) ∧ Below w.heap.size w (w1.alloc (.cells #[.int .u8 (a.s : Int), v1] 56)) := by
  have hsz := b1.size
  have o2 : OwnW w1 B v1 xs := by
    refine ⟨⟨o1.own.1, ?_⟩, o1.fit⟩
    rcases o1.own.2 with h6 | ⟨g, cap, cur, h6, h7, rest⟩
    · exact .inl h6
    · exact .inr ⟨g, cap, cur, h6, Nat.le_trans hB h7, rest⟩
  refine ⟨⟨heap_alloc_new w1 _, by omega, ⟨xs, o2.alloc _, hl, hs⟩, fun e => ?_, hok⟩, ?_, b1.alloc hsz _⟩
  · have := (o1.lt _ e).2; omega
  · rintro k (rfl | hk)
    · exact hsz
    · exact (o1.lt k hk).1

set_option maxHeartbeats 1600000 in
theorem copy_any (B b : Nat) (v : Value) (L : Nat) (a : St) (w : World) (h : AccAt w B b v L a) (hB : B ≤ w.heap.size) (hL : L ≤ 40000) :
    Calls Tryz.prog 23 #[.pointer (some ⟨b, 0, none⟩)] w fun r w' => ∃ c v', r = .returned (.pointer (some ⟨c, 0, none⟩)) ∧ AccAt w' B c v' L a ∧ (∀ k, Ft c v' k → w.heap.size ≤ k) ∧ Below w.heap.size w w' := by
  have HA := hideS h
  have c0 := h.cell0
  have c1 := h.cell1
  obtain ⟨xs, ho, hl, hs⟩ := h.own
  have HC := hideS (fun n => clone_any B v xs (w.drewN n) (ho.drewN n) (by omega))
  have HL := hideS (And.intro hl hs)
  have hlt := h.lt
  clear h ho hl hs
  generalize hq : ((a.s : Nat) : Int) = q at c0
  have HQ := hideS hq
  clear hq
  go_enter Tryz.func23, Tryz.ntmps23
  go_wp2_with fail
  go_region_with ((go_at_call 46; refine (HC.out 1).mono ?_; rintro e w1 ⟨v1, rfl, o1, b1⟩; obtain ⟨p1, g1, cc1, rfl, _⟩ := o1.shape; have d0 : w1.cell? ⟨b, 0, none⟩ = some (.int .u8 q) := (b1.cell (p := ⟨b, 0, none⟩) hlt).trans c0))
  all_goals
    have R := hideS (copied_acc HA.out.ok HL.out.1 HL.out.2 hB o1 ⟨b1.os, b1.tape, b1.output, b1.size, b1.block⟩)
    rw [HQ.out] at R
    clear o1 b1 d0
    go_wp2_with fail
    go_ret
    exact ⟨_, _, rfl, R.out⟩

def Apart (b : Nat) (v : Value) (c : Nat) (u : Value) : Prop := ∀ k, Ft b v k → ¬ Ft c u k
theorem merge_zero {a d : St} (h : mt a.s d.s = 0) : a.s = 0 ∧ d.s = 0 := by
  unfold mt at h
  split at h
  · rename_i h1; rcases h1 with h1 | h1 <;> omega
  · split at h <;> omega

set_option maxHeartbeats 1600000 in
theorem merge_core (B b c : Nat) (v u : Value) (L L' : Nat) (a d : St) (w : World) (h : AccAt w B b v L a) (h' : AccAt w B c u L' d)
    (hkeep : ∀ w1, Wrote w w1 (Ft b v) → AccAt w1 B b v L a → AccAt w1 B c u L' d)
    (hplus : ∀ w1, a.s = 0 → d.s = 0 → AccAt w1 B b v L a → AccAt w1 B c u L' d → w.heap.size ≤ w1.heap.size → Calls Tryz.prog 48 #[v, u] w1 fun e w' => ∃ v' zs, e = .returned v' ∧ OwnW w' B v' zs ∧ zs.length ≤ max L L' + 1 ∧ Sg zs (a.N + d.N) ∧ Wrote w1 w' (At v) ∧ New w1 v v') :
    Calls Tryz.prog 24 #[.pointer (some ⟨b, 0, none⟩), .pointer (some ⟨c, 0, none⟩)] w fun r w' => r = .returned (.tuple #[]) ∧ ∃ v', Did w w' B b v (max L L' + 1) (a.merge d) v' := by
  have HKe := hideS hkeep
  have HPl := hideS hplus
  have d0 := h'.cell0
  have hd3 := h'.ok.s3
  have HM := hideS (meet_any B b v L a d.s w h hd3)
  obtain ⟨tgt, htgt⟩ : ∃ tgt : St, a.merge d = tgt := ⟨_, rfl⟩
  rw [htgt]
  clear h h' hkeep hplus
  by_cases h0 : mt a.s d.s = 0
  · obtain ⟨ha0, hd0⟩ := merge_zero h0
    have HR : Hid (tgt = ⟨a.s, a.N + d.N⟩) := by show _ = _; rw [← htgt]; unfold St.merge; rw [h0, ha0]; rfl
    have HM2 : Hid (Calls Tryz.prog 47 #[.pointer (some ⟨b, 0, none⟩), .int .u8 0] w fun x w' => x = .returned (.tuple #[]) ∧ Wrote w w' (Ft b v) ∧ AccAt w' B b v L a) := by
      have := HM.out
      rw [h0, if_pos rfl, hd0] at this
      refine this.mono ?_
      rintro x w' ⟨rfl, v1, hd, hv⟩
      obtain rfl := hv rfl
      refine ⟨rfl, hd.wrote, ?_⟩
      have h2 := hd.acc
      obtain ⟨s, N⟩ := a
      dsimp only at ha0
      subst ha0; exact h2
    rw [hd0] at d0
    have HZ := hideS (And.intro ha0 hd0)
    clear htgt hd3 HM h0 hd0 ha0
    go_enter Tryz.func24, Tryz.ntmps24
    go_wp2_with fail
    refine HM2.out.mono ?_
    rintro e w1 ⟨rfl, hw1, ha1⟩
    have A1 := hideS ha1
    have A2 := hideS (HKe.out w1 hw1 ha1)
    have W1 := hideS hw1
    have e0 : w1.cell? ⟨b, 0, none⟩ = some (.int .u8 0) := by have := ha1.cell0; rw [HZ.out.1] at this; exact this
    have e1 := ha1.cell1
    have e2 := A2.out.cell1
    have HP2 := hideS (HPl.out (w1.drewN 1) HZ.out.1 HZ.out.2 (A1.out.drewN 1) (A2.out.drewN 1) W1.out.size)
    clear hw1 ha1 HM2 HPl HKe d0
    go_wp2_with fail
    go_region_with ((go_at_call 48; refine HP2.out.mono ?_; rintro e w2 ⟨v2, zs, rfl, o2, l2, s2, r2, n2⟩; obtain ⟨p2, g2, cc2, rfl, _⟩ := o2.shape; obtain ⟨x1, x2⟩ := (A1.out.drewN 1).wroteAt r2))
    all_goals
      have R := hideS ((A1.out.drewN 1).stored r2 o2 l2 s2 n2 (fun h => absurd HZ.out.1 h))
      have RN := hideS n2
      clear o2 l2 s2 r2 n2 x1 x2
      go_wp2_with fail
      go_end0
      refine ⟨rfl, _, by rw [HR.out]; exact R.out.1, ?_, fun k hk => ?_⟩
      · exact W1.out.trans ⟨R.out.2.os, R.out.2.tape, R.out.2.output, R.out.2.size, R.out.2.block⟩ (fun k _ hk => hk)
      · rcases RN.out k hk with h5 | h5
        · exact Or.inl h5
        · exact Or.inr (Nat.le_trans W1.out.size h5)
  · have HR : Hid (tgt = ⟨mt a.s d.s, 0⟩) := by show _ = _; rw [← htgt]; unfold St.merge; rw [if_neg h0]
    have HM2 : Hid (Calls Tryz.prog 47 #[.pointer (some ⟨b, 0, none⟩), .int .u8 (d.s : Int)] w fun x w' => x = .returned (.tuple #[]) ∧ ∃ v', Did w w' B b v L ⟨mt a.s d.s, 0⟩ v') := by
      have := HM.out
      rw [if_neg h0] at this
      exact this.mono fun _ _ ⟨a, v', b, _⟩ => ⟨a, v', b⟩
    clear htgt HM HPl HKe
    generalize (d.s : Int) = q at d0 HM2
    obtain ⟨r, hr⟩ : ∃ r : Nat, mt a.s d.s = r := ⟨_, rfl⟩
    rw [hr] at HR HM2 h0
    go_enter Tryz.func24, Tryz.ntmps24
    go_wp2_with fail
    refine HM2.out.mono ?_
    rintro e w1 ⟨rfl, v1, hd⟩
    have e0 := hd.acc.cell0
    obtain ⟨ri, hri⟩ : ∃ ri : Int, (r : Int) = ri := ⟨_, rfl⟩
    have e1 : w1.cell? ⟨b, 0, none⟩ = some (.int .u8 ri) := by rw [← hri]; exact e0
    have hri0 : (ri == 0) = false := by simp; omega
    have HD := hideS hd
    clear hd e0 hri h0 hr
    go_wp2_with fail
    go_end0
    exact ⟨rfl, v1, by rw [HR.out]; exact HD.out.acc.mono (by omega), HD.out.wrote, HD.out.new⟩

theorem merge_any (B b c : Nat) (v u : Value) (L L' : Nat) (a d : St) (w : World) (h : AccAt w B b v L a) (h' : AccAt w B c u L' d) (hap : Apart b v c u) (hB : B ≤ w.heap.size) (hL : L ≤ 40000) (hL' : L' ≤ 40000) :
    Calls Tryz.prog 24 #[.pointer (some ⟨b, 0, none⟩), .pointer (some ⟨c, 0, none⟩)] w fun r w' => r = .returned (.tuple #[]) ∧ ∃ v', Did w w' B b v (max L L' + 1) (a.merge d) v' := by
  refine merge_core B b c v u L L' a d w h h' (fun w1 hw _ => h'.wrote hw (fun k h1 h2 => hap k h2 h1)) (fun w1 _ _ h1 h2 hs => ?_)
  obtain ⟨xs, o1, l1, s1⟩ := h1.own
  obtain ⟨ys, o2, l2, s2⟩ := h2.own
  refine (plus_any B B v u xs ys a.N d.N w1 o1 o2 s1 s2 (fun k h3 h4 => hap k (Or.inr h4) (Or.inr h3)) (by omega) (by omega) (by omega)).mono ?_
  rintro e w' ⟨v', zs, rfl, o3, l3, s3, r3, n3⟩
  exact ⟨v', zs, rfl, o3, by omega, s3, r3, n3⟩
def sameSt (a d : St) : Bool := decide (a.s = d.s) && decide (a.N = d.N)
set_option maxHeartbeats 1600000 in
theorem sameA_any (B B' b c : Nat) (v u : Value) (L L' : Nat) (a d : St) (w : World) (h : AccAt w B b v L a) (h' : AccAt w B' c u L' d) (hL : L ≤ 40000) (hL' : L' ≤ 40000) :
    Calls Tryz.prog 26 #[.pointer (some ⟨b, 0, none⟩), .pointer (some ⟨c, 0, none⟩)] w fun r w' => r = .returned (.bool (sameSt a d)) ∧ ∃ q, w' = w.drewN q := by
  have c0 := h.cell0
  have c1 := h.cell1
  have d0 := h'.cell0
  have d1 := h'.cell1
  obtain ⟨xs, o1, l1, s1⟩ := h.own
  obtain ⟨ys, o2, l2, s2⟩ := h'.own
  have HW := hideS (fun n => sameW_any B B' v u xs ys a.N d.N (w.drewN n) (o1.drewN n) (o2.drewN n) s1 s2 (by omega) (by omega))
  have HR := hideS (show sameSt a d = (decide (a.s = d.s) && decide (a.N = d.N)) from rfl)
  clear h h' o1 l1 s1 o2 l2 s2
  by_cases h0 : a.s = d.s
  · have HV : Hid (sameSt a d = decide (a.N = d.N)) := by show _ = _; rw [HR.out]; simp [h0]
    rw [HV.out]
    rw [h0] at c0
    clear HV HR h0
    generalize (d.s : Int) = q at c0 d0
    generalize decide (a.N = d.N) = rr at HW
    go_enter Tryz.func26, Tryz.ntmps26
    go_wp2_with fail
    go_quiet ((go_at_call 50; exact Calls.quiet_of_same (HW.out _)))
    go_wp2
    go_ret
    exact ⟨rfl, _, rfl⟩
  · have HV : Hid (sameSt a d = false) := by show _ = _; rw [HR.out]; simp [h0]
    rw [HV.out]
    have hne : ((a.s : Int) == (d.s : Int)) = false := by simp; omega
    clear HV HR h0
    generalize (a.s : Int) = q at c0 hne
    generalize (d.s : Int) = q2 at d0 hne
    go_enter Tryz.func26, Tryz.ntmps26
    go_wp2_with fail
    go_quiet (fail)
    go_wp2
    go_ret
    exact ⟨rfl, _, rfl⟩
end Go.Proofs.YtkcnkhdbojdhgabGreat.A
namespace Go.Proofs.YtkcnkhdbojdhgabGreat.A
open Go.RowKit

theorem ps_set {zs : List Nat} {j q : Nat} (hj : j < zs.length) (h0 : zs.getD j 0 = 0) : ∀ n, ps (fun i => (zs.set j q).getD i 0) n = ps (fun i => zs.getD i 0) n + (if j < n then q * 2 ^ (64 * j) else 0)
  | 0 => by simp [ps]
  | n + 1 => by
    rw [ps, ps, ps_set hj h0 n]
    show _ + (zs.set j q).getD n 0 * _ = _
    rw [getD_set hj]
    by_cases hn : n = j
    · subst hn
      rw [if_neg (by omega), if_pos rfl, if_pos (by omega)]
      show _ = _ + zs.getD n 0 * _ + _
      rw [h0]; omega
    · rw [if_neg hn]
      by_cases h1 : j < n
      · rw [if_pos h1, if_pos (by omega)]; omega
      · rw [if_neg h1, if_neg (by omega)]; omega
theorem ps_div {F : Nat → Nat} (hF : FitF F) {j n : Nat} (hj : j < n) : ps F n / 2 ^ (64 * j) = ps F n / 2 ^ (64 * (j + 1)) * 18446744073709551616 + F j := by
  have key : ∀ n, j < n → ps F n / 2 ^ (64 * j) % 18446744073709551616 = F j := by
    intro n
    induction n with
    | zero => intro h; omega
    | succ n ih =>
      intro h
      rw [ps]
      by_cases e : j = n
      · subst e
        rw [Nat.add_mul_div_right _ _ (pow64_pos j), Nat.div_eq_of_lt (ps_lt hF j), Nat.zero_add, Nat.mod_eq_of_lt (hF j)]
      · have e2 : F n * 2 ^ (64 * n) = F n * 2 ^ (64 * (n - j - 1)) * 18446744073709551616 * 2 ^ (64 * j) := by
          rw [Nat.mul_assoc, Nat.mul_assoc, ← pow64, ← Nat.pow_add]; congr 2; omega
        rw [e2, Nat.add_mul_div_right _ _ (pow64_pos j), Nat.add_mul_mod_self_right]
        exact ih (by omega)
  have h1 := key n hj
  have h2 : ps F n / 2 ^ (64 * (j + 1)) = ps F n / 2 ^ (64 * j) / 18446744073709551616 := by rw [pow64, Nat.mul_comm, Nat.div_div_eq_div_mul]
  rw [h2]
  generalize ps F n / 2 ^ (64 * j) = X at *
  omega
theorem div_step {F : Nat → Nat} (hF : FitF F) {j n d : Nat} (hj : j < n) : (ps F n / 2 ^ (64 * (j + 1)) % d * 18446744073709551616 + F j) % d = ps F n / 2 ^ (64 * j) % d := by
  rw [ps_div hF hj, Nat.add_mod, Nat.mul_mod, Nat.mod_mod, ← Nat.mul_mod, ← Nat.add_mod]

structure Div (wr w : World) (n c d : Nat) (F : Nat → Nat) (zs : List Nat) (rest k : Nat) : Prop where
  own : OwnW wr w.heap.size (.slice (some ⟨w.heap.size, 0, none⟩) n c) zs
  len : zs.length = n
  eq : d * ps (fun i => zs.getD i 0) n + rest * 2 ^ (64 * k) + ps F k = ps F n
  low : ∀ j, j < k → zs.getD j 0 = 0
  res : rest = ps F n / 2 ^ (64 * k) % d
  bl : Below w.heap.size w wr
theorem Div.step {wr w : World} {n c d : Nat} {F : Nat → Nat} {zs : List Nat} {rest j : Nat} (h : Div wr w n c d F zs rest (j + 1)) (hF : FitF F) (hj : j < n) (hq : (rest * 18446744073709551616 + F j) / d < 18446744073709551616) :
    Div (wr.setCell ⟨w.heap.size, j, none⟩ (.int .u64 (((rest * 18446744073709551616 + F j) / d : Nat) : Int))) w n c d F (zs.set j ((rest * 18446744073709551616 + F j) / d)) ((rest * 18446744073709551616 + F j) % d) j := by
  have hl := h.len
  have h1 := h.own.set h.len j _ hq
  refine ⟨h1.1, by rw [List.length_set]; exact h.len, ?_, ?_, ?_, h.bl.setCell (Nat.le_refl _) _⟩
  · rw [ps_set (by omega) (h.low j (by omega)), if_pos hj]
    have he := h.eq
    rw [pow64, ps] at he
    have hdm := Nat.div_add_mod (rest * 18446744073709551616 + F j) d
    have h2 : (d * ((rest * 18446744073709551616 + F j) / d) + (rest * 18446744073709551616 + F j) % d) * 2 ^ (64 * j) = (rest * 18446744073709551616 + F j) * 2 ^ (64 * j) := by rw [hdm]
    rw [Nat.add_mul, Nat.add_mul, Nat.mul_assoc d, Nat.mul_assoc rest] at h2
    rw [Nat.mul_add]
    omega
  · intro i hi
    rw [getD_set (by omega), if_neg (by omega)]
    exact h.low i (by omega)
  · rw [h.res, div_step hF hj]

set_option maxHeartbeats 800000 in
theorem divided_any (B : Nat) (v : Value) (ys : List Nat) (d : Nat) (w : World) (h : OwnW w B v ys) (hn : ys.length ≤ 100000) (hd : 0 < d)
    (hdiv : ∀ j, j < ys.length → ∀ w, Calls Tryz.prog 113 #[.int .u64 ((ps (fun i => ys.getD i 0) ys.length / 2 ^ (64 * (j + 1)) % d : Nat) : Int), .int .u64 (ys.getD j 0 : Nat), .int .u64 (d : Int)] w fun e w' => e = .returned (.tuple #[.int .u64 (((ps (fun i => ys.getD i 0) ys.length / 2 ^ (64 * (j + 1)) % d * 18446744073709551616 + ys.getD j 0) / d : Nat) : Int), .int .u64 (((ps (fun i => ys.getD i 0) ys.length / 2 ^ (64 * (j + 1)) % d * 18446744073709551616 + ys.getD j 0) % d : Nat) : Int)]) ∧ ∃ q, w' = w.drewN q) :
    Calls Tryz.prog 105 #[v, .int .u64 (d : Int)] w fun e w' => ∃ v' zs, e = .returned (.tuple #[v', .int .u64 ((ps (fun i => ys.getD i 0) ys.length % d : Nat) : Int)]) ∧ OwnW w' w.heap.size v' zs ∧ zs.length = ys.length ∧ ps (fun i => zs.getD i 0) zs.length = ps (fun i => ys.getD i 0) ys.length / d ∧ Below w.heap.size w w' := by
  obtain ⟨p, g, c, rfl, hc1, hc2, hp, hc⟩ := h.shape
  have HC := hideS hc
  obtain ⟨F, hF⟩ : ∃ F : Nat → Nat, F = fun i => ys.getD i 0 := ⟨_, rfl⟩
  have HF : Hid (FitF F) := by rw [hF]; exact h.fit
  have HFe : Hid (∀ j, ys.getD j 0 = F j) := fun j => by rw [hF]
  have HM := hideS (OwnW.made w ys.length (by omega))
  have HB := hideS ((Below.refl w.heap.size w).alloc (Nat.le_refl _) (.cells (madeCells #[.int .u64 0] ys.length) 33))
  have hmk := fun w => run_make_row' (P := Tryz.prog) 53 33 (.int .u64 0) 8 Tryz.underlying53 infoU rfl .i64 .i64 ys.length (by omega) (by omega) w
  rw [← hF] at hdiv ⊢
  have HDv := hideS hdiv
  clear hdiv h hc hF
  have hHD := fun j (hj : j < ys.length) => HDv.out j hj
  have HD2 : Hid (∀ j, j < ys.length → ∀ w, Calls Tryz.prog 113 #[.int .u64 ((ps F ys.length / 2 ^ (64 * (j + 1)) % d : Nat) : Int), .int .u64 (F j : Nat), .int .u64 (d : Int)] w fun e w' => e = .returned (.tuple #[.int .u64 (((ps F ys.length / 2 ^ (64 * (j + 1)) % d * 18446744073709551616 + F j) / d : Nat) : Int), .int .u64 (((ps F ys.length / 2 ^ (64 * (j + 1)) % d * 18446744073709551616 + F j) % d : Nat) : Int)]) ∧ ∃ q, w' = w.drewN q) := fun j hj w => by
    have := HDv.out j hj w
    rw [HFe.out j] at this; exact this
  have HC2 : Hid (∀ j, j < ys.length → w.cell? ⟨g, j, none⟩ = some (.int .u64 (F j : Nat))) := fun j hj => by
    have := HC.out j hj
    rw [HFe.out j] at this; exact this
  clear HDv HC hHD HFe
  generalize ys.length = n at *
  have HD0 : Hid (Div (w.alloc (.cells (madeCells #[.int .u64 0] n) 33)) w n n d F (List.replicate n 0) 0 n) := by
    refine ⟨HM.out, by simp, ?_, ?_, ?_, HB.out⟩
    · have : ps (fun i => (List.replicate n 0).getD i 0) n = 0 := by
        rw [ps_congr (g := fun _ => 0) (fun i _ => by show (List.replicate n 0).getD i 0 = 0; rw [List.getD, List.getElem?_replicate]; split <;> rfl), ps_zero]
      rw [this]; simp
    · intro j _
      rw [List.getD, List.getElem?_replicate]; split <;> rfl
    · rw [Nat.div_eq_of_lt (ps_lt HF.out n), Nat.zero_mod]
  have hdI : (d : Int) ≠ 0 := by omega
  go_enter Tryz.func105, Tryz.ntmps105
  go_wp2
  clear hmk
  go_loopw [5, 6] (fun b i wr => ∃ (k rest : Nat) (zs : List Nat), k ≤ n ∧ b = .int .u64 rest ∧ i = .int .i64 ((k : Int) - 1) ∧ Hid (Div wr w n n d F zs rest k)) (fun _ i _ => (intOf i + 1).toNat)
  case atStart => exact ⟨n, 0, List.replicate n 0, Nat.le_refl _, rfl, rfl, HD0⟩
  case round =>
    clear HM HB HD0
    obtain ⟨k, rest, zs, hk, rfl, rfl, HR⟩ := hrel
    cases k with
    | zero =>
      go_wp2
      go_ret2
      refine ⟨_, zs, ?_, HR.out.own, HR.out.len, ?_, HR.out.bl⟩
      · have := HR.out.res
        rw [Nat.mul_zero, Nat.pow_zero, Nat.div_one] at this
        rw [← this]; rfl
      · have h1 := HR.out.eq
        have h2 := HR.out.res
        rw [Nat.mul_zero, Nat.pow_zero, Nat.div_one] at h2
        rw [Nat.mul_zero, Nat.pow_zero, Nat.mul_one, ps, Nat.add_zero] at h1
        rw [HR.out.len, ← h1, h2]
        have h3 : ps F n % d < d := Nat.mod_lt _ hd
        rw [Nat.mul_add_div hd, Nat.div_eq_of_lt h3, Nat.add_zero]
    | succ j =>
      obtain ⟨rfl, hg1, hg2⟩ := hp (by omega)
      have hcl : wr.cell? ⟨g, j, none⟩ = some (.int .u64 (F j : Nat)) := (HR.out.bl.cell (p := ⟨g, j, none⟩) hg2).trans (HC2.out j (by omega))
      have hdl : wr.cell? ⟨w.heap.size, j, none⟩ = some (.int .u64 (zs.getD j 0 : Nat)) := HR.out.own.cell1 HR.out.len j (by rw [HR.out.len]; omega)
      have hfz : wr.frozen? ⟨w.heap.size, j, none⟩ = false := HR.out.own.frozen1 HR.out.len j
      have hcall := HD2.out j (by omega) wr
      rw [← HR.out.res] at hcall
      have hrl : rest < d := by rw [HR.out.res]; exact Nat.mod_lt _ hd
      have hq : (rest * 18446744073709551616 + F j) / d < 18446744073709551616 := by
        rw [Nat.div_lt_iff_lt_mul hd]
        have h5 : (rest + 1) * 18446744073709551616 ≤ d * 18446744073709551616 := Nat.mul_le_mul_right _ hrl
        have h6 := HF.out j
        rw [Nat.mul_comm 18446744073709551616 d]
        omega
      have HS := hideS (HR.out.step HF.out (by omega) hq)
      have HCa := hideS hcall
      clear hcall hq hrl
      generalize (rest * 18446744073709551616 + F j) / d = q at HS HCa
      generalize (rest * 18446744073709551616 + F j) % d = r' at HS HCa
      generalize F j = y at hcl HCa
      generalize zs.getD j 0 = z at hdl
      have e1 : ((j + 1 : Nat) : Int) - 1 = (j : Int) := by omega
      rw [e1]
      go_wp2_with fail
      refine HCa.out.mono ?_
      rintro e w2 ⟨rfl, nq, rfl⟩
      go_wp2_with fail
      go_roundw
      case rel =>
        refine ⟨j, r', zs.set j q, by omega, rfl, rfl, ?_⟩
        exact ⟨HS.out.own.drewN nq, HS.out.len, HS.out.eq, HS.out.low, HS.out.res, ⟨HS.out.bl.os, HS.out.bl.tape, HS.out.bl.output, HS.out.bl.size, HS.out.bl.block⟩⟩
      case measure => simp [intOf]

set_option maxHeartbeats 400000 in
theorem div64_zero (y d : Nat) (w : World) (hd : 0 < d) (hy : y < 18446744073709551616) :
    Calls Tryz.prog 113 #[.int .u64 0, .int .u64 (y : Int), .int .u64 (d : Int)] w fun e w' => e = .returned (.tuple #[.int .u64 ((y / d : Nat) : Int), .int .u64 ((y % d : Nat) : Int)]) ∧ ∃ q, w' = w.drewN q := by
  obtain ⟨D, hD⟩ : ∃ D : Int, (d : Int) = D := ⟨_, rfl⟩
  have hq : (y : Int).tdiv D = ((y / d : Nat) : Int) := by rw [← hD]; rfl
  have hr : (y : Int).tmod D = ((y % d : Nat) : Int) := by rw [← hD]; rfl
  have b1 := Nat.div_le_self y d
  have b2 := Nat.mod_le y d
  have h0 : 0 < D := by omega
  rw [hD]
  generalize y / d = q at *
  generalize y % d = r at *
  have w1 : IntKind.u64.wrap (q : Int) = q := by rw [IntKind.wrap_u64]; omega
  have w2 : IntKind.u64.wrap (r : Int) = r := by rw [IntKind.wrap_u64]; omega
  go_enter Tryz.func113, Tryz.ntmps113
  go_wp2
  go_region
  all_goals
    go_wp2
    go_ret2
    exact ⟨rfl, _, rfl⟩

def overF (N : Int) (d : Nat) : Nat := joinN (sgM (decide (N < 0)) (mant (N.natAbs / d) (decide (N.natAbs % d ≠ 0)))) (expo (N.natAbs / d))
def DivOk (M d : Nat) : Prop := ∀ j y w, y = M / 2 ^ (64 * j) % 18446744073709551616 → Calls Tryz.prog 113 #[.int .u64 ((M / 2 ^ (64 * (j + 1)) % d : Nat) : Int), .int .u64 (y : Nat), .int .u64 (d : Int)] w fun e w' => e = .returned (.tuple #[.int .u64 (((M / 2 ^ (64 * (j + 1)) % d * 18446744073709551616 + y) / d : Nat) : Int), .int .u64 (((M / 2 ^ (64 * (j + 1)) % d * 18446744073709551616 + y) % d : Nat) : Int)]) ∧ ∃ q, w' = w.drewN q
set_option maxHeartbeats 800000 in
theorem over_any (B b : Nat) (v : Value) (L : Nat) (a : St) (d : Nat) (w : World) (h : AccAt w B b v L a) (hB : B ≤ w.heap.size) (hL : L ≤ 40000) (hd : 0 < d) (hd2 : d < 9223372036854775808) (h0 : a.s = 0) (hok : DivOk a.N.natAbs d) :
    Calls Tryz.prog 99 #[.pointer (some ⟨b, 0, none⟩), .int .i64 (d : Int)] w fun r w' => r = .returned (.tuple #[.float .f64 (overF a.N d), .bool true]) ∧ Below w.heap.size w w' := by
  have c0 := h.cell0
  have c1 := h.cell1
  rw [h0] at c0
  obtain ⟨xs, ho, hl, hs⟩ := h.own
  have HZ := hideS (size_any' B v xs a.N w ho hs (by omega) hB)
  have HL : Hid (xs.length ≤ 40000) := by show _ ≤ _; omega
  have HOk := hideS hok
  have HD := hideS (show overF a.N d = joinN (sgM (decide (a.N < 0)) (mant (a.N.natAbs / d) (decide (a.N.natAbs % d ≠ 0)))) (expo (a.N.natAbs / d)) from rfl)
  have hw : IntKind.u64.wrap (d : Int) = d := by rw [IntKind.wrap_u64]; omega
  have hnl : ¬ ((d : Int) < 1) := by omega
  generalize overF a.N d = res at *
  clear h ho hl hs h0 hok
  go_enter Tryz.func99, Tryz.ntmps99
  go_wp2_with fail
  refine HZ.out.mono ?_
  rintro e w1 ⟨v1, ys, rfl, o1, l1, p1, b1⟩
  have HV := hideS (divided_any B v1 ys d w1 o1 (by have := HL.out; omega) hd (fun j hj w2 => by
    rw [p1]
    refine HOk.out j (ys.getD j 0) w2 ?_
    rw [← p1]
    have := ps_div o1.fit hj
    have h2 := o1.fit j
    rw [this]
    show ys.getD j 0 = (_ * 18446744073709551616 + ys.getD j 0) % 18446744073709551616
    have h3 : ys.getD j 0 < 18446744073709551616 := h2
    omega))
  have HM0 : Hid (ys.length = 0 → a.N.natAbs = 0) := fun h6 => by rw [← p1, h6]; rfl
  rw [p1] at HV
  have HB := hideS b1
  have HL1 := hideS l1
  clear o1 l1 p1 b1 HZ HOk
  generalize a.N.natAbs = M at *
  generalize decide (a.N < 0) = ng at *
  go_wp2_with fail
  refine HV.out.mono ?_
  rintro e w2 ⟨v2, zs, rfl, o2, l2, p2, b2⟩
  have HN := hideS (nearO_any w1.heap.size v2 zs (decide (M % d ≠ 0)) ng w2 o2 (by have := HL.out; have := HL1.out; omega) (fun h5 => by
    rcases Nat.eq_zero_or_pos zs.length with h6 | h6
    · have h7 := HM0.out (by omega)
      rw [h7] at h5
      simp at h5
    · exact h6))
  rw [p2, ← HD.out] at HN
  have HB2 := hideS (HB.out.trans (b2.mono HB.out.size))
  clear o2 l2 p2 b2 HV HM0 HD
  by_cases hr : M % d = 0
  · rw [show decide (M % d ≠ 0) = false by simpa using hr] at HN
    rw [hr]
    go_wp2_with fail
    refine HN.out.mono ?_
    rintro e w3 ⟨rfl, q, rfl⟩
    go_wp2_with fail
    go_ret2
    exact ⟨rfl, ⟨HB2.out.os, HB2.out.tape, HB2.out.output, HB2.out.size, HB2.out.block⟩⟩
  · rw [show decide (M % d ≠ 0) = true by simpa using hr] at HN
    obtain ⟨r, hrr⟩ : ∃ r : Int, ((M % d : Nat) : Int) = r := ⟨_, rfl⟩
    have hr0 : (r != 0) = true := by simp; omega
    rw [hrr]
    clear hr hrr
    go_wp2_with fail
    refine HN.out.mono ?_
    rintro e w3 ⟨rfl, q, rfl⟩
    go_wp2_with fail
    go_ret2
    exact ⟨rfl, ⟨HB2.out.os, HB2.out.tape, HB2.out.output, HB2.out.size, HB2.out.block⟩⟩
end Go.Proofs.YtkcnkhdbojdhgabGreat.A
namespace Go.Proofs.YtkcnkhdbojdhgabGreat.A
open Go.RowKit

structure Run (w wr : World) (b : Nat) (v : Value) (L : Nat) (a : St) : Prop where
  acc : AccAt wr w.heap.size b v L a
  bl : Below w.heap.size w wr
theorem Run.did {w wr w' : World} {b : Nat} {v v' : Value} {L L' : Nat} {a a' : St} (h : Run w wr b v L a) (hd : Did wr w' w.heap.size b v L' a' v') : Run w w' b v' L' a' :=
  ⟨hd.acc, h.bl.trans (hd.wrote.below (fun k hk => (h.acc.base k hk).1) h.bl.size)⟩
theorem Run.mono {w wr : World} {b : Nat} {v : Value} {L L' : Nat} {a : St} (h : Run w wr b v L a) (hl : L ≤ L') : Run w wr b v L' a := ⟨h.acc.mono hl, h.bl⟩
theorem Run.drewN {w wr : World} {b : Nat} {v : Value} {L : Nat} {a : St} (h : Run w wr b v L a) (n : Nat) : Run w (wr.drewN n) b v L a :=
  ⟨h.acc.drewN n, ⟨h.bl.os, h.bl.tape, h.bl.output, h.bl.size, h.bl.block⟩⟩

end Go.Proofs.YtkcnkhdbojdhgabGreat.A
namespace Go.Proofs.YtkcnkhdbojdhgabGreat.A
open Go.RowKit

theorem kn_prod (b y1 y0 q : Nat) : q * (y1 * b + y0) = q * y1 * b + q * y0 := by rw [Nat.mul_add, Nat.mul_assoc]
theorem kn_test {b y1 y0 u u1 q r : Nat} (hy : 0 < y1 * b + y0) (h : q * y1 + r = u) : (b * r + u1 < q * y0) ↔ (u * b + u1) / (y1 * b + y0) < q := by
  rw [Nat.div_lt_iff_lt_mul hy, kn_prod, ← h, Nat.add_mul, Nat.mul_comm r b]
  generalize q * y1 * b = A
  generalize b * r = C
  omega
theorem kn_break {b y1 y0 u u1 q r : Nat} (hy : 0 < y1 * b + y0) (h : q * y1 + r = u) (hr : b ≤ r) (hq : q ≤ b) (h0 : y0 < b) (hQ : (u * b + u1) / (y1 * b + y0) ≤ q) : q = (u * b + u1) / (y1 * b + y0) := by
  apply Nat.le_antisymm _ hQ
  rw [Nat.le_div_iff_mul_le hy, kn_prod, ← h, Nat.add_mul]
  have h1 : q * y0 ≤ b * b := Nat.mul_le_mul hq (by omega)
  have h2 : b * b ≤ r * b := Nat.mul_le_mul hr (Nat.le_refl _)
  omega
theorem kn_first {b y1 y0 u : Nat} (hu : u < y1 * b + y0) (h0 : y0 < b) (hy1 : b ≤ 2 * y1) (h1 : 0 < y1) : u / y1 ≤ b + 1 := by
  have : u / y1 < b + 2 := by
    rw [Nat.div_lt_iff_lt_mul h1, Nat.add_mul, Nat.mul_comm b y1]
    omega
  omega
theorem kn_ge {b y1 y0 u u1 : Nat} (hu1 : u1 < b) (h1 : 0 < y1) : (u * b + u1) / (y1 * b + y0) ≤ u / y1 := by
  rw [Nat.le_div_iff_mul_le h1]
  have h := Nat.div_mul_le_self (u * b + u1) (y1 * b + y0)
  rw [kn_prod] at h
  generalize (u * b + u1) / (y1 * b + y0) = Q at *
  have h2 : Q * y1 * b < (u + 1) * b := by rw [Nat.add_mul]; omega
  have := Nat.lt_of_mul_lt_mul_right h2
  omega
theorem kn_small {b y u u1 : Nat} (hu1 : u1 < b) (hu : u < y) : (u * b + u1) / y < b := by
  rw [Nat.div_lt_iff_lt_mul (by omega)]
  have : (u + 1) * b ≤ b * y := by rw [Nat.mul_comm b y]; exact Nat.mul_le_mul hu (Nat.le_refl _)
  rw [Nat.add_mul] at this
  omega
theorem kn_two {y b A c : Nat} (hy : 0 < y) : (A * b + c) / y = A / y * b + (A % y * b + c) / y ∧ (A * b + c) % y = (A % y * b + c) % y := by
  have e : A * b + c = (A % y * b + c) + A / y * b * y := by
    have := Nat.div_add_mod A y
    generalize A / y = q at *
    generalize A % y = r at *
    rw [← this, Nat.add_mul, Nat.mul_right_comm q b y, Nat.mul_comm y q]; omega
  rw [e]
  exact ⟨by rw [Nat.add_mul_div_right _ _ hy]; omega, by rw [Nat.add_mul_mod_self_right]⟩
theorem kn_whole {b y X s un32 un1 un0 : Nat} (hy : 0 < y) (h : X * 2 ^ s = (un32 * b + un1) * b + un0) :
    X / y = (un32 * b + un1) / (y * 2 ^ s) * b + ((un32 * b + un1) % (y * 2 ^ s) * b + un0) / (y * 2 ^ s) ∧ X % y = ((un32 * b + un1) % (y * 2 ^ s) * b + un0) % (y * 2 ^ s) / 2 ^ s := by
  have hp : 0 < 2 ^ s := Nat.pow_pos (by decide)
  obtain ⟨h1, h2⟩ := kn_two (y := y * 2 ^ s) (b := b) (A := un32 * b + un1) (c := un0) (Nat.mul_pos hy hp)
  rw [← h1, ← h2, ← h, Nat.mul_div_mul_right _ _ hp, Nat.mul_mod_mul_right, Nat.mul_div_cancel _ hp]
  exact ⟨rfl, rfl⟩

structure KL (b y1 y0 u u1 q r : Nat) : Prop where
  eq : q * y1 + r = u
  ge : (u * b + u1) / (y1 * b + y0) ≤ q
theorem kl_start {b y1 y0 u u1 : Nat} (hu1 : u1 < b) (h1 : 0 < y1) : KL b y1 y0 u u1 (u / y1) (u % y1) :=
  ⟨by rw [Nat.mul_comm]; exact Nat.div_add_mod u y1, kn_ge hu1 h1⟩
theorem kl_cases {b y1 y0 u u1 q r : Nat} (h : KL b y1 y0 u u1 q r) (hq : q ≤ b + 1) (h0 : y0 < b) (hy : 0 < y1 * b + y0) (hQ : (u * b + u1) / (y1 * b + y0) < b) :
    (q < b ∧ ¬ (b * r + u1 < q * y0) ∧ q = (u * b + u1) / (y1 * b + y0)) ∨
    (∃ q', q' + 1 = q ∧ q' ≤ b ∧ (b ≤ q ∨ (q < b ∧ b * r + u1 < q * y0)) ∧ ((b ≤ r + y1 ∧ q' = (u * b + u1) / (y1 * b + y0)) ∨ (r + y1 < b ∧ KL b y1 y0 u u1 q' (r + y1)))) := by
  have ht := kn_test (b := b) (u1 := u1) hy h.eq
  have hg := h.ge
  have next : (u * b + u1) / (y1 * b + y0) < q → ∃ q', q' + 1 = q ∧ q' ≤ b ∧ ((b ≤ r + y1 ∧ q' = (u * b + u1) / (y1 * b + y0)) ∨ (r + y1 < b ∧ KL b y1 y0 u u1 q' (r + y1))) := by
    intro hlt
    have hq0 : 0 < q := Nat.lt_of_le_of_lt (Nat.zero_le _) hlt
    obtain ⟨q', rfl⟩ : ∃ q', q = q' + 1 := ⟨q - 1, by clear hlt ht hg hQ; omega⟩
    have e : q' * y1 + (r + y1) = u := by rw [← h.eq, Nat.add_mul]; omega
    refine ⟨q', rfl, by omega, ?_⟩
    by_cases hr : b ≤ r + y1
    · exact Or.inl ⟨hr, kn_break hy e hr (by omega) h0 (Nat.le_of_lt_succ hlt)⟩
    · exact Or.inr ⟨by omega, e, Nat.le_of_lt_succ hlt⟩
  by_cases h1 : b ≤ q
  · obtain ⟨q', a1, a2, a3⟩ := next (Nat.lt_of_lt_of_le hQ h1)
    exact Or.inr ⟨q', a1, a2, Or.inl h1, a3⟩
  · by_cases h2 : b * r + u1 < q * y0
    · obtain ⟨q', a1, a2, a3⟩ := next (ht.1 h2)
      exact Or.inr ⟨q', a1, a2, Or.inr ⟨by omega, h2⟩, a3⟩
    · refine Or.inl ⟨by omega, h2, ?_⟩
      exact Nat.le_antisymm (Nat.le_of_not_lt fun c => h2 (ht.2 c)) hg
end Go.Proofs.YtkcnkhdbojdhgabGreat.A
namespace Go.Proofs.YtkcnkhdbojdhgabGreat.A
open Go.RowKit

structure Kn (hi lo d ld Y y1 y0 U Z u1 u0 a c : Nat) : Prop where
  lds : ld ≤ 63
  f1 : IntKind.u64.wrap ((d : Int) * 2 ^ ld) = (Y : Int)
  f2 : (Y : Int) / 4294967296 = (y1 : Int)
  f3 : bits .and .u64 (Y : Int) 4294967295 = (y0 : Int)
  f4 : IntKind.u64.wrap ((hi : Int) * 2 ^ ld) = (a : Int)
  f5 : (lo : Int) / 2 ^ (64 - ld) = (c : Int)
  f6 : bits .or .u64 (a : Int) (c : Int) = (U : Int)
  f7 : IntKind.u64.wrap ((lo : Int) * 2 ^ ld) = (Z : Int)
  f8 : (Z : Int) / 4294967296 = (u1 : Int)
  f9 : bits .and .u64 (Z : Int) 4294967295 = (u0 : Int)
  yf : Y < 18446744073709551616
  yh : 9223372036854775808 ≤ Y
  yy : Y = y1 * 4294967296 + y0
  y0b : y0 < 4294967296
  uY : U < Y
  u1b : u1 < 4294967296
  u0b : u0 < 4294967296
  dY : Y = d * 2 ^ ld
  all : (hi * 18446744073709551616 + lo) * 2 ^ ld = (U * 4294967296 + u1) * 4294967296 + u0
theorem and_mask32 {z : Nat} (h : z < 18446744073709551616) : bits .and .u64 (z : Int) 4294967295 = ((z % 4294967296 : Nat) : Int) := by
  have e := bits_and_u64_nat z 4294967295 h (by decide)
  have e2 : z &&& 4294967295 = z % 4294967296 := Nat.and_two_pow_sub_one_eq_mod z 32
  rw [e2] at e
  exact e
theorem kn_any {hi lo d ld : Nat} (hlt : hi < d) (hd : d < 18446744073709551616) (hlo : lo < 18446744073709551616) (hld : ld = 63 - d.log2) : ∃ Y y1 y0 U Z u1 u0 a c, Kn hi lo d ld Y y1 y0 U Z u1 u0 a c := by
  have hd0 : d ≠ 0 := by omega
  obtain ⟨h1, _, _, h4⟩ := lead_parts hd0 hd hlo hld
  have hp := Nat.two_pow_pos ld
  have hm : (hi + 1) * 2 ^ ld ≤ d * 2 ^ ld := Nat.mul_le_mul hlt (Nat.le_refl _)
  rw [Nat.add_mul, Nat.one_mul] at hm
  have ha : hi * 2 ^ ld < 18446744073709551616 := by omega
  have hor := piece1 (hi := hi) (off := ld) (by omega) hlo
  rw [Nat.mod_eq_of_lt ha] at hor
  have eW : (18446744073709551616 : Nat) = 2 ^ ld * 2 ^ (64 - ld) := by rw [← Nat.pow_add, show ld + (64 - ld) = 64 by omega]
  have hc : lo / 2 ^ (64 - ld) < 2 ^ ld := by
    rw [Nat.div_lt_iff_lt_mul (Nat.two_pow_pos _), ← eW]; exact hlo
  have hc2 : lo / 2 ^ (64 - ld) < 18446744073709551616 := Nat.lt_of_le_of_lt (Nat.div_le_self _ _) hlo
  have hsum := pieces_sum (hi := hi) (lo := lo) (off := ld) (by omega)
  have hhi : hi / 2 ^ (64 - ld) = 0 := by
    apply Nat.div_eq_of_lt
    have : hi * 2 ^ ld < 2 ^ (64 - ld) * 2 ^ ld := by rw [Nat.mul_comm (2 ^ (64 - ld)), ← eW]; exact ha
    exact Nat.lt_of_mul_lt_mul_right this
  rw [hhi, Nat.zero_mul, Nat.add_zero, Nat.mod_eq_of_lt ha] at hsum
  have hhalf : 9223372036854775808 ≤ d * 2 ^ ld := by
    have hl := Nat.log2_self_le hd0
    have hl2 : d.log2 < 64 := (Nat.log2_lt hd0).2 hd
    have : 2 ^ d.log2 * 2 ^ ld ≤ d * 2 ^ ld := Nat.mul_le_mul hl (Nat.le_refl _)
    rw [← Nat.pow_add, hld, show d.log2 + (63 - d.log2) = 63 by omega, ← hld] at this
    exact this
  obtain ⟨Z, hZ⟩ : ∃ Z, lo * 2 ^ ld % 18446744073709551616 = Z := ⟨_, rfl⟩
  have hZb : Z < 18446744073709551616 := by rw [← hZ]; exact Nat.mod_lt _ (by decide)
  obtain ⟨Y, hY⟩ : ∃ Y, d * 2 ^ ld = Y := ⟨_, rfl⟩
  obtain ⟨a, haa⟩ : ∃ a, hi * 2 ^ ld = a := ⟨_, rfl⟩
  obtain ⟨c, hcc⟩ : ∃ c, lo / 2 ^ (64 - ld) = c := ⟨_, rfl⟩
  have g1 : IntKind.u64.wrap ((d : Int) * 2 ^ ld) = (Y : Int) := by rw [shl_word, Nat.mod_eq_of_lt h1, hY]
  have g4 : IntKind.u64.wrap ((hi : Int) * 2 ^ ld) = (a : Int) := by rw [shl_word, Nat.mod_eq_of_lt ha, haa]
  have g5 : (lo : Int) / 2 ^ (64 - ld) = (c : Int) := by rw [shr_word, hcc]
  have g6 : bits .or .u64 (a : Int) (c : Int) = ((a + c : Nat) : Int) := by rw [← haa, ← hcc, bits_or_u64_nat _ _ ha hc2, hor]
  have g7 : IntKind.u64.wrap ((lo : Int) * 2 ^ ld) = (Z : Int) := by rw [shl_word, hZ]
  rw [hZ] at hsum
  rw [haa, hcc] at hsum
  rw [haa, hY] at hm
  rw [hY] at h1 hhalf
  rw [hcc] at hc
  refine ⟨Y, Y / 4294967296, Y % 4294967296, a + c, Z, Z / 4294967296, Z % 4294967296, a, c, ⟨h4, g1, by omega, and_mask32 h1, g4, g5, g6, g7, by omega, and_mask32 hZb, h1, hhalf, by omega, by omega, by omega, by omega, by omega, hY.symm, ?_⟩⟩
  rw [← hsum]; omega

theorem prod_word {q y0 : Nat} (hq : q < 4294967296) (h0 : y0 < 4294967296) : IntKind.u64.wrap ((q : Int) * (y0 : Int)) = ((q * y0 : Nat) : Int) := by
  have : q * y0 ≤ 4294967295 * 4294967295 := Nat.mul_le_mul (by omega) (by omega)
  rw [IntKind.wrap_u64, ← Int.natCast_mul]
  omega
theorem left_word {U u1 q Y R A B C : Nat} (hA : A = U * 4294967296 % 18446744073709551616) (hB : B = (A + u1) % 18446744073709551616) (hC : C = q * Y % 18446744073709551616) (hR : R < 18446744073709551616) (h : U * 4294967296 + u1 = q * Y + R) : IntKind.u64.wrap ((B : Int) - (C : Int)) = (R : Int) := by
  rw [IntKind.wrap_u64]
  generalize q * Y = P at *
  omega
theorem wrap_nat {n m : Nat} (h : n % 18446744073709551616 = m) : IntKind.u64.wrap (n : Int) = (m : Int) := by
  rw [IntKind.wrap_u64]; omega
end Go.Proofs.YtkcnkhdbojdhgabGreat.A
