/- The contract of the law's shuffled: the same floats, in new memory. -/
import Derived.Test.YtejpplcccbiplaaMrg
import Derived.Test.YtejpplcccbiplaaSrcI
import Derived.Laws.AppendOwnNone
namespace Go.Proofs.Ytejpplcccbiplaa
open Go.RowKit

/-- A row of floats of one's own. -/
structure OwnFl (w : World) (B : Nat) (v : Value) (n : Nat) (ys : List Nat) : Prop where
  own : w.ownsRow B 29 1 v n (rowOf fV ys n)
  len : ys.length = n
theorem OwnFl.src {w : World} {B n : Nat} {v : Value} {ys : List Nat} (h : OwnFl w B v n ys) : ∃ p g c, v = .slice p n c ∧ n ≤ c ∧ c ≤ maxLen ∧ Src w p g 0 ys := by
  have h1 := h.own
  have hn := h.len
  have e : rowOf fV ys n = ys.map fV := by rw [← hn]; exact rowOf_all fV ys
  rw [e] at h1
  rcases h1.2 with ⟨hv, h0⟩ | ⟨g, cap, cur, hv, hb, hg, hnc, hcm, _⟩
  · exact ⟨none, 0, 0, by rw [hv, h0], by omega, by unfold maxLen; omega, ⟨fun h1 => by omega, fun h1 => by omega, fun j hj => by omega⟩⟩
  · refine ⟨some ⟨g, 0, none⟩, g, cap, hv, hnc, hcm, ⟨fun _ => rfl, fun _ => (Array.getElem?_eq_some_iff.1 hg).1, fun j hj => ?_⟩⟩
    rw [hv] at h1
    rw [Nat.zero_add, h1.cellAt j (by omega), List.getElem?_map, getD_some hj]; rfl
theorem OwnFl.at1 {w : World} {B n g c : Nat} {ys : List Nat} (h : OwnFl w B (.slice (some ⟨g, 0, none⟩) n c) n ys) (j : Nat) (hj : j < n) : w.cell? ⟨g, j, none⟩ = some (.float .f64 (ys.getD j 0)) ∧ w.frozen? ⟨g, j, none⟩ = false := by
  have h1 := h.own
  have hn := h.len
  have e : rowOf fV ys n = ys.map fV := by rw [← hn]; exact rowOf_all fV ys
  rw [e] at h1
  refine ⟨?_, World.ownsRow.frozenAt h1 j⟩
  rw [h1.cellAt j (by omega), List.getElem?_map, getD_some (by omega)]; rfl
theorem OwnFl.set {w : World} {B n g c : Nat} {ys : List Nat} (h : OwnFl w B (.slice (some ⟨g, 0, none⟩) n c) n ys) (j x : Nat) : OwnFl (w.setCell ⟨g, j, none⟩ (.float .f64 x)) B (.slice (some ⟨g, 0, none⟩) n c) n (ys.set j x) ∧ B ≤ g := by
  have hn := h.len
  have e : rowOf fV ys n = ys.map fV := by rw [← hn]; exact rowOf_all fV ys
  have h1 := h.own
  rw [e] at h1
  have h2 := World.ownsRow.stored h1 j (.float .f64 x)
  refine ⟨⟨?_, by rw [List.length_set]; exact hn⟩, (h1.lt g rfl).1⟩
  have e2 : rowOf fV (ys.set j x) n = (ys.set j x).map fV := by
    have := rowOf_all fV (ys.set j x)
    rw [List.length_set, hn] at this; exact this
  rw [e2, List.map_set]; exact h2.1
theorem store_f64 (P : Program) (w : World) (a : Addr) (x : Nat) (z : Value) (h : w.cell? a = some z) (hf : w.frozen? a = false) : (store a (.float .f64 x)).run P w = .ok () (w.setCell a (.float .f64 x)) := by
  rw [run_store P w a _ _ rfl, h]; simp [hf]

theorem tmod_in (b : Int) (n : Nat) (hn : 0 < n) : ∃ k : Nat, k < n ∧ -(n : Int) < b.tmod n ∧ b.tmod n < n ∧ (b.tmod n + n).tmod n = (k : Int) := by
  have h1 := Int.tmod_lt_of_pos b (show (0 : Int) < n by omega)
  have h2 := Int.lt_tmod_of_pos b (show (0 : Int) < n by omega)
  have h3 : (b.tmod n + n).tmod n = (b.tmod n + n) % n := Int.tmod_eq_emod_of_nonneg (by omega)
  refine ⟨((b.tmod n + n) % n).toNat, ?_, by omega, h1, ?_⟩
  · have := Int.emod_lt_of_pos (b.tmod n + n) (show (0 : Int) < n by omega)
    have := Int.emod_nonneg (b.tmod n + n) (show (n : Int) ≠ 0 by omega)
    omega
  · rw [h3]
    have := Int.emod_nonneg (b.tmod n + n) (show (n : Int) ≠ 0 by omega)
    omega

set_option maxRecDepth 100000 in
set_option maxHeartbeats 3200000 in
theorem shuf_core (p : Option Addr) (g off c : Nat) (xs : List Nat) (p' : Option Addr) (g' off' L' c' : Nat) (bs : List Int) (n : Nat) (w : World) (hs : Src w p g off xs) (hb : SrcI w p' g' off' bs) (hx : xs.length = n) (hbl : bs.length = min L' n) (hn : n ≤ 200) (hL : L' ≤ 9223372036854775807) (hnil : p = none → n = 0 ∧ c = 0) :
    Calls Try.prog 8 #[.slice p n c, .slice p' L' c'] w fun e w' => ∃ v ys, e = .returned v ∧ OwnFl w' w.heap.size v n ys ∧ ys.Perm xs ∧ Below w.heap.size w w' := by
  obtain ⟨i0, hi, hz0, hz1, hz2⟩ := info_parts infoF
  have HS := hideS (And.intro hs hx)
  have HB := hideS (And.intro hb hbl)
  have hall : Hid (rowOf fV xs n = xs.map fV) := by show _ = _; rw [← hx]; exact rowOf_all fV xs
  have hlen : Hid ((rowOf fV xs n).length = n * 1) := by show _ = _; rw [hall.out]; simp; omega
  clear hs hb hx hbl
  cases p with
  | none =>
    obtain ⟨rfl, rfl⟩ := hnil rfl
    have hrun := fun ty => run_append_owned_none (P := Try.prog) w w.heap.size 22 ty 29 i0 1 Try.underlying22 hi (.slice none 0 0) 0 [] (World.ownsRow_nil _ _ _ _)
    have e0 : xs = [] := List.length_eq_zero_iff.1 HS.out.2
    go_enter Try.func8, Try.ntmps8
    go_wp2_with (at_builtin; refine wpList_append_own_none _ rfl _ _ 22 rfl w.heap.size 29 i0 1 Try.underlying22 hi (.slice none 0 0) 0 [] rfl (World.ownsRow_nil _ _ _ _) rfl ?_)
    go_loop [6, 7] (fun i _ => i = .int .i64 0) (fun _ _ => 0)
    case atStart => rfl
    case round =>
      subst hrel
      go_wp2_with fail
      go_ret
      exact ⟨_, rfl, [], ⟨World.ownsRow_nil _ _ _ _, rfl⟩, by first | rfl | exact e0.symm ▸ List.Perm.refl _ | simp [e0], Below.refl _ _⟩
  | some a =>
    have hcells : Hid (∀ j u, (rowOf fV xs n)[j]? = some u → w.cell? (a.add j) = some u) := fun j u hj => by
      rw [hall.out, List.getElem?_map] at hj
      have hj2 : j < xs.length := by
        rcases Nat.lt_or_ge j xs.length with h | h
        · exact h
        · rw [List.getElem?_eq_none h] at hj; cases hj
      rw [getD_some hj2] at hj
      have e : u = .float .f64 (xs.getD j 0) := by simpa [fV] using hj.symm
      have ha := HS.out.1.at_ (by omega)
      obtain rfl : a = ⟨g, off, none⟩ := by simpa using ha
      rw [e, Addr.add_lit]
      exact HS.out.1.cell j hj2
    have hone : Hid (∀ u ∈ rowOf fV xs n, u.oneCell' = true) := fun u hu => by
      rw [hall.out] at hu
      obtain ⟨x, _, rfl⟩ := List.mem_map.1 hu; rfl
    go_enter Try.func8, Try.ntmps8
    go_wp2_with (at_builtin; refine wpList_append_own _ rfl _ _ 22 rfl w.heap.size 29 i0 (.float .f64 0) 1 8 Try.underlying22 hi hz0 hz1 hz2 rfl (by decide) (.slice none 0 0) 0 [] rfl (World.ownsRow_nil _ _ _ _) a n c (rowOf fV xs n) rfl hlen.out hcells.out hone.out ?c3 ?c4 ?c5 ?_)
    case c3 => unfold maxLen; omega
    case c4 => omega
    case c5 => exact Nat.le_refl _
    intro v1 w1 ho hg _
    have hB1 : Below w.heap.size w w1 := ⟨hg.os, hg.tape, hg.output, hg.size, fun k hk => hg.block k hk (fun e => by cases e)⟩
    have hO1 : OwnFl w1 w.heap.size v1 n xs := ⟨by simpa using ho, HS.out.2⟩
    obtain ⟨p1, g1, c1, hv1, hc1, hc2, hsr⟩ := hO1.src
    subst hv1
    have O1 := hideS (And.intro hO1 hB1)
    have HP : Hid (0 < n → p1 = some ⟨g1, 0, none⟩) := fun h0 => hsr.at_ (by have := HS.out.2; omega)
    clear ho hg hB1 hO1 hsr hcells hone
    go_wp2_with fail
    go_loopw [6, 7] (fun i _ wr => ∃ (k : Nat), k ≤ n ∧ i = .int .i64 k ∧ Hid (∃ ys, OwnFl wr w.heap.size (.slice p1 n c1) n ys ∧ ys.Perm xs ∧ Below w.heap.size w wr)) (fun i _ _ => n - (intOf i).toNat)
    case atStart => exact ⟨0, Nat.zero_le _, rfl, ⟨xs, O1.out.1, List.Perm.refl _, O1.out.2⟩⟩
    case round =>
      clear O1
      obtain ⟨k, hk, rfl, HR⟩ := hrel
      obtain ⟨ys, hO, hP, hBl⟩ := HR.out
      by_cases hlt : k < n ∧ k < L'
      · obtain ⟨hlt, hlt2⟩ := hlt
        obtain rfl := HP.out (by omega)
        have hbk : k < bs.length := by rw [HB.out.2]; omega
        obtain rfl := HB.out.1.at_ (by omega)
        have hcb : wr.cell? ⟨g', off' + k, none⟩ = some (.int .i64 (bs.getD k 0)) := (hBl.cell (p := ⟨g', off' + k, none⟩) (HB.out.1.lt (by omega))).trans (HB.out.1.cell k hbk)
        generalize bs.getD k 0 = b at hcb
        obtain ⟨j, hj, t1, t2, t3⟩ := tmod_in b n (by omega)
        obtain ⟨t, ht⟩ : ∃ t, b.tmod n = t := ⟨_, rfl⟩
        rw [ht] at t1 t2 t3
        obtain ⟨q1, f1⟩ := hO.at1 k hlt
        obtain ⟨q2, f2⟩ := hO.at1 j hj
        have HSw := hideS (swap_perm (l := ys) (i := k) (k := j) (by rw [hO.len]; exact hlt) (by rw [hO.len]; exact hj))
        have HSt := hideS (fun x y => And.intro ((hO.set k x).1.set j y).1 (hO.set k x).2)
        have HPr := hideS (And.intro hP hBl)
        have st1 : ∀ x, (store ⟨g1, k, none⟩ (.float .f64 x)).run Try.prog wr.drew = .ok () (wr.setCell ⟨g1, k, none⟩ (.float .f64 x)).drew := fun x => store_f64 Try.prog wr.drew ⟨g1, k, none⟩ x _ q1 f1
        have st2 : ∀ x y, (store ⟨g1, j, none⟩ (.float .f64 y)).run Try.prog (wr.setCell ⟨g1, k, none⟩ (.float .f64 x)).drew = .ok () ((wr.setCell ⟨g1, k, none⟩ (.float .f64 x)).setCell ⟨g1, j, none⟩ (.float .f64 y)).drew := fun x y => by
          obtain ⟨z1, z2⟩ := (hO.set k x).1.at1 j hj
          exact store_f64 Try.prog (wr.setCell ⟨g1, k, none⟩ (.float .f64 x)).drew ⟨g1, j, none⟩ y _ z1 z2
        clear hO hP hBl HR hbk
        generalize ys.getD k 0 = yk at *
        generalize ys.getD j 0 = yj at *
        go_wp2_with fail
        go_region
        have R := hideS (HSt.out yj yk)
        go_wp2_with fail
        go_roundw
        case rel =>
          refine ⟨k + 1, by omega, by simp, ⟨(ys.set k yj).set j yk, ⟨R.out.1.own, R.out.1.len⟩, HSw.out.trans HPr.out.1, ?_⟩⟩
          have h5 : Below w.heap.size w ((wr.setCell ⟨g1, k, none⟩ (.float .f64 yj)).setCell ⟨g1, j, none⟩ (.float .f64 yk)) := (HPr.out.2.setCell R.out.2 _).setCell R.out.2 _
          exact ⟨h5.os, h5.tape, h5.output, h5.size, h5.block⟩
        case measure => simp [intOf]; omega
      · have R := hideS (And.intro hO (And.intro hP hBl))
        clear hO hP hBl HR
        rcases (show (¬ k < n) ∨ (k < n ∧ ¬ k < L') by omega) with hq | ⟨hq, hq2⟩
        all_goals
          go_wp2_with fail
          go_ret
          exact ⟨_, ys, rfl, R.out.1, R.out.2.1, R.out.2.2⟩
end Go.Proofs.Ytejpplcccbiplaa
