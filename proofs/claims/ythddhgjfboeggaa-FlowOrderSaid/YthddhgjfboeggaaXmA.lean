/- The contract of tenorlaw14.Mixed: the same flows in another order, in new memory. -/
import Derived.Test.YthddhgjfboeggaaHao
import Derived.Test.YthddhgjfboeggaaHal
import Derived.Laws.AppendOwnNone
import Derived.Test.YthddhgjfboeggaaLate
namespace Go.Proofs.Ythddhgjfboeggaa
open Go.RowKit

/-- An append of a slice of flows, which may be nil, to a row of one's own. -/
theorem wpList_append_flo (w : World) {ops : Array Oper} {rest : List Oper} {o : Oper} {a : Act} {Q : Exit → Act → World → Prop} (hgd : o.guard = none) (s x : Operand)
    (ho : o.op = .call { callee := .builtin .append, args := #[s, x], argTypes := #[22, 22] })
    (base : Nat) (v : Value) (n : Nat) (xs : List Flw) (hs : a.eval s = v) (hown : w.ownsRow base 36 3 v n (rowF aF xs))
    (p : Option Addr) (b off c m : Nat) (ys : List Flw) (hx : a.eval x = .slice p m c) (hm : ys.length = m) (hsrc : JSrc aF w p b off ys) (hnil : p = none → m = 0 ∧ c = 0) (hn : (n + m) * 24 ≤ 140737488355328) (hbase : base ≤ w.heap.size)
    (h : ∀ v' w', w'.ownsRow base 36 3 v' (n + m) (rowF aF (xs ++ ys)) → w.grownBy w' v.ownBlock → wpList Try.prog ops Q rest (a.put o.dst v') w') : wpList Try.prog ops Q (o :: rest) a w := by
  obtain ⟨i0, hi, hz0, hz1, hz2⟩ := info_parts info_fl
  cases p with
  | none =>
    obtain ⟨rfl, rfl⟩ := hnil rfl
    refine wpList_append_own_none hgd s x 22 ho base 36 i0 3 Try.underlying22 hi v n (rowF aF xs) hs hown hx (h v w ?_ ⟨rfl, rfl, rfl, Nat.le_refl _, fun _ _ _ => rfl⟩)
    rw [List.length_eq_zero_iff.1 hm, List.append_nil]; exact hown
  | some ad =>
    refine wpList_append_own w hgd s x 22 ho base 36 i0 (.agg #[.int .i64 0, aF 0, .int .i64 0]) 3 24 Try.underlying22 hi hz0 hz1 hz2 rfl (by decide) v n (rowF aF xs) hs hown ad m c (rowF aF ys) hx (by rw [rowF_len, hm]) ?_ (rowF_one (fun _ => rfl) ys) (by unfold maxLen; omega) (by omega) hbase ?_
    · intro j u hj
      have hlt : j < ys.length * 3 := by
        have := (List.getElem?_eq_some_iff.1 hj).1
        rw [rowF_len] at this
        exact this
      have e := hsrc.at_ (by omega)
      obtain rfl := Option.some.inj e
      rw [Addr.add_lit]
      obtain ⟨i, m, rfl, hm5⟩ : ∃ i m, j = i * 3 + m ∧ m < 3 := ⟨j / 3, j % 3, by omega, Nat.mod_lt _ (by omega)⟩
      have hq : i < ys.length := by omega
      rw [rowF_get aF ys _ _ hq hm5] at hj
      have hc := hsrc.cell _ hq
      rw [← hj]
      rw [← Nat.add_assoc]
      rcases (show m = 0 ∨ m = 1 ∨ m = 2 by omega) with rfl | rfl | rfl
      · exact hc.c0
      · exact hc.c1
      · exact hc.c2
    · intro v' w' h1 h2 _
      refine h v' w' ?_ h2
      rw [rowF_append]; exact h1
/-- A row of flows of one's own, as it may be written. -/
theorem fown_cells {w : World} {B n g cap : Nat} {l : List Flw} (h : w.ownsRow B 36 3 (.slice (some ⟨g, 0, none⟩) n cap) n (rowF aF l)) (hn : l.length = n) (i : Nat) (hi : i < n) : (w.cell? ⟨g, i * 3, none⟩ = some (.int .i64 (l.getD i flw0).day) ∧ w.cell? ⟨g, i * 3 + 1, none⟩ = some (.float .f64 (l.getD i flw0).am) ∧ w.cell? ⟨g, i * 3 + 2, none⟩ = some (.int .i64 (l.getD i flw0).cur)) ∧ ∀ j, w.frozen? ⟨g, j, none⟩ = false := by
  have hc : ∀ m < 3, w.cell? ⟨g, i * 3 + m, none⟩ = (flC aF (l.getD i flw0))[m]? := fun m hm => by
    rw [h.cellAt (i * 3 + m) (by omega), rowF_get aF l i m (by omega) hm]
  exact ⟨⟨hc 0 (by decide), hc 1 (by decide), hc 2 (by decide)⟩, fun j => World.ownsRow.frozenAt h j⟩
def set3 (w : World) (g o : Nat) (f : Flw) : World := ((w.setCell ⟨g, o, none⟩ (.int .i64 f.day)).setCell ⟨g, o + 1, none⟩ (.float .f64 f.am)).setCell ⟨g, o + 2, none⟩ (.int .i64 f.cur)
theorem rowF_set (mk : Nat → Value) : ∀ (l : List Flw) (i : Nat) (f : Flw), rowF mk (l.set i f) = (((rowF mk l).set (i * 3) (.int .i64 f.day)).set (i * 3 + 1) (mk f.am)).set (i * 3 + 2) (.int .i64 f.cur)
  | [], i, f => by simp [rowF]
  | x :: l, 0, f => by simp [rowF, flC]
  | x :: l, i + 1, f => by
    have ih := rowF_set mk l i f
    have e : (i + 1) * 3 = i * 3 + 3 := by omega
    simp only [List.set_cons_succ, rowF, flC, List.cons_append, List.nil_append]
    rw [e, show i * 3 + 3 + 1 = (i * 3 + 1) + 3 by omega, show i * 3 + 3 + 2 = (i * 3 + 2) + 3 by omega]
    simp only [List.set_cons_succ]
    rw [ih]
theorem fown_set {w : World} {B n g cap : Nat} {l : List Flw} (h : w.ownsRow B 36 3 (.slice (some ⟨g, 0, none⟩) n cap) n (rowF aF l)) (i : Nat) (f : Flw) : (set3 w g (i * 3) f).ownsRow B 36 3 (.slice (some ⟨g, 0, none⟩) n cap) n (rowF aF (l.set i f)) ∧ Below B w (set3 w g (i * 3) f) := by
  have hB : B ≤ g := (h.lt g rfl).1
  have h1 := (World.ownsRow.stored h (i * 3) (.int .i64 f.day)).1
  have h2 := (World.ownsRow.stored h1 (i * 3 + 1) (.float .f64 f.am)).1
  have h3 := (World.ownsRow.stored h2 (i * 3 + 2) (.int .i64 f.cur)).1
  refine ⟨?_, (((Below.refl B w).setCell (p := ⟨g, i * 3, none⟩) hB _).setCell (p := ⟨g, i * 3 + 1, none⟩) hB _).setCell (p := ⟨g, i * 3 + 2, none⟩) hB _⟩
  rw [rowF_set]; exact h3
theorem fown_empty (w : World) : (w.alloc (.cells #[] 36)).ownsRow w.heap.size 36 3 (.slice (some ⟨w.heap.size, 0, none⟩) 0 0) 0 (rowF aF []) :=
  ⟨rfl, Or.inr ⟨w.heap.size, 0, #[], rfl, Nat.le_refl _, heap_alloc_new _ _, Nat.le_refl _, Nat.zero_le _, rfl, rfl⟩⟩
theorem tmod_inJ (b : Int) (n : Nat) (hn : 0 < n) : ∃ k : Nat, k < n ∧ -(n : Int) < b.tmod n ∧ b.tmod n < n ∧ (b.tmod n + n).tmod n = (k : Int) := by
  have h1 := Int.tmod_lt_of_pos b (show (0 : Int) < n by omega)
  have h2 := Int.lt_tmod_of_pos b (show (0 : Int) < n by omega)
  have h3 : (b.tmod n + n).tmod n = (b.tmod n + n) % n := Int.tmod_eq_emod_of_nonneg (by omega)
  refine ⟨((b.tmod n + n) % n).toNat, ?_, by omega, h1, ?_⟩
  · have := Int.emod_lt_of_pos (b.tmod n + n) (show (0 : Int) < n by omega)
    have := Int.emod_nonneg (b.tmod n + n) (show (n : Int) ≠ 0 by omega)
    omega
  · rw [h3]
    have := Int.emod_nonneg (b.tmod n + n) (show (n : Int) ≠ 0 by omega)
    omega
theorem perm_swap {l : List Flw} {i k : Nat} (hi : i < l.length) (hk : k < l.length) : ((l.set i (l.getD k flw0)).set k (l.getD i flw0)).Perm l := by
  have e1 : l.getD k flw0 = l[k] := by simp [List.getD, List.getElem?_eq_getElem hk]
  have e2 : l.getD i flw0 = l[i] := by simp [List.getD, List.getElem?_eq_getElem hi]
  rw [e1, e2]
  exact List.set_set_perm hi hk
set_option maxRecDepth 40000 in
set_option maxHeartbeats 6400000 in
theorem mixed_any (l : List Flw) (p : Option Addr) (b off c N : Nat) (pp : Option Addr) (bp op cp L : Nat) (xs : List Int) (w : World) (hl : JSrc aF w p b off l) (hN : l.length = N) (hnil : p = none → N = 0 ∧ c = 0) (hc : N ≤ 200) (hb : VSrc w pp bp op L (xV xs)) (hL : L ≤ 9223372036854775807) :
    Calls Try.prog 7 #[.slice p N c, .slice pp L cp] w fun e w' => ∃ u m, e = .returned u ∧ w'.ownsRow w.heap.size 36 3 u N (rowF aF m) ∧ m.Perm l ∧ Below w.heap.size w w' := by
  have HQ := hideS hl
  have HN := hideS hN
  have HB := hideS hb
  have HNl := hideS hnil
  clear hl hN hb hnil
  have HE := hideS (fown_empty w)
  have HB0 := hideS ((Below.refl _ w).alloc (Nat.le_refl _) (.cells #[] 36))
  go_enter Try.func7, Try.ntmps7
  go_wp2_with (at_builtin; refine wpList_append_flo _ rfl _ _ rfl w.heap.size (.slice (some ⟨w.heap.size, 0, none⟩) 0 0) 0 [] rfl HE.out p b off c N l rfl HN.out (HQ.out.below HB0.out) HNl.out (by omega) HB0.out.size ?_)
  intro v1 w1 ho hg
  have hb1 : Below w.heap.size w w1 := HB0.out.trans (fgrown_below HE.out hg HB0.out.size)
  obtain ⟨p1, g1, c1, rfl, s1, hc1, hc2, hsh⟩ := fown_src ho HN.out
  have O1 := hideS (And.intro ho hb1)
  have HP1 : Hid (0 < N → p1 = some ⟨g1, 0, none⟩) := fun h0 => s1.at_ (by rw [HN.out]; exact h0)
  have HPb : Hid (0 < L → pp = some ⟨bp, op, none⟩) := fun h0 => HB.out.at_ h0
  clear ho hg hb1 s1 hsh HE HB0
  go_wp2_with fail
  go_loopw [6, 7] (fun i _ wr => ∃ (k : Nat), k ≤ N ∧ i = .int .i64 k ∧ Hid (∃ m, m.length = N ∧ wr.ownsRow w.heap.size 36 3 (.slice p1 N c1) N (rowF aF m) ∧ m.Perm l ∧ Below w.heap.size w wr)) (fun i _ _ => N - (intOf i).toNat)
  case atStart => exact ⟨0, Nat.zero_le _, rfl, ⟨l, HN.out, O1.out.1, List.Perm.refl _, O1.out.2⟩⟩
  case round =>
    clear O1
    obtain ⟨k, hk, rfl, HR⟩ := hrel
    obtain ⟨m, hml, hO, hPm, hBl⟩ := HR.out
    by_cases hlt : k < N ∧ k < L
    · obtain ⟨hlt, hlt2⟩ := hlt
      obtain rfl := HP1.out (by omega)
      obtain rfl := HPb.out (by omega)
      have hcb : wr.cell? ⟨bp, op + k, none⟩ = some (.int .i64 (xs.getD k 0)) := ((HB.out.below hBl).cell k hlt2)
      generalize xs.getD k 0 = bv at hcb
      obtain ⟨j, hj, r1, r2, r3⟩ := tmod_inJ bv N (by omega)
      obtain ⟨t, ht⟩ : ∃ t, bv.tmod N = t := ⟨_, rfl⟩
      rw [ht] at r1 r2 r3
      obtain ⟨⟨a0, a1, a2⟩, fz⟩ := fown_cells hO hml k hlt
      obtain ⟨⟨b0, b1, b2⟩, _⟩ := fown_cells hO hml j hj
      have HSw := hideS (perm_swap (l := m) (i := k) (k := j) (by rw [hml]; exact hlt) (by rw [hml]; exact hj))
      have HSt := hideS (fun x y => And.intro (fown_set (fown_set hO k x).1 j y).1 (hBl.trans ((fown_set hO k x).2.trans (fown_set (fown_set hO k x).1 j y).2)))
      have HCj := hideS fun x => fown_cells (fown_set hO k x).1 (by rw [List.length_set]; exact hml) j hj
      have z0 := fz (k * 3)
      have z1 := fz (k * 3 + 1)
      have z2 := fz (k * 3 + 2)
      have y0 := fz (j * 3)
      have y1 := fz (j * 3 + 1)
      have y2 := fz (j * 3 + 2)
      have HPr := hideS (And.intro hPm hml)
      clear hO hPm hBl HR fz
      obtain ⟨fk, hfk⟩ : ∃ f, m.getD k flw0 = f := ⟨_, rfl⟩
      obtain ⟨fj, hfj⟩ : ∃ f, m.getD j flw0 = f := ⟨_, rfl⟩
      rw [hfk] at a0 a1 a2 HSw
      rw [hfj] at b0 b1 b2 HSw
      clear hfk hfj
      have hst := store_flj
      obtain ⟨⟨q0, q1, q2⟩, qz⟩ := HCj.out fj
      have x0 := qz (j * 3)
      have x1 := qz (j * 3 + 1)
      have x2 := qz (j * 3 + 2)
      have HS2 := hideS (HSt.out fj fk)
      clear qz HCj HSt
      obtain ⟨w5, hw5⟩ : ∃ w5, set3 wr g1 (k * 3) fj = w5 := ⟨_, rfl⟩
      rw [hw5] at q0 q1 q2 x0 x1 x2 HS2
      obtain ⟨w6, hw6⟩ : ∃ w6, set3 w5 g1 (j * 3) fk = w6 := ⟨_, rfl⟩
      rw [hw6] at HS2
      unfold set3 at hw5 hw6
      go_wp2_with fail
      go_region
      clear q0 q1 q2 x0 x1 x2 z0 z1 z2 y0 y1 y2 a0 a1 a2 b0 b1 b2 hst hw5 hw6
      go_wp2_with fail
      go_roundw
      case rel =>
        exact ⟨k + 1, by omega, by simp, ⟨(m.set k fj).set j fk, by rw [List.length_set, List.length_set]; exact HPr.out.2, HS2.out.1, HSw.out.trans HPr.out.1, ⟨HS2.out.2.os, HS2.out.2.tape, HS2.out.2.output, HS2.out.2.size, HS2.out.2.block⟩⟩⟩
      case measure => simp [intOf]; omega
    · have R := hideS (And.intro hO (And.intro hPm hBl))
      clear hO hPm hBl HR
      rcases (show (¬ k < N) ∨ (k < N ∧ ¬ k < L) by omega) with hq | ⟨hq, hq2⟩
      all_goals
        go_wp2_with fail
        go_ret
        exact ⟨_, m, rfl, R.out.1, R.out.2.1, R.out.2.2⟩
end Go.Proofs.Ythddhgjfboeggaa
