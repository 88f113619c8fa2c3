/- The contracts of package flow's within, isCurrency, isNumber, checkFlow and Check; a flow's box. The contracts of package flow's Give and Window. The contract of package flow's Scale. Flows given twice, scaled by 1 and by -1, windows side by side, in plain words. -/
import Derived.Test.YteglnchcnacjlaaGreatJfA
import Derived.Test.YteglnchcnacjlaaGreatHam
import Derived.LoopTactic
import Derived.Sort.Row
namespace Go.Proofs.YteglnchcnacjlaaGreat
open Go.RowKit

theorem jIn_any (n lo hi : Int) (w : World) :
    Calls Tryz.prog 72 #[.int .i64 n, .int .i64 lo, .int .i64 hi] w fun e w' => e = .returned (.bool (decide (lo ≤ n ∧ n ≤ hi))) ∧ w' = w := by
  by_cases h1 : lo ≤ n <;> by_cases h2 : n ≤ hi
  all_goals
    first | rw [decide_eq_true (⟨h1, h2⟩ : lo ≤ n ∧ n ≤ hi)] | rw [decide_eq_false (fun h : lo ≤ n ∧ n ≤ hi => by omega)]
    go_enter Tryz.func72, Tryz.ntmps72
    go_wp2
    go_ret
    exact ⟨rfl, rfl⟩
theorem jCur_any (n : Int) (w : World) :
    Calls Tryz.prog 73 #[.int .i64 n] w fun e w' => e = .returned (.bool (decide (1 ≤ n ∧ n ≤ 8))) ∧ w' = w := by
  have H := hideS fun w => jIn_any n 1 8 w
  generalize decide (1 ≤ n ∧ n ≤ 8) = b at *
  go_enter Tryz.func73, Tryz.ntmps73
  go_wp2_with (go_at_call 72; refine (H.out _).mono ?_; rintro e w' ⟨rfl, rfl⟩)
  go_ret
  exact ⟨rfl, rfl⟩
set_option maxHeartbeats 800000 in
theorem jNum_any (x : Nat) (w : World) (hx : U64 x) :
    Calls Tryz.prog 19 #[.float .f64 x] w fun e w' => e = .returned (.bool (finB x)) ∧ w' = w := by
  have H1 := hideS fun w => isNaN_math x w hx
  cases hn : nanB (x : Int)
  · rw [hn] at H1
    have H2 := hideS fun w => isInf_both x _ w hx (inf_gt hn)
    generalize finB x = b at *
    clear hn hx
    cases b
    all_goals
      go_enter Tryz.func19, Tryz.ntmps19
      go_wp2_with fail
      refine (H1.out _).mono ?_
      rintro e w' ⟨rfl, rfl⟩
      go_wp2_with fail
      refine (H2.out _).mono ?_
      rintro e w' ⟨rfl, rfl⟩
      go_wp2_with fail
      go_ret
      exact ⟨rfl, rfl⟩
  · rw [hn] at H1
    rw [fin_nan hn]
    clear hn hx
    go_enter Tryz.func19, Tryz.ntmps19
    go_wp2_with fail
    refine (H1.out _).mono ?_
    rintro e w' ⟨rfl, rfl⟩
    go_wp2_with fail
    go_ret
    exact ⟨rfl, rfl⟩

def badF (f : Flw) : Int := if ¬ (0 ≤ f.day ∧ f.day ≤ 109572) then 51 else if finB f.am = false then 91 else if ¬ (1 ≤ f.cur ∧ f.cur ≤ 8) then 140 else 0
inductive ChkF (l : List Flw) : Int → Int → Prop
  | many (h : 4096 < l.length) : ChkF l 81 0
  | fine (hl : l.length ≤ 4096) (h : ∀ i < l.length, badF (l.getD i flw0) = 0) : ChkF l 0 0
  | bad (hl : l.length ≤ 4096) (k : Nat) (hk : k < l.length) (e : Int) (he : badF (l.getD k flw0) = e) (h0 : e ≠ 0) (h : ∀ i < k, badF (l.getD i flw0) = 0) : ChkF l e k
theorem chkF_from (l : List Flw) : ∀ n, (∀ i < n, badF (l.getD i flw0) = 0) ∨ ∃ k < n, badF (l.getD k flw0) ≠ 0 ∧ ∀ i < k, badF (l.getD i flw0) = 0
  | 0 => Or.inl (fun i hi => by omega)
  | n + 1 => by
    rcases chkF_from l n with h | ⟨k, hk, h0, h⟩
    · by_cases c : badF (l.getD n flw0) = 0
      · refine Or.inl (fun i hi => ?_)
        by_cases d : i < n
        · exact h i d
        · obtain rfl : i = n := by omega
          exact c
      · exact Or.inr ⟨n, by omega, c, h⟩
    · exact Or.inr ⟨k, by omega, h0, h⟩
theorem chkF_ex (l : List Flw) : ∃ e k, ChkF l e k := by
  by_cases hl : 4096 < l.length
  · exact ⟨_, _, .many hl⟩
  · rcases chkF_from l l.length with h | ⟨k, hk, h0, h⟩
    · exact ⟨0, 0, .fine (by omega) h⟩
    · exact ⟨_, _, .bad (by omega) k hk _ rfl h0 h⟩
theorem chkF_unique {l : List Flw} {e e' k k' : Int} (h : ChkF l e k) (h' : ChkF l e' k') : e = e' ∧ k = k' := by
  cases h with
  | many h => cases h' with
    | many _ => exact ⟨rfl, rfl⟩
    | fine hl _ => omega
    | bad hl => omega
  | fine hl h => cases h' with
    | many h' => omega
    | fine _ _ => exact ⟨rfl, rfl⟩
    | bad _ k' hk' _ he' h0' _ => exact absurd (he'.symm.trans (h k' hk')) h0'
  | bad hl k hk _ he h0 h => cases h' with
    | many h' => omega
    | fine _ h' => exact absurd (he.symm.trans (h' k hk)) h0
    | bad _ k' hk' _ he' h0' h' =>
      rcases Nat.lt_trichotomy k k' with c | c | c
      · exact absurd (he.symm.trans (h' k c)) h0
      · subst c; exact ⟨he.symm.trans he', rfl⟩
      · exact absurd (he'.symm.trans (h k' c)) h0'
def FitJ (l : List Flw) : Prop := ∀ i, (l.getD i flw0).am < 18446744073709551616

theorem set_blockJ {w : World} {g o : Nat} {cs : Array Value} {t : TypeId} (v : Value) (h : w.heap[g]? = some (.cells cs t (0, 0))) : (w.setCell ⟨g, o, none⟩ v).heap[g]? = some (.cells (cs.setIfInBounds o v) t (0, 0)) := by
  rw [Go.Sort.setCell_eq]
  simp [Go.Sort.mapBlock, Array.getElem?_modify, h, Go.Sort.onCells]
theorem store_flj (a : Addr) (x : Nat) (m : Mode) (w : World) : (store a (.float .f64 x) m).run Tryz.prog w = stored Tryz.prog w a (.float .f64 x) m := run_store Tryz.prog w a _ m rfl
def zeroF : Obj := .cells #[.int .i64 0, .float .f64 0, .int .i64 0] 29
def setF (w : World) (g : Nat) (f : Flw) : World := ((w.setCell ⟨g, 0, none⟩ (.int .i64 f.day)).setCell ⟨g, 1, none⟩ (.float .f64 f.am)).setCell ⟨g, 2, none⟩ (.int .i64 f.cur)
theorem zeroF_cells (w : World) : ((w.alloc zeroF).cell? ⟨w.heap.size, 0, none⟩ = some (.int .i64 0) ∧ (w.alloc zeroF).cell? ⟨w.heap.size, 1, none⟩ = some (.float .f64 0) ∧ (w.alloc zeroF).cell? ⟨w.heap.size, 2, none⟩ = some (.int .i64 0)) ∧ ∀ i, (w.alloc zeroF).frozen? ⟨w.heap.size, i, none⟩ = false := by
  have h := heap_alloc_new w zeroF
  unfold zeroF at h
  refine ⟨⟨by unfold zeroF; simp, by unfold zeroF; simp, by unfold zeroF; simp⟩, fun i => frozen_of_row _ _ i _ _ h⟩
structure FBx (w : World) (f : Flw) (wr : World) : Prop where
  t0 : wr.cell? ⟨w.heap.size, 0, none⟩ = some (.int .i64 f.day)
  t1 : wr.cell? ⟨w.heap.size, 1, none⟩ = some (.float .f64 f.am)
  t2 : wr.cell? ⟨w.heap.size, 2, none⟩ = some (.int .i64 f.cur)
  fz : ∀ i, wr.frozen? ⟨w.heap.size, i, none⟩ = false
  bl : Below w.heap.size w wr
  lt : w.heap.size < wr.heap.size
theorem FBx.step {w wr w' : World} {f : Flw} (h : FBx w f wr) (hb : Below wr.heap.size wr w') : FBx w f w' :=
  ⟨(hb.cell (p := ⟨w.heap.size, 0, none⟩) h.lt).trans h.t0, (hb.cell (p := ⟨w.heap.size, 1, none⟩) h.lt).trans h.t1, (hb.cell (p := ⟨w.heap.size, 2, none⟩) h.lt).trans h.t2, fun i => (hb.frozen (p := ⟨w.heap.size, i, none⟩) h.lt).trans (h.fz i), h.bl.trans (hb.mono h.bl.size), Nat.lt_of_lt_of_le h.lt hb.size⟩
theorem fbx_of {w wr : World} {f : Flw} (h : wr.heap[w.heap.size]? = some (.cells #[.int .i64 f.day, .float .f64 f.am, .int .i64 f.cur] 29)) (hb : Below w.heap.size w wr) : FBx w f wr := by
  refine ⟨?_, ?_, ?_, fun i => frozen_of_row _ _ i _ _ h, hb, (Array.getElem?_eq_some_iff.1 h).1⟩
  all_goals
    simp only [World.cell?, h, Option.isSome_none, Bool.false_eq_true, if_false]
    rfl
theorem setF_blk (w : World) (f : Flw) : (setF (w.alloc zeroF) w.heap.size f).heap[w.heap.size]? = some (.cells #[.int .i64 f.day, .float .f64 f.am, .int .i64 f.cur] 29) := by
  have h := heap_alloc_new w zeroF
  unfold zeroF at h
  exact set_blockJ _ (set_blockJ _ (set_blockJ _ h))
theorem setF_box (w : World) (f : Flw) : FBx w f (setF (w.alloc zeroF) w.heap.size f) :=
  fbx_of (setF_blk w f) ((((Below.refl _ w).alloc (Nat.le_refl _) _).setCell (p := ⟨w.heap.size, 0, none⟩) (Nat.le_refl _) _).setCell (p := ⟨w.heap.size, 1, none⟩) (Nat.le_refl _) _ |>.setCell (p := ⟨w.heap.size, 2, none⟩) (Nat.le_refl _) _)
theorem fbx_at (w : World) (f : Flw) : FBx w f (w.alloc (.cells #[.int .i64 f.day, .float .f64 f.am, .int .i64 f.cur] 29)) :=
  fbx_of (heap_alloc_new w _) ((Below.refl _ _).alloc (Nat.le_refl _) _)

set_option maxHeartbeats 1600000 in
theorem jChk_any (f : Flw) (w : World) (hx : f.am < 18446744073709551616) :
    Calls Tryz.prog 40 #[.agg #[.int .i64 f.day, .float .f64 f.am, .int .i64 f.cur]] w fun e w' => e = .returned (.int .i64 (badF f)) ∧ Below w.heap.size w w' := by
  obtain ⟨day, am, cur⟩ := f
  have H0 := hideS (fbx_at w ⟨day, am, cur⟩)
  have HI := hideS fun wx => jIn_any day 0 109572 wx
  have HN := hideS fun wx => jNum_any am wx (by unfold U64; dsimp only at hx; omega)
  have HC := hideS fun wx => jCur_any cur wx
  obtain ⟨E, hE⟩ : ∃ E, badF ⟨day, am, cur⟩ = E := ⟨_, rfl⟩
  have HE : Hid ((if ¬ (0 ≤ day ∧ day ≤ 109572) then 51 else if finB am = false then 91 else if ¬ (1 ≤ cur ∧ cur ≤ 8) then 140 else 0) = E) := hE
  rw [hE]
  clear hE hx
  dsimp only at *
  by_cases h1 : 0 ≤ day ∧ day ≤ 109572
  · rw [decide_eq_true h1] at HI
    rw [if_neg (not_not_intro h1)] at HE
    cases h2 : finB am
    · rw [h2] at HN HE
      have HE2 : Hid (E = 91) := HE.out.symm
      rw [HE2.out]
      clear HE HE2 HC h1 h2
      go_enter Tryz.func40, Tryz.ntmps40
      go_wp2_with (first | (go_at_call 72; refine (HI.out _).mono ?_; rintro e w' ⟨rfl, rfl⟩) | (go_at_call 19; refine (HN.out _).mono ?_; rintro e w' ⟨rfl, rfl⟩))
      go_ret
      exact ⟨rfl, H0.out.bl⟩
    · rw [h2] at HN HE
      rw [if_neg (by simp)] at HE
      by_cases h3 : 1 ≤ cur ∧ cur ≤ 8
      · rw [decide_eq_true h3] at HC
        have HE2 : Hid (E = 0) := by have := HE.out; rw [if_neg (not_not_intro h3)] at this; exact this.symm
        rw [HE2.out]
        clear HE HE2 h1 h2 h3
        go_enter Tryz.func40, Tryz.ntmps40
        go_wp2_with (first | (go_at_call 72; refine (HI.out _).mono ?_; rintro e w' ⟨rfl, rfl⟩) | (go_at_call 19; refine (HN.out _).mono ?_; rintro e w' ⟨rfl, rfl⟩) | (go_at_call 73; refine (HC.out _).mono ?_; rintro e w' ⟨rfl, rfl⟩))
        go_ret
        exact ⟨rfl, H0.out.bl⟩
      · rw [decide_eq_false h3] at HC
        have HE2 : Hid (E = 140) := by have := HE.out; rw [if_pos h3] at this; exact this.symm
        rw [HE2.out]
        clear HE HE2 h1 h2 h3
        go_enter Tryz.func40, Tryz.ntmps40
        go_wp2_with (first | (go_at_call 72; refine (HI.out _).mono ?_; rintro e w' ⟨rfl, rfl⟩) | (go_at_call 19; refine (HN.out _).mono ?_; rintro e w' ⟨rfl, rfl⟩) | (go_at_call 73; refine (HC.out _).mono ?_; rintro e w' ⟨rfl, rfl⟩))
        go_ret
        exact ⟨rfl, H0.out.bl⟩
  · rw [decide_eq_false h1] at HI
    have HE2 : Hid (E = 51) := by have := HE.out; rw [if_pos h1] at this; exact this.symm
    rw [HE2.out]
    clear HE HE2 HC HN h1
    go_enter Tryz.func40, Tryz.ntmps40
    go_wp2_with (go_at_call 72; refine (HI.out _).mono ?_; rintro e w' ⟨rfl, rfl⟩)
    go_ret
    exact ⟨rfl, H0.out.bl⟩

set_option maxRecDepth 20000 in
set_option maxHeartbeats 3200000 in
theorem jCheck_any (l : List Flw) (p : Option Addr) (b off c N : Nat) (E K : Int) (w : World) (hl : JSrc aF w p b off l) (hN : l.length = N) (hc : N ≤ 9223372036854775807) (hf : FitJ l) (hE : ChkF l E K) :
    Calls Tryz.prog 21 #[.slice p N c] w fun e w' => e = .returned (.tuple #[.int .i64 E, .int .i64 K]) ∧ Below w.heap.size w w' := by
  have HN := hideS hN
  have HE := hideS hE
  have HQ := hideS hl
  have HF := hideS hf
  by_cases hm : 4096 < N
  · obtain ⟨rfl, rfl⟩ := chkF_unique hE (.many (by omega))
    clear hE hl hN hf
    go_enter Tryz.func21, Tryz.ntmps21
    go_wp2
    go_ret2
    exact ⟨rfl, Below.refl _ _⟩
  · have HP : Hid (0 < N → p = some ⟨b, off, none⟩) := fun h => hl.at_ (by omega)
    clear hE hl hN hf
    go_enter Tryz.func21, Tryz.ntmps21
    go_wp2_with fail
    go_loopw [12] (fun i wr => ∃ k : Nat, k ≤ N ∧ i = .int .i64 k ∧ Hid (∀ j < k, badF (l.getD j flw0) = 0) ∧ Hid (Below w.heap.size w wr)) (fun i _ => N - (intOf i).toNat)
    case atStart => exact ⟨0, Nat.zero_le _, rfl, fun j hj => by omega, Below.refl _ _⟩
    case round =>
      obtain ⟨k, hk, rfl, HFi, HB⟩ := hrel
      by_cases hlt : k < N
      · obtain rfl := HP.out (by omega)
        obtain ⟨c0, c1, c2⟩ := (HQ.out.below HB.out).cell k (by rw [HN.out]; exact hlt)
        have HFt := hideS fun wx => jChk_any (l.getD k flw0) wx (HF.out k)
        obtain ⟨F, hF⟩ : ∃ F, badF (l.getD k flw0) = F := ⟨_, rfl⟩
        rw [hF] at HFt
        have HFe := hideS hF
        have HQB := hideS (setF_box wr (l.getD k flw0))
        obtain ⟨⟨z0, z1, z2⟩, fz⟩ := zeroF_cells wr
        have y0 := fz 0
        have y1 := fz 1
        have y2 := fz 2
        clear fz hF
        obtain ⟨q, hq⟩ : ∃ q, l.getD k flw0 = q := ⟨_, rfl⟩
        rw [hq] at HFt HQB c0 c1 c2
        clear hq
        obtain ⟨qd, qa, qc⟩ := q
        dsimp only [aF] at *
        obtain ⟨w2, hw2⟩ : ∃ w2, wr.alloc zeroF = w2 := ⟨_, rfl⟩
        rw [hw2] at z0 z1 z2 y0 y1 y2 HQB
        unfold zeroF at hw2
        obtain ⟨w3, hw3⟩ : ∃ w3, setF w2 wr.heap.size ⟨qd, qa, qc⟩ = w3 := ⟨_, rfl⟩
        rw [hw3] at HQB
        unfold setF at hw3
        dsimp only at hw3
        have t0 := HQB.out.t0
        have t1 := HQB.out.t1
        have t2 := HQB.out.t2
        dsimp only at t0 t1 t2
        have hst := store_flj
        by_cases hz : F = 0
        · have HFi2 : Hid (∀ j < k + 1, badF (l.getD j flw0) = 0) := fun j hj => by
            by_cases c : j < k
            · exact HFi.out j c
            · obtain rfl : j = k := by omega
              rw [HFe.out]; exact hz
          subst hz
          go_wp2_with fail
          clear hst hw2 hw3 z0 z1 z2 y0 y1 y2 t0 t1 t2
          refine (HFt.out _).mono ?_
          rintro e w4 ⟨rfl, hb2⟩
          have HB2 := hideS (HB.out.trans ((HQB.out.step hb2).bl.mono HB.out.size))
          clear hb2 c0 c1 c2
          go_wp2_with fail
          go_roundw
          case rel => exact ⟨k + 1, by omega, by simp, HFi2, HB2⟩
          case measure => simp [intOf]; omega
        · have hEK : F = E ∧ (k : Int) = K := chkF_unique (.bad (by rw [HN.out]; omega) k (by rw [HN.out]; exact hlt) F HFe.out hz HFi.out) HE.out
          have HEK := hideS hEK
          have d7 : (F != 0) = true := bne_iff_ne.2 hz
          clear hz hEK
          go_wp2_with fail
          clear hst hw2 hw3 z0 z1 z2 y0 y1 y2 t0 t1 t2
          refine (HFt.out _).mono ?_
          rintro e w4 ⟨rfl, hb2⟩
          have HB2 := hideS (HB.out.trans ((HQB.out.step hb2).bl.mono HB.out.size))
          clear hb2
          go_wp2_with fail
          go_ret2
          obtain ⟨rfl, rfl⟩ := HEK.out
          exact ⟨rfl, HB2.out⟩
      · obtain rfl : k = N := by omega
        have hEK : (0 : Int) = E ∧ (0 : Int) = K := chkF_unique (.fine (by rw [HN.out]; omega) (by rw [HN.out]; exact HFi.out)) HE.out
        have HEK := hideS hEK
        clear hEK
        go_wp2_with fail
        go_ret2
        obtain ⟨rfl, rfl⟩ := HEK.out
        exact ⟨rfl, HB.out⟩
end Go.Proofs.YteglnchcnacjlaaGreat
namespace Go.Proofs.YteglnchcnacjlaaGreat
open Go.RowKit

def mapN (g : Flw → Flw) (l : List Flw) (k : Nat) : List Flw := (List.range k).map fun i => g (l.getD i flw0)
theorem mapN_len (g : Flw → Flw) (l : List Flw) (k : Nat) : (mapN g l k).length = k := by unfold mapN; simp
theorem mapN_succ (g : Flw → Flw) (l : List Flw) (k : Nat) : mapN g l (k + 1) = mapN g l k ++ [g (l.getD k flw0)] := by unfold mapN; rw [List.range_succ, List.map_append]; rfl
theorem mapN_all (g : Flw → Flw) (l : List Flw) : mapN g l l.length = l.map g := by
  apply List.ext_getElem
  · simp [mapN]
  · intro i h1 h2
    have : i < l.length := by simpa using h2
    simp [mapN, List.getD, this]
def giveF (f : Flw) : Flw := ⟨f.day, Op.negFloat .f64 f.am, f.cur⟩
theorem run_negJ (w : World) (x : Nat) : (Op.unary .neg (.float .f64 x)).run Tryz.prog w = .ok (.float .f64 (Op.negFloat .f64 x)) w := rfl
theorem FBx.am {w wr : World} {f : Flw} (h : wr.heap[w.heap.size]? = some (.cells #[.int .i64 f.day, .float .f64 f.am, .int .i64 f.cur] 29)) (hb : Below w.heap.size w wr) (a : Nat) : FBx w ⟨f.day, a, f.cur⟩ (wr.setCell ⟨w.heap.size, 1, none⟩ (.float .f64 a)) :=
  fbx_of (set_blockJ _ h) (hb.setCell (p := ⟨w.heap.size, 1, none⟩) (Nat.le_refl _) _)
theorem fcells_new (w : World) (f : Flw) : FCells aF (w.alloc (.cells #[.int .i64 f.day, .float .f64 f.am, .int .i64 f.cur] 29)) w.heap.size 0 f :=
  ⟨by simp, by simp [aF], by simp⟩
theorem wpList_append_f1 (w : World) {ops : Array Oper} {rest : List Oper} {o : Oper} {a : Act} {Q : Exit → Act → World → Prop} (hgd : o.guard = none) (s x : Operand)
    (ho : o.op = .call { callee := .builtin .append, args := #[s, x], argTypes := #[22, 22] })
    (base : Nat) (v : Value) (n : Nat) (xs : List Flw) (hs : a.eval s = v) (hown : w.ownsRow base 29 3 v n (rowF aF xs)) (hb : base ≤ w.heap.size)
    (g : Nat) (z : Flw) (hx : a.eval x = .slice (some ⟨g, 0, none⟩) 1 1) (hc : FCells aF w g 0 z) (hn : (n + 1) * 24 ≤ 140737488355328)
    (h : ∀ v' w', w'.ownsRow base 29 3 v' (n + 1) (rowF aF (xs ++ [z])) → Below base w w' → wpList Tryz.prog ops Q rest (a.put o.dst v') w') : wpList Tryz.prog ops Q (o :: rest) a w :=
  wpList_append_fl aF (fun _ => rfl) 22 29 Tryz.underlying22 info_fl rfl w hgd s x ho base v n xs hs hown g 0 1 [z] hx (fun i hi => by
    obtain rfl : i = 0 := by simp at hi; omega
    exact hc) hn hb (fun v' w' h1 h2 => h v' w' h1 (fgrown_below hown h2 hb))

set_option maxRecDepth 20000 in
set_option maxHeartbeats 3200000 in
theorem jGive_any (l : List Flw) (p : Option Addr) (b off c N : Nat) (w : World) (hl : JSrc aF w p b off l) (hN : l.length = N) (hc : N * 24 ≤ 140737488355328) :
    Calls Tryz.prog 10 #[.slice p N c] w fun e w' => (∃ u, e = .returned u ∧ w'.ownsRow w.heap.size 29 3 u N (rowF aF (l.map giveF))) ∧ Below w.heap.size w w' := by
  have HN := hideS hN
  have HQ := hideS hl
  have HP : Hid (0 < N → p = some ⟨b, off, none⟩) := fun h => hl.at_ (by omega)
  have HC := hideS hc
  have hc2 : N ≤ 140737488355328 := by omega
  have HO0 := hideS (fown_nil aF w w.heap.size 29)
  clear hl hN hc
  go_enter Tryz.func10, Tryz.ntmps10
  go_wp2_with fail
  go_loopw [3, 8] (fun g i wr => ∃ (k : Nat) (q : Option Addr) (cp : Nat), k ≤ N ∧ i = .int .i64 k ∧ g = .slice q k cp ∧ Hid (wr.ownsRow w.heap.size 29 3 (.slice q k cp) k (rowF aF (mapN giveF l k))) ∧ Hid (Below w.heap.size w wr)) (fun _ i _ => N - (intOf i).toNat)
  case atStart => exact ⟨0, none, 0, Nat.zero_le _, rfl, rfl, HO0, Below.refl _ _⟩
  case round =>
    clear HO0
    obtain ⟨k, q, cp, hk, rfl, rfl, HO, HB⟩ := hrel
    by_cases hlt : k < N
    · obtain rfl := HP.out (by omega)
      obtain ⟨c0, c1, c2⟩ := (HQ.out.below HB.out).cell k (by rw [HN.out]; exact hlt)
      have HS : Hid (mapN giveF l (k + 1) = mapN giveF l k ++ [⟨(l.getD k flw0).day, Op.negFloat .f64 (l.getD k flw0).am, (l.getD k flw0).cur⟩]) := mapN_succ giveF l k
      have h3 := setF_blk wr (l.getD k flw0)
      have HQB := hideS (setF_box wr (l.getD k flw0))
      have HQ2 := hideS (FBx.am h3 (setF_box wr (l.getD k flw0)).bl (Op.negFloat .f64 (l.getD k flw0).am))
      obtain ⟨⟨z0, z1, z2⟩, fz⟩ := zeroF_cells wr
      have y0 := fz 0
      have y1 := fz 1
      have y2 := fz 2
      clear fz h3
      obtain ⟨f, hf⟩ : ∃ f, l.getD k flw0 = f := ⟨_, rfl⟩
      rw [hf] at HS HQB HQ2 c0 c1 c2
      clear hf
      obtain ⟨qd, qa, qc⟩ := f
      dsimp only [aF] at *
      obtain ⟨w2, hw2⟩ : ∃ w2, wr.alloc zeroF = w2 := ⟨_, rfl⟩
      rw [hw2] at z0 z1 z2 y0 y1 y2 HQB HQ2
      unfold zeroF at hw2
      obtain ⟨w3, hw3⟩ : ∃ w3, setF w2 wr.heap.size ⟨qd, qa, qc⟩ = w3 := ⟨_, rfl⟩
      rw [hw3] at HQB HQ2
      unfold setF at hw3
      dsimp only at hw3
      have t0 := HQB.out.t0
      have t1 := HQB.out.t1
      have t2 := HQB.out.t2
      have x1 := HQB.out.fz 1
      dsimp only at t0 t1 t2
      have hng := run_negJ
      obtain ⟨w4, hw4⟩ : ∃ w4, w3.setCell ⟨wr.heap.size, 1, none⟩ (.float .f64 (Op.negFloat .f64 qa)) = w4 := ⟨_, rfl⟩
      rw [hw4] at HQ2
      have s0 := HQ2.out.t0
      have s1 := HQ2.out.t1
      have s2 := HQ2.out.t2
      dsimp only at s0 s1 s2
      have HBw := hideS (HQ2.out.bl.trans (((Below.refl w4.heap.size w4).alloc (Nat.le_refl _) (.cells #[.int .i64 qd, .float .f64 (Op.negFloat .f64 qa), .int .i64 qc] 29)).mono HQ2.out.bl.size))
      have HO4 := hideS (fown_below HO.out HBw.out)
      have HFc := hideS (fcells_new w4 ⟨qd, Op.negFloat .f64 qa, qc⟩)
      have HB4 := hideS (HB.out.trans (HBw.out.mono HB.out.size))
      have hst := store_flj
      go_wp2_with (at_builtin; refine wpList_append_f1 _ rfl (.tmp 16) (.tmp 18) rfl w.heap.size (.slice q k cp) k (mapN giveF l k) rfl HO4.out HB4.out.size w4.heap.size ⟨qd, Op.negFloat .f64 qa, qc⟩ rfl HFc.out (by have := HC.out; omega) ?_; intro v5 w5 ho5 hb5; rw [← HS.out] at ho5; have HB5 := hideS (HB4.out.trans hb5); obtain ⟨q5, g5, k5, hv5, _, _, _, hm5⟩ := fown_src ho5 (mapN_len _ _ _); subst hv5; have HO5 := hideS ho5; clear ho5 hb5)
      go_roundw
      case rel => exact ⟨k + 1, q5, k5, by omega, by go_num, rfl, HO5, HB5⟩
      case measure => simp [intOf]; omega
    · obtain rfl : k = N := by omega
      go_wp2_with fail
      go_ret
      refine ⟨⟨_, rfl, ?_⟩, HB.out⟩
      have := HO.out
      rw [← HN.out, mapN_all, HN.out] at this
      exact this
def winN (a b : Int) (l : List Flw) : Nat → List Flw
  | 0 => []
  | k + 1 => if a ≤ (l.getD k flw0).day ∧ (l.getD k flw0).day < b then winN a b l k ++ [l.getD k flw0] else winN a b l k
theorem winN_len (a b : Int) (l : List Flw) : ∀ k, (winN a b l k).length ≤ k
  | 0 => Nat.le_refl _
  | k + 1 => by
    have := winN_len a b l k
    unfold winN
    split
    · rw [List.length_append]; simp; omega
    · omega
def winF (a b : Int) (f : Flw) : Bool := decide (a ≤ f.day) && decide (f.day < b)
theorem winN_take (a b : Int) (l : List Flw) : ∀ k, k ≤ l.length → winN a b l k = (l.take k).filter (winF a b)
  | 0, _ => rfl
  | k + 1, h => by
    have hk : k < l.length := by omega
    rw [List.take_succ_eq_append_getElem hk, List.filter_append, ← winN_take a b l k (by omega)]
    have e : l.getD k flw0 = l[k] := by simp [List.getD, hk]
    show (if a ≤ (l.getD k flw0).day ∧ (l.getD k flw0).day < b then winN a b l k ++ [l.getD k flw0] else winN a b l k) = _
    rw [e]
    by_cases c : a ≤ l[k].day ∧ l[k].day < b
    · rw [if_pos c, List.filter_cons_of_pos (by simp [winF, c.1, c.2]), List.filter_nil]
    · rw [if_neg c, List.filter_cons_of_neg (by simp [winF]; omega), List.filter_nil, List.append_nil]
theorem winN_all (a b : Int) (l : List Flw) : winN a b l l.length = l.filter (winF a b) := by rw [winN_take a b l _ (Nat.le_refl _), List.take_length]

set_option maxRecDepth 20000 in
set_option maxHeartbeats 3200000 in
theorem jWindow_any (l : List Flw) (p : Option Addr) (b off c N : Nat) (x y : Int) (w : World) (hl : JSrc aF w p b off l) (hN : l.length = N) (hc : N * 24 ≤ 140737488355328) :
    Calls Tryz.prog 11 #[.slice p N c, .int .i64 x, .int .i64 y] w fun e w' => (∃ u, e = .returned u ∧ w'.ownsRow w.heap.size 29 3 u (l.filter (winF x y)).length (rowF aF (l.filter (winF x y)))) ∧ Below w.heap.size w w' := by
  have HN := hideS hN
  have HQ := hideS hl
  have HP : Hid (0 < N → p = some ⟨b, off, none⟩) := fun h => hl.at_ (by omega)
  have HC := hideS hc
  have hc2 : N ≤ 140737488355328 := by omega
  have HO0 := hideS (fown_nil aF w w.heap.size 29)
  have HR : Hid (winN x y l N = l.filter (winF x y)) := by show _ = _; rw [← hN]; exact winN_all x y l
  rw [← HR.out]
  clear hl hN hc HR
  go_enter Tryz.func11, Tryz.ntmps11
  go_wp2_with fail
  go_loopw [7, 12] (fun g i wr => ∃ (k m : Nat) (q : Option Addr) (cp : Nat), k ≤ N ∧ i = .int .i64 k ∧ g = .slice q m cp ∧ Hid (m = (winN x y l k).length) ∧ Hid (wr.ownsRow w.heap.size 29 3 (.slice q m cp) m (rowF aF (winN x y l k))) ∧ Hid (Below w.heap.size w wr)) (fun _ i _ => N - (intOf i).toNat)
  case atStart => exact ⟨0, 0, none, 0, Nat.zero_le _, rfl, rfl, rfl, HO0, Below.refl _ _⟩
  case round =>
    clear HO0
    obtain ⟨k, m, q, cp, hk, rfl, rfl, HM, HO, HB⟩ := hrel
    by_cases hlt : k < N
    · obtain rfl := HP.out (by omega)
      obtain ⟨c0, c1, c2⟩ := (HQ.out.below HB.out).cell k (by rw [HN.out]; exact hlt)
      have HL := hideS (winN_len x y l k)
      have HS : Hid (winN x y l (k + 1) = if x ≤ (l.getD k flw0).day ∧ (l.getD k flw0).day < y then winN x y l k ++ [l.getD k flw0] else winN x y l k) := rfl
      have HQB := hideS (setF_box wr (l.getD k flw0))
      obtain ⟨⟨z0, z1, z2⟩, fz⟩ := zeroF_cells wr
      have y0 := fz 0
      have y1 := fz 1
      have y2 := fz 2
      clear fz
      obtain ⟨f, hf⟩ : ∃ f, l.getD k flw0 = f := ⟨_, rfl⟩
      rw [hf] at HS HQB c0 c1 c2
      clear hf
      obtain ⟨qd, qa, qc⟩ := f
      dsimp only [aF] at *
      obtain ⟨w2, hw2⟩ : ∃ w2, wr.alloc zeroF = w2 := ⟨_, rfl⟩
      rw [hw2] at z0 z1 z2 y0 y1 y2 HQB
      unfold zeroF at hw2
      obtain ⟨w3, hw3⟩ : ∃ w3, setF w2 wr.heap.size ⟨qd, qa, qc⟩ = w3 := ⟨_, rfl⟩
      rw [hw3] at HQB
      unfold setF at hw3
      dsimp only at hw3
      have t0 := HQB.out.t0
      have t1 := HQB.out.t1
      have t2 := HQB.out.t2
      dsimp only at t0 t1 t2
      have hst := store_flj
      by_cases h1 : x ≤ qd
      · by_cases h2 : qd < y
        · rw [if_pos ⟨h1, h2⟩] at HS
          have HBw := hideS (HQB.out.bl.trans (((Below.refl w3.heap.size w3).alloc (Nat.le_refl _) (.cells #[.int .i64 qd, .float .f64 qa, .int .i64 qc] 29)).mono HQB.out.bl.size))
          have HO4 := hideS (fown_below HO.out HBw.out)
          have HFc := hideS (fcells_new w3 ⟨qd, qa, qc⟩)
          have HB4 := hideS (HB.out.trans (HBw.out.mono HB.out.size))
          have HLn : Hid ((winN x y l (k + 1)).length = m + 1) := by show _ = _; rw [HS.out, List.length_append, ← HM.out]; rfl
          go_wp2_with (at_builtin; refine wpList_append_f1 _ rfl (.tmp 26) (.tmp 28) rfl w.heap.size (.slice q m cp) m (winN x y l k) rfl HO4.out HB4.out.size w3.heap.size ⟨qd, qa, qc⟩ rfl HFc.out (by have := HC.out; have := HL.out; have := HM.out; omega) ?_; intro v5 w5 ho5 hb5; rw [← HS.out] at ho5; have HB5 := hideS (HB4.out.trans hb5); obtain ⟨q5, g5, k5, hv5, _, _, _, hm5⟩ := fown_src ho5 HLn.out; subst hv5; have HO5 := hideS ho5; clear ho5 hb5)
          go_roundw
          case rel => exact ⟨k + 1, m + 1, q5, k5, by omega, by go_num, rfl, HLn.out.symm, HO5, HB5⟩
          case measure => simp [intOf]; omega
        · rw [if_neg (fun h => h2 h.2)] at HS
          have HO4 := hideS (fown_below HO.out HQB.out.bl)
          rw [← HS.out] at HO4 HM
          have HB4 := hideS (HB.out.trans (HQB.out.bl.mono HB.out.size))
          go_wp2_with fail
          go_roundw
          case rel => exact ⟨k + 1, m, q, cp, by omega, by go_num, rfl, HM, HO4, HB4⟩
          case measure => simp [intOf]; omega
      · rw [if_neg (fun h => h1 h.1)] at HS
        have HO4 := hideS (fown_below HO.out HQB.out.bl)
        rw [← HS.out] at HO4 HM
        have HB4 := hideS (HB.out.trans (HQB.out.bl.mono HB.out.size))
        go_wp2_with fail
        go_roundw
        case rel => exact ⟨k + 1, m, q, cp, by omega, by go_num, rfl, HM, HO4, HB4⟩
        case measure => simp [intOf]; omega
    · obtain rfl : k = N := by omega
      go_wp2_with fail
      go_ret
      refine ⟨⟨_, rfl, ?_⟩, HB.out⟩
      rw [← HM.out]
      exact HO.out
end Go.Proofs.YteglnchcnacjlaaGreat
namespace Go.Proofs.YteglnchcnacjlaaGreat
open Go.RowKit

theorem below_drewJ {B : Nat} {w w1 : World} (hb : Below B w w1) (q : Nat) : Below B w (w1.drewN q) := ⟨hb.os, hb.tape, hb.output, hb.size, hb.block⟩
def mapO (g : Flw → Option Flw) (l : List Flw) : Nat → Option (List Flw)
  | 0 => some []
  | k + 1 => (mapO g l k).bind fun m => (g (l.getD k flw0)).map fun f => m ++ [f]
theorem mapO_succ {g : Flw → Option Flw} {l : List Flw} {k : Nat} {m : List Flw} {f : Flw} (h : mapO g l k = some m) (hf : g (l.getD k flw0) = some f) : mapO g l (k + 1) = some (m ++ [f]) := by
  show (mapO g l k).bind _ = _; rw [h]; show (g (l.getD k flw0)).map _ = _; rw [hf]; rfl
theorem mapO_stop {g : Flw → Option Flw} {l : List Flw} {k : Nat} (hf : g (l.getD k flw0) = none) : ∀ n, k < n → mapO g l n = none
  | 0, h => by omega
  | n + 1, h => by
    show (mapO g l n).bind _ = _
    by_cases c : k < n
    · rw [mapO_stop hf n c]; rfl
    · obtain rfl : k = n := by omega
      rw [hf]; cases mapO g l k <;> rfl
theorem mapO_len {g : Flw → Option Flw} {l : List Flw} : ∀ {k : Nat} {m : List Flw}, mapO g l k = some m → m.length = k
  | 0, m, h => by obtain rfl : [] = m := by simpa [mapO] using h
                  rfl
  | k + 1, m, h => by
    unfold mapO at h
    cases hm : mapO g l k with
    | none => rw [hm] at h; cases h
    | some m' =>
      rw [hm] at h
      cases hf : g (l.getD k flw0) with
      | none => have h' : (g (l.getD k flw0)).map (fun f => m' ++ [f]) = some m := h
                rw [hf] at h'; cases h'
      | some f =>
        have h' : (g (l.getD k flw0)).map (fun f => m' ++ [f]) = some m := h
        rw [hf] at h'
        obtain rfl : m' ++ [f] = m := by simpa using h'
        rw [List.length_append, mapO_len hm]; rfl
def sclO (x : Nat) (f : Flw) : Option Flw := match floatBits .mul .f64 x f.am with
  | some r => if finB r then some ⟨f.day, r, f.cur⟩ else none
  | none => none
def LstO (mk : Nat → Value) (t : TypeId) (o : Option (List Flw)) (E : Int) (base : Nat) (e : Ending) (w' : World) : Prop :=
  (o = none ∧ e = .returned (.tuple #[.slice none 0 0, .int .i64 E])) ∨ ∃ m u, o = some m ∧ e = .returned (.tuple #[u, .int .i64 0]) ∧ w'.ownsRow base t 3 u m.length (rowF mk m)
def sclL (x : Nat) (l : List Flw) : Option (List Flw) := if finB x then mapO (sclO x) l l.length else none

set_option maxRecDepth 20000 in
set_option maxHeartbeats 3200000 in
theorem jScale_any (l : List Flw) (p : Option Addr) (b off c N x : Nat) (w : World) (hl : JSrc aF w p b off l) (hN : l.length = N) (hc : N * 24 ≤ 140737488355328) (hx : x < 18446744073709551616) (hf : FitJ l) :
    Calls Tryz.prog 7 #[.float .f64 x, .slice p N c] w fun e w' => LstO aF 29 (sclL x l) 91 w.heap.size e w' ∧ Below w.heap.size w w' := by
  have HN := hideS hN
  have HQ := hideS hl
  have HP : Hid (0 < N → p = some ⟨b, off, none⟩) := fun h => hl.at_ (by omega)
  have HC := hideS hc
  have HFt := hideS hf
  have hc2 : N ≤ 140737488355328 := by omega
  have HO0 := hideS (fown_nil aF w w.heap.size 29)
  have HNx := hideS fun wx => jNum_any x wx (by unfold U64; omega)
  have HR : Hid (sclL x l = if finB x then mapO (sclO x) l N else none) := by show _ = _; rw [← hN]; rfl
  rw [HR.out]
  clear hl hN hc HR hf
  cases hfx : finB x
  · rw [hfx] at HNx
    have HPost : Hid (∀ w', LstO aF 29 none 91 w.heap.size (.returned (.tuple #[.slice none 0 0, .int .i64 91])) w') := fun w' => Or.inl ⟨rfl, rfl⟩
    rw [if_neg (by simp)]
    generalize LstO aF 29 none 91 w.heap.size = Lo at *
    clear hfx HO0
    go_enter Tryz.func7, Tryz.ntmps7
    go_wp2_with fail
    refine (HNx.out _).mono ?_
    rintro e w' ⟨rfl, rfl⟩
    go_wp2_with fail
    go_ret2
    exact ⟨HPost.out _, Below.refl _ _⟩
  · rw [hfx] at HNx
    rw [if_pos rfl]
    have HPo : Hid (∀ e w', LstO aF 29 (mapO (sclO x) l N) 91 w.heap.size e w' → LstO aF 29 (mapO (sclO x) l N) 91 w.heap.size e w') := fun _ _ h => h
    obtain ⟨Lo, hLo⟩ : ∃ Lo, LstO aF 29 (mapO (sclO x) l N) 91 w.heap.size = Lo := ⟨_, rfl⟩
    rw [hLo]
    have HLo := hideS hLo
    clear hfx hLo HPo
    go_enter Tryz.func7, Tryz.ntmps7
    go_wp2_with fail
    refine (HNx.out _).mono ?_
    rintro e w' ⟨rfl, rfl⟩
    go_wp2_with fail
    go_loopw [6, 14] (fun g i wr => ∃ (k : Nat) (m : List Flw) (q : Option Addr) (cp : Nat), k ≤ N ∧ i = .int .i64 k ∧ g = .slice q k cp ∧ Hid (mapO (sclO x) l k = some m) ∧ Hid (wr.ownsRow w'.heap.size 29 3 (.slice q k cp) k (rowF aF m)) ∧ Hid (Below w'.heap.size w' wr)) (fun _ i _ => N - (intOf i).toNat)
    case atStart => exact ⟨0, [], none, 0, Nat.zero_le _, rfl, rfl, rfl, HO0, Below.refl _ _⟩
    case round =>
      clear HO0
      obtain ⟨k, m, q, cp, hk, rfl, rfl, HM, HO, HB⟩ := hrel
      by_cases hlt : k < N
      · obtain rfl := HP.out (by omega)
        obtain ⟨c0, c1, c2⟩ := (HQ.out.below HB.out).cell k (by rw [HN.out]; exact hlt)
        have HU := hideS (HFt.out k)
        have h3 := setF_blk wr (l.getD k flw0)
        have HQB := hideS (setF_box wr (l.getD k flw0))
        have HQ2 := hideS (fun q a => FBx.am (wr := (setF (wr.alloc zeroF) wr.heap.size (l.getD k flw0)).drewN q) h3 (below_drewJ (setF_box wr (l.getD k flw0)).bl q) a)
        have HSt := hideS (fun h => mapO_stop (g := sclO x) (l := l) (k := k) h N hlt)
        have HSu := hideS (fun f h => mapO_succ (f := f) HM.out h)
        have HGd : Hid (sclO x (l.getD k flw0) = match floatBits .mul .f64 x (l.getD k flw0).am with | some r => if finB r then some ⟨(l.getD k flw0).day, r, (l.getD k flw0).cur⟩ else none | none => none) := rfl
        obtain ⟨⟨z0, z1, z2⟩, fz⟩ := zeroF_cells wr
        have y0 := fz 0
        have y1 := fz 1
        have y2 := fz 2
        clear fz h3
        obtain ⟨f, hf⟩ : ∃ f, l.getD k flw0 = f := ⟨_, rfl⟩
        rw [hf] at HQB HQ2 c0 c1 c2 HU HSt HSu HGd
        clear hf
        obtain ⟨qd, qa, qc⟩ := f
        dsimp only [aF] at *
        obtain ⟨w2, hw2⟩ : ∃ w2, wr.alloc zeroF = w2 := ⟨_, rfl⟩
        rw [hw2] at z0 z1 z2 y0 y1 y2 HQB HQ2
        unfold zeroF at hw2
        obtain ⟨w3, hw3⟩ : ∃ w3, setF w2 wr.heap.size ⟨qd, qa, qc⟩ = w3 := ⟨_, rfl⟩
        rw [hw3] at HQB HQ2
        unfold setF at hw3
        dsimp only at hw3
        have t0 := HQB.out.t0
        have t1 := HQB.out.t1
        have t2 := HQB.out.t2
        have x1 := HQB.out.fz 1
        dsimp only at t0 t1 t2
        obtain ⟨r, ⟨dq, hr⟩, hag⟩ := run_op_ag .mul (Or.inr (Or.inr (Or.inl rfl))) 23 x qa w3
        have hu : r < 18446744073709551616 := by
          cases e : floatBits .mul .f64 x qa with
          | none => rw [e] at hag; exact (ag_none hag).2
          | some q => rw [e] at hag; rw [ag_some hag]; exact float_lt (Or.inr (Or.inr (Or.inl rfl))) e
        have HNr := hideS fun wx => jNum_any r wx (by unfold U64; omega)
        obtain ⟨w4, hw4⟩ : ∃ w4, (w3.drewN dq).setCell ⟨wr.heap.size, 1, none⟩ (.float .f64 r) = w4 := ⟨_, rfl⟩
        have HQ4 := hideS (HQ2.out dq r)
        rw [hw4] at HQ4
        have s0 := HQ4.out.t0
        have s1 := HQ4.out.t1
        have s2 := HQ4.out.t2
        dsimp only at s0 s1 s2
        have hst := store_flj
        cases hfr : finB r
        · rw [hfr] at HNr
          have HE : Hid (∀ wx, Lo (.returned (.tuple #[.slice none 0 0, .int .i64 91])) wx) := fun wx => by
            rw [← HLo.out]
            refine Or.inl ⟨HSt.out ?_, rfl⟩
            rw [HGd.out]
            cases e : floatBits .mul .f64 x qa with
            | none => rfl
            | some q => rw [e] at hag; rw [← ag_some hag]; dsimp only; rw [hfr]; rfl
          have HB4 := hideS (HB.out.trans (HQ4.out.bl.mono HB.out.size))
          clear hfr hag hu
          go_wp2_with fail
          refine (HNr.out _).mono ?_
          rintro e w5 ⟨rfl, rfl⟩
          go_wp2_with fail
          go_ret2
          exact ⟨HE.out _, HB4.out⟩
        · rw [hfr] at HNr
          have HG : Hid (sclO x ⟨qd, qa, qc⟩ = some ⟨qd, r, qc⟩) := by
            show _ = _
            rw [HGd.out]
            cases e : floatBits .mul .f64 x qa with
            | none => rw [e] at hag; rw [fin_nan (ag_none hag).1] at hfr; cases hfr
            | some q => rw [e] at hag; rw [← ag_some hag]; dsimp only; rw [hfr]; rfl
          have HS := hideS (HSu.out _ HG.out)
          have HBw := hideS (HQ4.out.bl.trans (((Below.refl w4.heap.size w4).alloc (Nat.le_refl _) (.cells #[.int .i64 qd, .float .f64 r, .int .i64 qc] 29)).mono HQ4.out.bl.size))
          have HO4 := hideS (fown_below HO.out HBw.out)
          have HFc := hideS (fcells_new w4 ⟨qd, r, qc⟩)
          have HB4 := hideS (HB.out.trans (HBw.out.mono HB.out.size))
          clear hfr hag hu
          go_wp2_with fail
          refine (turned (HNr.out _)).mono ?_
          rintro e w5 ⟨rfl, rfl⟩
          go_wp2_with (at_builtin; refine wpList_append_f1 _ rfl (.tmp 27) (.tmp 29) rfl w'.heap.size (.slice q k cp) k m rfl HO4.out HB4.out.size w4.heap.size ⟨qd, r, qc⟩ rfl HFc.out (by have := HC.out; omega) ?_; intro v5 w5 ho5 hb5; have HB5 := hideS (HB4.out.trans hb5); obtain ⟨q5, g5, k5, hv5, _, _, _, hm5⟩ := fown_src ho5 (mapO_len HS.out); subst hv5; have HO5 := hideS ho5; clear ho5 hb5)
          go_roundw
          case rel => exact ⟨k + 1, _, q5, k5, by omega, by go_num, rfl, HS, HO5, HB5⟩
          case measure => simp [intOf]; omega
      · obtain rfl : k = N := by omega
        go_wp2_with fail
        go_ret2
        refine ⟨?_, HB.out⟩
        rw [← HLo.out, HM.out]
        refine Or.inr ⟨m, _, rfl, rfl, ?_⟩
        rw [mapO_len HM.out]; exact HO.out
end Go.Proofs.YteglnchcnacjlaaGreat
namespace Go.Proofs.YteglnchcnacjlaaGreat
open Go.RowKit

theorem wrd_selfJ {y : Nat} (h : y < 18446744073709551616) : wrd (sB y) (y % 9223372036854775808) = y := by
  unfold wrd sB
  by_cases c : y < 9223372036854775808
  · rw [Nat.div_eq_of_lt c]; simp; omega
  · have : y / 9223372036854775808 = 1 := by omega
    rw [this]; simp; omega
theorem xor_topJ {c : Nat} (h : c < 9223372036854775808) : c ^^^ 9223372036854775808 = 9223372036854775808 + c := by
  rw [show (9223372036854775808 : Nat) = 2 ^ 63 from rfl] at *
  apply Nat.eq_of_testBit_eq
  intro i
  rw [Nat.testBit_xor, Nat.testBit_two_pow]
  by_cases h1 : i = 63
  · subst h1
    rw [Nat.testBit_two_pow_add_eq]
    simp
  · by_cases h2 : i < 63
    · have e : decide (63 = i) = false := by rw [decide_eq_false_iff_not]; omega
      rw [Nat.testBit_two_pow_add_gt h2, e, Bool.xor_false]
    · have h3 : c.testBit i = false := Nat.testBit_lt_two_pow (Nat.lt_of_lt_of_le h (Nat.pow_le_pow_right (by decide) (by omega)))
      have h4 : (2 ^ 63 + c).testBit i = false := Nat.testBit_lt_two_pow (Nat.lt_of_lt_of_le (show 2 ^ 63 + c < 2 ^ 64 by omega) (Nat.pow_le_pow_right (by decide) (by omega)))
      have e : decide (63 = i) = false := by rw [decide_eq_false_iff_not]; omega
      rw [h3, h4, e]; rfl
theorem neg_wrd {y : Nat} (hl : y < 18446744073709551616) : Op.negFloat .f64 y = wrd (!sB y) (y % 9223372036854775808) := by
  have e : Op.negFloat .f64 y = y ^^^ 9223372036854775808 := rfl
  rw [e]
  unfold wrd sB
  by_cases c : y < 9223372036854775808
  · rw [Nat.div_eq_of_lt c, xor_topJ c, Nat.mod_eq_of_lt c]; rfl
  · have e1 : y / 9223372036854775808 = 1 := by omega
    obtain ⟨z, rfl⟩ : ∃ z, y = 9223372036854775808 + z := ⟨y - 9223372036854775808, by omega⟩
    rw [e1, ← xor_topJ (c := z) (by omega), Nat.xor_assoc, Nat.xor_self, Nat.xor_zero, xor_topJ (c := z) (by omega)]
    have e2 : (9223372036854775808 + z) % 9223372036854775808 = z := by omega
    rw [e2]; rfl
end Go.Proofs.YteglnchcnacjlaaGreat
