/- The contracts of package flow's within, isCurrency, isNumber, checkFlow and Check; a flow's box. The contracts of package flow's Give and Window. The contract of package flow's Scale. -/
import Derived.Test.YtiiajhomdpfafaaGreatDoorHau
import Derived.LoopTactic
import Derived.Sort.Row
namespace Go.Proofs.YtiiajhomdpfafaaGreatDoor
open Go.RowKit

set_option maxHeartbeats 800000 in
theorem jNum_any (x : Nat) (w : World) (hx : U64 x) :
    Calls Tryz.prog 128 #[.float .f64 x] w fun e w' => e = .returned (.bool (finB x)) ∧ w' = w := by
  have H1 := hideS fun w => isNaN_math x w hx
  cases hn : nanB (x : Int)
  · rw [hn] at H1
    have H2 := hideS fun w => isInf_both x _ w hx (inf_gt hn)
    generalize finB x = b at *
    clear hn hx
    cases b
    all_goals
      go_enter Tryz.func128, Tryz.ntmps128
      go_wp2_with fail
      refine (H1.out _).mono ?_
      rintro e w' ⟨rfl, rfl⟩
      go_wp2_with fail
      refine (H2.out _).mono ?_
      rintro e w' ⟨rfl, rfl⟩
      go_wp2_with fail
      go_ret
      exact ⟨rfl, rfl⟩
  · rw [hn] at H1
    rw [fin_nan hn]
    clear hn hx
    go_enter Tryz.func128, Tryz.ntmps128
    go_wp2_with fail
    refine (H1.out _).mono ?_
    rintro e w' ⟨rfl, rfl⟩
    go_wp2_with fail
    go_ret
    exact ⟨rfl, rfl⟩

def FitJ (l : List Flw) : Prop := ∀ i, (l.getD i flw0).am < 18446744073709551616

theorem set_blockJ {w : World} {g o : Nat} {cs : Array Value} {t : TypeId} (v : Value) (h : w.heap[g]? = some (.cells cs t (0, 0))) : (w.setCell ⟨g, o, none⟩ v).heap[g]? = some (.cells (cs.setIfInBounds o v) t (0, 0)) := by
  rw [Go.Sort.setCell_eq]
  simp [Go.Sort.mapBlock, Array.getElem?_modify, h, Go.Sort.onCells]
theorem store_flj (a : Addr) (x : Nat) (m : Mode) (w : World) : (store a (.float .f64 x) m).run Tryz.prog w = stored Tryz.prog w a (.float .f64 x) m := run_store Tryz.prog w a _ m rfl
def zeroFj : Obj := .cells #[.int .i64 0, .float .f64 0, .int .i64 0] 45
def setF (w : World) (g : Nat) (f : Flw) : World := ((w.setCell ⟨g, 0, none⟩ (.int .i64 f.day)).setCell ⟨g, 1, none⟩ (.float .f64 f.am)).setCell ⟨g, 2, none⟩ (.int .i64 f.cur)
theorem zeroFj_cells (w : World) : ((w.alloc zeroFj).cell? ⟨w.heap.size, 0, none⟩ = some (.int .i64 0) ∧ (w.alloc zeroFj).cell? ⟨w.heap.size, 1, none⟩ = some (.float .f64 0) ∧ (w.alloc zeroFj).cell? ⟨w.heap.size, 2, none⟩ = some (.int .i64 0)) ∧ ∀ i, (w.alloc zeroFj).frozen? ⟨w.heap.size, i, none⟩ = false := by
  have h := heap_alloc_new w zeroFj
  unfold zeroFj at h
  refine ⟨⟨by unfold zeroFj; simp, by unfold zeroFj; simp, by unfold zeroFj; simp⟩, fun i => frozen_of_row _ _ i _ _ h⟩
structure FBj (w : World) (f : Flw) (wr : World) : Prop where
  t0 : wr.cell? ⟨w.heap.size, 0, none⟩ = some (.int .i64 f.day)
  t1 : wr.cell? ⟨w.heap.size, 1, none⟩ = some (.float .f64 f.am)
  t2 : wr.cell? ⟨w.heap.size, 2, none⟩ = some (.int .i64 f.cur)
  fz : ∀ i, wr.frozen? ⟨w.heap.size, i, none⟩ = false
  bl : Below w.heap.size w wr
  lt : w.heap.size < wr.heap.size
theorem FBj.step {w wr w' : World} {f : Flw} (h : FBj w f wr) (hb : Below wr.heap.size wr w') : FBj w f w' :=
  ⟨(hb.cell (p := ⟨w.heap.size, 0, none⟩) h.lt).trans h.t0, (hb.cell (p := ⟨w.heap.size, 1, none⟩) h.lt).trans h.t1, (hb.cell (p := ⟨w.heap.size, 2, none⟩) h.lt).trans h.t2, fun i => (hb.frozen (p := ⟨w.heap.size, i, none⟩) h.lt).trans (h.fz i), h.bl.trans (hb.mono h.bl.size), Nat.lt_of_lt_of_le h.lt hb.size⟩
theorem fbx_of {w wr : World} {f : Flw} (h : wr.heap[w.heap.size]? = some (.cells #[.int .i64 f.day, .float .f64 f.am, .int .i64 f.cur] 45)) (hb : Below w.heap.size w wr) : FBj w f wr := by
  refine ⟨?_, ?_, ?_, fun i => frozen_of_row _ _ i _ _ h, hb, (Array.getElem?_eq_some_iff.1 h).1⟩
  all_goals
    simp only [World.cell?, h, Option.isSome_none, Bool.false_eq_true, if_false]
    rfl
theorem setF_blk (w : World) (f : Flw) : (setF (w.alloc zeroFj) w.heap.size f).heap[w.heap.size]? = some (.cells #[.int .i64 f.day, .float .f64 f.am, .int .i64 f.cur] 45) := by
  have h := heap_alloc_new w zeroFj
  unfold zeroFj at h
  exact set_blockJ _ (set_blockJ _ (set_blockJ _ h))
theorem setF_box (w : World) (f : Flw) : FBj w f (setF (w.alloc zeroFj) w.heap.size f) :=
  fbx_of (setF_blk w f) ((((Below.refl _ w).alloc (Nat.le_refl _) _).setCell (p := ⟨w.heap.size, 0, none⟩) (Nat.le_refl _) _).setCell (p := ⟨w.heap.size, 1, none⟩) (Nat.le_refl _) _ |>.setCell (p := ⟨w.heap.size, 2, none⟩) (Nat.le_refl _) _)
end Go.Proofs.YtiiajhomdpfafaaGreatDoor
namespace Go.Proofs.YtiiajhomdpfafaaGreatDoor
open Go.RowKit

def mapN (g : Flw → Flw) (l : List Flw) (k : Nat) : List Flw := (List.range k).map fun i => g (l.getD i flw0)
theorem mapN_len (g : Flw → Flw) (l : List Flw) (k : Nat) : (mapN g l k).length = k := by unfold mapN; simp
theorem mapN_succ (g : Flw → Flw) (l : List Flw) (k : Nat) : mapN g l (k + 1) = mapN g l k ++ [g (l.getD k flw0)] := by unfold mapN; rw [List.range_succ, List.map_append]; rfl
theorem mapN_all (g : Flw → Flw) (l : List Flw) : mapN g l l.length = l.map g := by
  apply List.ext_getElem
  · simp [mapN]
  · intro i h1 h2
    have : i < l.length := by simpa using h2
    simp [mapN, List.getD, this]
def giveF (f : Flw) : Flw := ⟨f.day, Op.negFloat .f64 f.am, f.cur⟩
theorem run_negJ (w : World) (x : Nat) : (Op.unary .neg (.float .f64 x)).run Tryz.prog w = .ok (.float .f64 (Op.negFloat .f64 x)) w := rfl
theorem FBj.am {w wr : World} {f : Flw} (h : wr.heap[w.heap.size]? = some (.cells #[.int .i64 f.day, .float .f64 f.am, .int .i64 f.cur] 45)) (hb : Below w.heap.size w wr) (a : Nat) : FBj w ⟨f.day, a, f.cur⟩ (wr.setCell ⟨w.heap.size, 1, none⟩ (.float .f64 a)) :=
  fbx_of (set_blockJ _ h) (hb.setCell (p := ⟨w.heap.size, 1, none⟩) (Nat.le_refl _) _)
theorem fcells_new (w : World) (f : Flw) : FCells aF (w.alloc (.cells #[.int .i64 f.day, .float .f64 f.am, .int .i64 f.cur] 45)) w.heap.size 0 f :=
  ⟨by simp, by simp [aF], by simp⟩
theorem wpList_append_f1 (w : World) {ops : Array Oper} {rest : List Oper} {o : Oper} {a : Act} {Q : Exit → Act → World → Prop} (hgd : o.guard = none) (s x : Operand)
    (ho : o.op = .call { callee := .builtin .append, args := #[s, x], argTypes := #[35, 35] })
    (base : Nat) (v : Value) (n : Nat) (xs : List Flw) (hs : a.eval s = v) (hown : w.ownsRow base 45 3 v n (rowF aF xs)) (hb : base ≤ w.heap.size)
    (g : Nat) (z : Flw) (hx : a.eval x = .slice (some ⟨g, 0, none⟩) 1 1) (hc : FCells aF w g 0 z) (hn : (n + 1) * 24 ≤ 140737488355328)
    (h : ∀ v' w', w'.ownsRow base 45 3 v' (n + 1) (rowF aF (xs ++ [z])) → Below base w w' → wpList Tryz.prog ops Q rest (a.put o.dst v') w') : wpList Tryz.prog ops Q (o :: rest) a w :=
  wpList_append_fl aF (fun _ => rfl) 35 45 Tryz.underlying35 info_fl rfl w hgd s x ho base v n xs hs hown g 0 1 [z] hx (fun i hi => by
    obtain rfl : i = 0 := by simp at hi; omega
    exact hc) hn hb (fun v' w' h1 h2 => h v' w' h1 (fgrown_below hown h2 hb))

set_option maxRecDepth 20000 in
set_option maxHeartbeats 3200000 in
theorem jGive_any (l : List Flw) (p : Option Addr) (b off c N : Nat) (w : World) (hl : JSrc aF w p b off l) (hN : l.length = N) (hc : N * 24 ≤ 140737488355328) :
    Calls Tryz.prog 90 #[.slice p N c] w fun e w' => (∃ u, e = .returned u ∧ w'.ownsRow w.heap.size 45 3 u N (rowF aF (l.map giveF))) ∧ Below w.heap.size w w' := by
  have HN := hideS hN
  have HQ := hideS hl
  have HP : Hid (0 < N → p = some ⟨b, off, none⟩) := fun h => hl.at_ (by omega)
  have HC := hideS hc
  have hc2 : N ≤ 140737488355328 := by omega
  have HO0 := hideS (fown_nil aF w w.heap.size 45)
  clear hl hN hc
  go_enter Tryz.func90, Tryz.ntmps90
  go_wp2_with fail
  go_loopw [3, 8] (fun g i wr => ∃ (k : Nat) (q : Option Addr) (cp : Nat), k ≤ N ∧ i = .int .i64 k ∧ g = .slice q k cp ∧ Hid (wr.ownsRow w.heap.size 45 3 (.slice q k cp) k (rowF aF (mapN giveF l k))) ∧ Hid (Below w.heap.size w wr)) (fun _ i _ => N - (intOf i).toNat)
  case atStart => exact ⟨0, none, 0, Nat.zero_le _, rfl, rfl, HO0, Below.refl _ _⟩
  case round =>
    clear HO0
    obtain ⟨k, q, cp, hk, rfl, rfl, HO, HB⟩ := hrel
    by_cases hlt : k < N
    · obtain rfl := HP.out (by omega)
      obtain ⟨c0, c1, c2⟩ := (HQ.out.below HB.out).cell k (by rw [HN.out]; exact hlt)
      have HS : Hid (mapN giveF l (k + 1) = mapN giveF l k ++ [⟨(l.getD k flw0).day, Op.negFloat .f64 (l.getD k flw0).am, (l.getD k flw0).cur⟩]) := mapN_succ giveF l k
      have h3 := setF_blk wr (l.getD k flw0)
      have HQB := hideS (setF_box wr (l.getD k flw0))
      have HQ2 := hideS (FBj.am h3 (setF_box wr (l.getD k flw0)).bl (Op.negFloat .f64 (l.getD k flw0).am))
      obtain ⟨⟨z0, z1, z2⟩, fz⟩ := zeroFj_cells wr
      have y0 := fz 0
      have y1 := fz 1
      have y2 := fz 2
      clear fz h3
      obtain ⟨f, hf⟩ : ∃ f, l.getD k flw0 = f := ⟨_, rfl⟩
      rw [hf] at HS HQB HQ2 c0 c1 c2
      clear hf
      obtain ⟨qd, qa, qc⟩ := f
      dsimp only [aF] at *
      obtain ⟨w2, hw2⟩ : ∃ w2, wr.alloc zeroFj = w2 := ⟨_, rfl⟩
      rw [hw2] at z0 z1 z2 y0 y1 y2 HQB HQ2
      unfold zeroFj at hw2
      obtain ⟨w3, hw3⟩ : ∃ w3, setF w2 wr.heap.size ⟨qd, qa, qc⟩ = w3 := ⟨_, rfl⟩
      rw [hw3] at HQB HQ2
      unfold setF at hw3
      dsimp only at hw3
      have t0 := HQB.out.t0
      have t1 := HQB.out.t1
      have t2 := HQB.out.t2
      have x1 := HQB.out.fz 1
      dsimp only at t0 t1 t2
      have hng := run_negJ
      obtain ⟨w4, hw4⟩ : ∃ w4, w3.setCell ⟨wr.heap.size, 1, none⟩ (.float .f64 (Op.negFloat .f64 qa)) = w4 := ⟨_, rfl⟩
      rw [hw4] at HQ2
      have s0 := HQ2.out.t0
      have s1 := HQ2.out.t1
      have s2 := HQ2.out.t2
      dsimp only at s0 s1 s2
      have HBw := hideS (HQ2.out.bl.trans (((Below.refl w4.heap.size w4).alloc (Nat.le_refl _) (.cells #[.int .i64 qd, .float .f64 (Op.negFloat .f64 qa), .int .i64 qc] 45)).mono HQ2.out.bl.size))
      have HO4 := hideS (fown_below HO.out HBw.out)
      have HFc := hideS (fcells_new w4 ⟨qd, Op.negFloat .f64 qa, qc⟩)
      have HB4 := hideS (HB.out.trans (HBw.out.mono HB.out.size))
      have hst := store_flj
      go_wp2_with (at_builtin; refine wpList_append_f1 _ rfl (.tmp 16) (.tmp 18) rfl w.heap.size (.slice q k cp) k (mapN giveF l k) rfl HO4.out HB4.out.size w4.heap.size ⟨qd, Op.negFloat .f64 qa, qc⟩ rfl HFc.out (by have := HC.out; omega) ?_; intro v5 w5 ho5 hb5; rw [← HS.out] at ho5; have HB5 := hideS (HB4.out.trans hb5); obtain ⟨q5, g5, k5, hv5, _, _, _, hm5⟩ := fown_src ho5 (mapN_len _ _ _); subst hv5; have HO5 := hideS ho5; clear ho5 hb5)
      go_roundw
      case rel => exact ⟨k + 1, q5, k5, by omega, by go_num, rfl, HO5, HB5⟩
      case measure => simp [intOf]; omega
    · obtain rfl : k = N := by omega
      go_wp2_with fail
      go_ret
      refine ⟨⟨_, rfl, ?_⟩, HB.out⟩
      have := HO.out
      rw [← HN.out, mapN_all, HN.out] at this
      exact this
end Go.Proofs.YtiiajhomdpfafaaGreatDoor
namespace Go.Proofs.YtiiajhomdpfafaaGreatDoor
open Go.RowKit

theorem below_drewJ {B : Nat} {w w1 : World} (hb : Below B w w1) (q : Nat) : Below B w (w1.drewN q) := ⟨hb.os, hb.tape, hb.output, hb.size, hb.block⟩
def mapO (g : Flw → Option Flw) (l : List Flw) : Nat → Option (List Flw)
  | 0 => some []
  | k + 1 => (mapO g l k).bind fun m => (g (l.getD k flw0)).map fun f => m ++ [f]
theorem mapO_succ {g : Flw → Option Flw} {l : List Flw} {k : Nat} {m : List Flw} {f : Flw} (h : mapO g l k = some m) (hf : g (l.getD k flw0) = some f) : mapO g l (k + 1) = some (m ++ [f]) := by
  show (mapO g l k).bind _ = _; rw [h]; show (g (l.getD k flw0)).map _ = _; rw [hf]; rfl
theorem mapO_stop {g : Flw → Option Flw} {l : List Flw} {k : Nat} (hf : g (l.getD k flw0) = none) : ∀ n, k < n → mapO g l n = none
  | 0, h => by omega
  | n + 1, h => by
    show (mapO g l n).bind _ = _
    by_cases c : k < n
    · rw [mapO_stop hf n c]; rfl
    · obtain rfl : k = n := by omega
      rw [hf]; cases mapO g l k <;> rfl
theorem mapO_len {g : Flw → Option Flw} {l : List Flw} : ∀ {k : Nat} {m : List Flw}, mapO g l k = some m → m.length = k
  | 0, m, h => by obtain rfl : [] = m := by simpa [mapO] using h
                  rfl
  | k + 1, m, h => by
    unfold mapO at h
    cases hm : mapO g l k with
    | none => rw [hm] at h; cases h
    | some m' =>
      rw [hm] at h
      cases hf : g (l.getD k flw0) with
      | none => have h' : (g (l.getD k flw0)).map (fun f => m' ++ [f]) = some m := h
                rw [hf] at h'; cases h'
      | some f =>
        have h' : (g (l.getD k flw0)).map (fun f => m' ++ [f]) = some m := h
        rw [hf] at h'
        obtain rfl : m' ++ [f] = m := by simpa using h'
        rw [List.length_append, mapO_len hm]; rfl
def sclO (x : Nat) (f : Flw) : Option Flw := match floatBits .mul .f64 x f.am with
  | some r => if finB r then some ⟨f.day, r, f.cur⟩ else none
  | none => none
def LstO (mk : Nat → Value) (t : TypeId) (o : Option (List Flw)) (E : Int) (base : Nat) (e : Ending) (w' : World) : Prop :=
  (o = none ∧ e = .returned (.tuple #[.slice none 0 0, .int .i64 E])) ∨ ∃ m u, o = some m ∧ e = .returned (.tuple #[u, .int .i64 0]) ∧ w'.ownsRow base t 3 u m.length (rowF mk m)
def sclL (x : Nat) (l : List Flw) : Option (List Flw) := if finB x then mapO (sclO x) l l.length else none

set_option maxRecDepth 20000 in
set_option maxHeartbeats 3200000 in
theorem jScale_any (l : List Flw) (p : Option Addr) (b off c N x : Nat) (w : World) (hl : JSrc aF w p b off l) (hN : l.length = N) (hc : N * 24 ≤ 140737488355328) (hx : x < 18446744073709551616) (hf : FitJ l) :
    Calls Tryz.prog 92 #[.float .f64 x, .slice p N c] w fun e w' => LstO aF 45 (sclL x l) 91 w.heap.size e w' ∧ Below w.heap.size w w' := by
  have HN := hideS hN
  have HQ := hideS hl
  have HP : Hid (0 < N → p = some ⟨b, off, none⟩) := fun h => hl.at_ (by omega)
  have HC := hideS hc
  have HFt := hideS hf
  have hc2 : N ≤ 140737488355328 := by omega
  have HO0 := hideS (fown_nil aF w w.heap.size 45)
  have HNx := hideS fun wx => jNum_any x wx (by unfold U64; omega)
  have HR : Hid (sclL x l = if finB x then mapO (sclO x) l N else none) := by show _ = _; rw [← hN]; rfl
  rw [HR.out]
  clear hl hN hc HR hf
  cases hfx : finB x
  · rw [hfx] at HNx
    have HPost : Hid (∀ w', LstO aF 45 none 91 w.heap.size (.returned (.tuple #[.slice none 0 0, .int .i64 91])) w') := fun w' => Or.inl ⟨rfl, rfl⟩
    rw [if_neg (by simp)]
    generalize LstO aF 45 none 91 w.heap.size = Lo at *
    clear hfx HO0
    go_enter Tryz.func92, Tryz.ntmps92
    go_wp2_with fail
    refine (HNx.out _).mono ?_
    rintro e w' ⟨rfl, rfl⟩
    go_wp2_with fail
    go_ret2
    exact ⟨HPost.out _, Below.refl _ _⟩
  · rw [hfx] at HNx
    rw [if_pos rfl]
    have HPo : Hid (∀ e w', LstO aF 45 (mapO (sclO x) l N) 91 w.heap.size e w' → LstO aF 45 (mapO (sclO x) l N) 91 w.heap.size e w') := fun _ _ h => h
    obtain ⟨Lo, hLo⟩ : ∃ Lo, LstO aF 45 (mapO (sclO x) l N) 91 w.heap.size = Lo := ⟨_, rfl⟩
    rw [hLo]
    have HLo := hideS hLo
    clear hfx hLo HPo
    go_enter Tryz.func92, Tryz.ntmps92
    go_wp2_with fail
    refine (HNx.out _).mono ?_
    rintro e w' ⟨rfl, rfl⟩
    go_wp2_with fail
    go_loopw [6, 14] (fun g i wr => ∃ (k : Nat) (m : List Flw) (q : Option Addr) (cp : Nat), k ≤ N ∧ i = .int .i64 k ∧ g = .slice q k cp ∧ Hid (mapO (sclO x) l k = some m) ∧ Hid (wr.ownsRow w'.heap.size 45 3 (.slice q k cp) k (rowF aF m)) ∧ Hid (Below w'.heap.size w' wr)) (fun _ i _ => N - (intOf i).toNat)
    case atStart => exact ⟨0, [], none, 0, Nat.zero_le _, rfl, rfl, rfl, HO0, Below.refl _ _⟩
    case round =>
      clear HO0
      obtain ⟨k, m, q, cp, hk, rfl, rfl, HM, HO, HB⟩ := hrel
      by_cases hlt : k < N
      · obtain rfl := HP.out (by omega)
        obtain ⟨c0, c1, c2⟩ := (HQ.out.below HB.out).cell k (by rw [HN.out]; exact hlt)
        have HU := hideS (HFt.out k)
        have h3 := setF_blk wr (l.getD k flw0)
        have HQB := hideS (setF_box wr (l.getD k flw0))
        have HQ2 := hideS (fun q a => FBj.am (wr := (setF (wr.alloc zeroFj) wr.heap.size (l.getD k flw0)).drewN q) h3 (below_drewJ (setF_box wr (l.getD k flw0)).bl q) a)
        have HSt := hideS (fun h => mapO_stop (g := sclO x) (l := l) (k := k) h N hlt)
        have HSu := hideS (fun f h => mapO_succ (f := f) HM.out h)
        have HGd : Hid (sclO x (l.getD k flw0) = match floatBits .mul .f64 x (l.getD k flw0).am with | some r => if finB r then some ⟨(l.getD k flw0).day, r, (l.getD k flw0).cur⟩ else none | none => none) := rfl
        obtain ⟨⟨z0, z1, z2⟩, fz⟩ := zeroFj_cells wr
        have y0 := fz 0
        have y1 := fz 1
        have y2 := fz 2
        clear fz h3
        obtain ⟨f, hf⟩ : ∃ f, l.getD k flw0 = f := ⟨_, rfl⟩
        rw [hf] at HQB HQ2 c0 c1 c2 HU HSt HSu HGd
        clear hf
        obtain ⟨qd, qa, qc⟩ := f
        dsimp only [aF] at *
        obtain ⟨w2, hw2⟩ : ∃ w2, wr.alloc zeroFj = w2 := ⟨_, rfl⟩
        rw [hw2] at z0 z1 z2 y0 y1 y2 HQB HQ2
        unfold zeroFj at hw2
        obtain ⟨w3, hw3⟩ : ∃ w3, setF w2 wr.heap.size ⟨qd, qa, qc⟩ = w3 := ⟨_, rfl⟩
        rw [hw3] at HQB HQ2
        unfold setF at hw3
        dsimp only at hw3
        have t0 := HQB.out.t0
        have t1 := HQB.out.t1
        have t2 := HQB.out.t2
        have x1 := HQB.out.fz 1
        dsimp only at t0 t1 t2
        obtain ⟨r, ⟨dq, hr⟩, hag⟩ := run_op_ag .mul (Or.inr (Or.inr (Or.inl rfl))) 43 x qa w3
        have hu : r < 18446744073709551616 := by
          cases e : floatBits .mul .f64 x qa with
          | none => rw [e] at hag; exact (ag_none hag).2
          | some q => rw [e] at hag; rw [ag_some hag]; exact float_lt (Or.inr (Or.inr (Or.inl rfl))) e
        have HNr := hideS fun wx => jNum_any r wx (by unfold U64; omega)
        obtain ⟨w4, hw4⟩ : ∃ w4, (w3.drewN dq).setCell ⟨wr.heap.size, 1, none⟩ (.float .f64 r) = w4 := ⟨_, rfl⟩
        have HQ4 := hideS (HQ2.out dq r)
        rw [hw4] at HQ4
        have s0 := HQ4.out.t0
        have s1 := HQ4.out.t1
        have s2 := HQ4.out.t2
        dsimp only at s0 s1 s2
        have hst := store_flj
        cases hfr : finB r
        · rw [hfr] at HNr
          have HE : Hid (∀ wx, Lo (.returned (.tuple #[.slice none 0 0, .int .i64 91])) wx) := fun wx => by
            rw [← HLo.out]
            refine Or.inl ⟨HSt.out ?_, rfl⟩
            rw [HGd.out]
            cases e : floatBits .mul .f64 x qa with
            | none => rfl
            | some q => rw [e] at hag; rw [← ag_some hag]; dsimp only; rw [hfr]; rfl
          have HB4 := hideS (HB.out.trans (HQ4.out.bl.mono HB.out.size))
          clear hfr hag hu
          go_wp2_with fail
          refine (HNr.out _).mono ?_
          rintro e w5 ⟨rfl, rfl⟩
          go_wp2_with fail
          go_ret2
          exact ⟨HE.out _, HB4.out⟩
        · rw [hfr] at HNr
          have HG : Hid (sclO x ⟨qd, qa, qc⟩ = some ⟨qd, r, qc⟩) := by
            show _ = _
            rw [HGd.out]
            cases e : floatBits .mul .f64 x qa with
            | none => rw [e] at hag; rw [fin_nan (ag_none hag).1] at hfr; cases hfr
            | some q => rw [e] at hag; rw [← ag_some hag]; dsimp only; rw [hfr]; rfl
          have HS := hideS (HSu.out _ HG.out)
          have HBw := hideS (HQ4.out.bl.trans (((Below.refl w4.heap.size w4).alloc (Nat.le_refl _) (.cells #[.int .i64 qd, .float .f64 r, .int .i64 qc] 45)).mono HQ4.out.bl.size))
          have HO4 := hideS (fown_below HO.out HBw.out)
          have HFc := hideS (fcells_new w4 ⟨qd, r, qc⟩)
          have HB4 := hideS (HB.out.trans (HBw.out.mono HB.out.size))
          clear hfr hag hu
          go_wp2_with fail
          refine (turned (HNr.out _)).mono ?_
          rintro e w5 ⟨rfl, rfl⟩
          go_wp2_with (at_builtin; refine wpList_append_f1 _ rfl (.tmp 27) (.tmp 29) rfl w'.heap.size (.slice q k cp) k m rfl HO4.out HB4.out.size w4.heap.size ⟨qd, r, qc⟩ rfl HFc.out (by have := HC.out; omega) ?_; intro v5 w5 ho5 hb5; have HB5 := hideS (HB4.out.trans hb5); obtain ⟨q5, g5, k5, hv5, _, _, _, hm5⟩ := fown_src ho5 (mapO_len HS.out); subst hv5; have HO5 := hideS ho5; clear ho5 hb5)
          go_roundw
          case rel => exact ⟨k + 1, _, q5, k5, by omega, by go_num, rfl, HS, HO5, HB5⟩
          case measure => simp [intOf]; omega
      · obtain rfl : k = N := by omega
        go_wp2_with fail
        go_ret2
        refine ⟨?_, HB.out⟩
        rw [← HLo.out, HM.out]
        refine Or.inr ⟨m, _, rfl, rfl, ?_⟩
        rw [mapO_len HM.out]; exact HO.out
end Go.Proofs.YtiiajhomdpfafaaGreatDoor
