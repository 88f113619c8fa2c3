/- Package code: trimmed, by the states that its loop goes through. Package code: Trim where the code may be; Trim of awake18's code. The law's awake of stage 18. Package code: the builder of trees in memory; a term is added, the last piece is taken, a term is set beside. Lists that are told and written: what lies elsewhere stays. -/
import Derived.Test.YtienedhaogjahaaGreatDoorHbj
import Derived.Test.YtienedhaogjahaaGreatDoorHbf
import Derived.Test.YtienedhaogjahaaGreatDoorHbc
import Derived.Test.YtienedhaogjahaaGreatDoorHbg
import Derived.Maps.AppendAt
import Derived.Test.YtienedhaogjahaaGreatDoorHba
namespace Go.Proofs.YtienedhaogjahaaGreatDoor
open Go.RowKit

inductive TStep (o : Opr) (cs : List (Opr × Int)) (ms : List Int) : List (Opr × Int) × List Int → Prop
  | take (cs' : List (Opr × Int)) (ms' : List Int) : takO o = true → (∀ (B b : Nat) (cv mv : Value) (w : World), TrM B b cv mv cs ms w → B ≤ b → Calls Tryz.prog 55 #[.pointer (some ⟨b, 0, none⟩), .agg (opC o)] w fun e w' => e = .returned (.tuple #[]) ∧ ∃ v v', TrM B b v v' cs' ms' w' ∧ Below B w w') → TStep o cs ms (cs', ms')
  | mark : o.kind = 1 → TStep o cs ms (cs ++ [(o, 0)], ms ++ [(cs.length : Int)])
  | other : o.kind ≠ 1 → takO o = false → TStep o cs ms (cs ++ [(o, 0)], ms)
structure TmI (w wr : World) (s : List (Opr × Int) × List Int) : Prop where
  t : ∃ cv mv, TrM w.heap.size w.heap.size cv mv s.1 s.2 wr
  b : Below w.heap.size w wr
theorem info_int : (Tryz.prog.info? 3).map (fun i => (i.zero, i.size, i.bytes)) = some (some (.int .i64 0), 1, 8) := by kernel_rfl
theorem take_more {α : Type} (l : List α) (d : α) (j : Nat) (hj : j < l.length) : l.take (j + 1) = l.take j ++ [l.getD j d] := by
  rw [List.take_add_one]
  simp [List.getD, List.getElem?_eq_getElem hj]
theorem tr_mark {B b : Nat} {cv mv : Value} {cs : List (Opr × Int)} {ms : List Int} {w : World} (h : TrM B b cv mv cs ms w) (hb : B ≤ b) (x : Int) {w5 : World} {v5 : Value} (ho : w5.ownsRow B 3 1 v5 (ms.length + 1) (rowV inC ms ++ rowV inC [x])) (hg : w.grownBy w5 mv.ownBlock) :
    w5.heap[b]? = some (.cells #[cv, mv] 118) ∧ TrM B b cv v5 cs (ms ++ [x]) (w5.setCell ⟨b, 1, none⟩ v5) ∧ Below B w (w5.setCell ⟨b, 1, none⟩ v5) :=
  h.remark hb (Nat.le_trans hb (Nat.le_of_lt (lt_of_blk h.box))) hg (row_more ho rfl)
theorem tr_loop {B b j : Nat} {cv mv v v5 : Value} {cs : List (Opr × Int)} {ms : List Int} {xs ys : List Opr} {o : Opr} {w0 w w5 : World} (hB : B ≤ w.heap.size) (h : w.ownsRow B 47 9 v j (rowV opC xs) ∧ TrM B b cv mv cs ms w ∧ Below B w0 w) (hy : ys = xs ++ [o]) (ho : w5.ownsRow B 47 9 v5 (j + 1) (rowV opC xs ++ rowV opC [o])) (hg : w.grownBy w5 v.ownBlock) : w5.ownsRow B 47 9 v5 (j + 1) (rowV opC ys) ∧ TrM B b cv mv cs ms w5 ∧ Below B w0 w5 := by
  obtain ⟨h1, h2, h3⟩ := h
  refine ⟨by rw [hy, rowV_append]; exact ho, ⟨(hg.block b (lt_of_blk h2.box) (fun e => orow_box h1 h2.box (by decide) b e.symm rfl)).trans h2.box, h2.code.kept hg (orow_apart h2.code h1 (by decide)), h2.marks.kept hg (orow_apart h2.marks h1 (by decide))⟩, h3.trans (orow_grown h1 hg hB)⟩
set_option maxRecDepth 20000 in
set_option maxHeartbeats 25600000 in
theorem trimmed_go (l : List Opr) (n : Nat) (p : Option Addr) (b0 off c : Nat) (hn : l.length = n) (hn2 : n ≤ 90000) (S : Nat → List (Opr × Int) × List Int) (hS0 : S 0 = ([], []))
    (hS : ∀ k < n, TStep (l.getD k opr0) (S k).1 (S k).2 (S (k + 1))) (hl : ∀ k ≤ n, (S k).1.length ≤ 90000 ∧ (S k).2.length ≤ 90000) (w : World) (hs : OSrc w p b0 off l) :
    Calls Tryz.prog 33 #[.slice p n c] w fun e w' => ∃ v, e = .returned v ∧ w'.ownsRow w.heap.size 47 9 v (S n).1.length (rowV opC ((S n).1.map Prod.fst)) ∧ Below w.heap.size w w' := by
  have HS := hidD hs
  have HN := hidD hn
  have HT := hidD hS
  have HL := hidD hl
  have hst := store_fltD
  have hf2 := fieldC2
  have H0 : Hid (TmI w (w.alloc (.cells #[.slice none 0 0, .slice none 0 0] 118)) (S 0)) := by
    show TmI _ _ _
    rw [hS0]
    exact ⟨⟨_, _, heap_alloc_new _ _, orow_nil _ _ _ _, orow_nil _ _ _ _⟩, al_bel _ _⟩
  clear hs hn hS hl hS0
  go_enter Tryz.func33, Tryz.ntmps33
  go_wp2_with fail
  go_loopw [13] (fun i wr => ∃ k : Nat, k ≤ n ∧ i = .int .i64 k ∧ Hid (TmI w wr (S k))) (fun i _ => n - (intOf i).toNat)
  case atStart => exact ⟨0, Nat.zero_le _, rfl, H0⟩
  case round =>
    clear H0
    obtain ⟨k, hk, rfl, HI⟩ := hrel
    by_cases hlt : k < n
    · have hlt' : k < l.length := by rw [HN.out]; exact hlt
      have HSr := hidD (HS.out.below HI.out.b)
      obtain rfl := HSr.out.at_ (by omega)
      have c0 := HSr.out.c0 k hlt'
      have c1 := HSr.out.c1 k hlt'
      have c2 := HSr.out.c2 k hlt'
      have c3 := HSr.out.c3 k hlt'
      have c4 := HSr.out.c4 k hlt'
      have c5 := HSr.out.c5 k hlt'
      have c6 := HSr.out.c6 k hlt'
      have c7 := HSr.out.c7 k hlt'
      have c8 := HSr.out.c8 k hlt'
      have hbl : b0 < wr.heap.size := HSr.out.lt (by omega)
      have hbn := Nat.ne_of_lt hbl
      have HKo := hidD (kindOf_any (l.getD k opr0))
      have st := HT.out k hlt
      obtain ⟨hl1, hl2⟩ := HL.out k hk
      generalize l.getD k opr0 = o at *
      have i1 : (k : Int) < (n : Int) := by omega
      have HRe : Hid (∀ wx, TmI w wx (S (k + 1)) → ∃ k' : Nat, k' ≤ n ∧ Value.int .i64 ((k : Int) + 1) = .int .i64 k' ∧ Hid (TmI w wx (S k'))) := fun wx h => ⟨k + 1, hlt, by simp, h⟩
      unfold opC at HKo
      clear hk HSr
      have HB := hidD HI.out.b
      obtain ⟨cv, mv, tr⟩ := HI.out.t
      obtain ⟨pc, cc, gc, hcv, -⟩ := orow_src tr.code
      obtain ⟨pm, cm, gm, hmv, -⟩ := orow_src tr.marks
      subst hcv hmv
      rcases hsk : S k with ⟨cs, ms⟩
      rcases hsk' : S (k + 1) with ⟨cs', ms'⟩
      rw [hsk, hsk'] at st
      rw [hsk] at tr hl1 hl2
      dsimp only at tr st hl1 hl2
      have HSk' := hidD hsk'
      obtain ⟨L, hL⟩ : ∃ L, cs.length = L := ⟨_, rfl⟩
      obtain ⟨M, hM⟩ : ∃ M, ms.length = M := ⟨_, rfl⟩
      have HLc := hidD hL
      have HLm := hidD hM
      rw [hL] at tr hl1
      rw [hM] at tr hl2
      have HTr := hidD tr
      clear tr hsk hsk' HI hL hM
      have Ho1 : Hid ((wr.alloc (.cells #[.int .i64 o.kind, .float .f64 o.x, .float .f64 o.y, .int .i64 o.day, .int .i64 o.to, .int .i64 o.cur, .int .i64 o.count, .int .i64 o.n, .int .i64 o.months] 47)).heap[wr.heap.size]? = some (.cells #[.int .i64 o.kind, .float .f64 o.x, .float .f64 o.y, .int .i64 o.day, .int .i64 o.to, .int .i64 o.cur, .int .i64 o.count, .int .i64 o.n, .int .i64 o.months] 47)) := heap_alloc_new _ _
      go_wp2_with fail
      refine (HKo.out _).mono ?_
      rintro e w1 ⟨xo, xt, xb, rfl, ha, hb1⟩
      obtain rfl : xb = takO o := ans_takes ha
      have HW1 : Hid (Below wr.heap.size wr w1) := (al_bel wr _).trans (hb1.mono (by simp))
      have Ho2 : Hid (w1.heap[wr.heap.size]? = some (.cells #[.int .i64 o.kind, .float .f64 o.x, .float .f64 o.y, .int .i64 o.day, .int .i64 o.to, .int .i64 o.cur, .int .i64 o.count, .int .i64 o.n, .int .i64 o.months] 47)) := (hb1.block _ (lt_of_blk Ho1.out)).trans Ho1.out
      have HTr1 := hidD (HTr.out.below HW1.out)
      have HB1 := hidD (HB.out.trans (HW1.out.mono HB.out.size))
      have d0 := (opx_cells Ho2.out 0 rfl).1
      have d1 := (opx_cells Ho2.out 1 rfl).1
      have d2 := (opx_cells Ho2.out 2 rfl).1
      have d3 := (opx_cells Ho2.out 3 rfl).1
      have d4 := (opx_cells Ho2.out 4 rfl).1
      have d5 := (opx_cells Ho2.out 5 rfl).1
      have d6 := (opx_cells Ho2.out 6 rfl).1
      have d7 := (opx_cells Ho2.out 7 rfl).1
      have d8 := (opx_cells Ho2.out 8 rfl).1
      clear ha hb1 c0 c1 c2 c3 c4 c5 c6 c7 c8 HKo Ho1 HTr HB
      generalize htk : takO o = T
      cases st with
      | take _ _ h1 hC =>
        obtain rfl : T = true := by rw [← htk]; exact h1
        have HC : Hid (Calls Tryz.prog 55 #[.pointer (some ⟨w.heap.size, 0, none⟩), .agg (opC o)] w1 fun e w' => e = .returned (.tuple #[]) ∧ ∃ v v', TrM w.heap.size w.heap.size v v' cs' ms' w' ∧ Below w.heap.size w1 w') := hC _ _ _ _ _ HTr1.out (Nat.le_refl _)
        unfold opC at HC
        clear hC h1 htk
        go_wp2_with fail
        refine HC.out.mono ?_
        rintro e w2 ⟨rfl, v, v', t2, b2⟩
        have HI2 : Hid (TmI w w2 (S (k + 1))) := by show TmI _ _ _; rw [HSk'.out]; exact ⟨⟨v, v', t2⟩, HB1.out.trans b2⟩
        clear t2 b2
        go_wp2_with fail
        go_roundw
        case rel => exact HRe.out _ HI2.out
        case measure => simp [intOf]; omega
      | mark h1 =>
        obtain rfl : T = false := by rw [← htk]; unfold takO; rw [h1]; rfl
        have z1 : (o.kind == 1) = true := by rw [h1]; rfl
        clear htk h1
        have hbw : w.heap.size < w1.heap.size := lt_of_blk HTr1.out.box
        have hbq := Nat.ne_of_lt hbw
        obtain ⟨r0, r1, rf⟩ := HTr1.out.cells
        have y1 := rf 1
        have HA : Hid (TrM w.heap.size w.heap.size (.slice pc L cc) (.slice pm M cm) cs ms (w1.drew.alloc (.cells #[.int .i64 (L : Int)] 3))) := HTr1.out.below ((Below.refl _ _).drew.alloc (Nat.le_refl _) _)
        have HBA : Hid (w.heap.size ≤ (w1.drew.alloc (.cells #[.int .i64 (L : Int)] 3)).heap.size) := by show _ ≤ _; simp; omega
        have HCA : Hid (∀ j u, (rowV inC [(L : Int)])[j]? = some u → (w1.drew.alloc (.cells #[.int .i64 (L : Int)] 3)).cell? ⟨w1.heap.size, j, none⟩ = some u) := fun j u hj => new_cells w1.drew #[.int .i64 (L : Int)] 3 j u hj
        have HNe : Hid (wr.heap.size ≠ w.heap.size) := fun e => by
          have := Ho2.out
          rw [e, HTr1.out.box] at this
          injection this with this
          injection this with _ this
          exact absurd this (by decide)
        have HR : Hid (∀ w5 v5, w5.ownsRow w.heap.size 3 1 v5 (M + 1) (rowV inC ms ++ rowV inC [(L : Int)]) → World.grownBy (w1.drew.alloc (.cells #[.int .i64 (L : Int)] 3)) w5 (Value.slice pm M cm).ownBlock → w5.heap[w.heap.size]? = some (.cells #[.slice pc L cc, .slice pm M cm] 118) ∧ TrM w.heap.size w.heap.size (.slice pc L cc) v5 cs (ms ++ [(L : Int)]) (w5.setCell ⟨w.heap.size, 1, none⟩ v5) ∧ Below w.heap.size w (w5.setCell ⟨w.heap.size, 1, none⟩ v5) ∧ (w5.setCell ⟨w.heap.size, 1, none⟩ v5).heap[wr.heap.size]? = some (.cells #[.int .i64 o.kind, .float .f64 o.x, .float .f64 o.y, .int .i64 o.day, .int .i64 o.to, .int .i64 o.cur, .int .i64 o.count, .int .i64 o.n, .int .i64 o.months] 47)) := fun w5 v5 h5 g5 => by
          have h6 := tr_mark HA.out (Nat.le_refl _) (L : Int) (by rw [HLm.out]; exact h5) g5
          have hq : wr.heap.size < w1.heap.size := lt_of_blk Ho2.out
          have ho : (w1.drew.alloc (.cells #[.int .i64 (L : Int)] 3)).heap[wr.heap.size]? = some (.cells #[.int .i64 o.kind, .float .f64 o.x, .float .f64 o.y, .int .i64 o.day, .int .i64 o.to, .int .i64 o.cur, .int .i64 o.count, .int .i64 o.n, .int .i64 o.months] 47) := by rw [al_at, if_neg (by simp; omega)]; exact Ho2.out
          have ho5 : w5.heap[wr.heap.size]? = some (.cells #[.int .i64 o.kind, .float .f64 o.x, .float .f64 o.y, .int .i64 o.day, .int .i64 o.to, .int .i64 o.cur, .int .i64 o.count, .int .i64 o.n, .int .i64 o.months] 47) := (g5.block _ (lt_of_blk ho) (fun e => orow_box HA.out.marks ho (by decide) _ e.symm rfl)).trans ho
          exact ⟨h6.1, h6.2.1, (HB1.out.trans ((Below.refl w.heap.size w1).drew.alloc (Nat.le_of_lt hbw) _)).trans h6.2.2, (blkF_far _ _ _ _ HNe.out).trans ho5⟩
        have HAd : Hid (∀ (wx : World) (mv' : Value), TrM w.heap.size w.heap.size (.slice pc L cc) mv' cs (ms ++ [(L : Int)]) wx → Calls Tryz.prog 56 #[.pointer (some ⟨w.heap.size, 0, none⟩), .agg (opC o), .int .i64 0] wx fun e w' => e = .returned (.tuple #[]) ∧ ∃ v, TrM w.heap.size w.heap.size v mv' (cs ++ [(o, 0)]) (ms ++ [(L : Int)]) w' ∧ Below w.heap.size wx w') := fun wx mv' t => trAdd_any _ _ _ _ _ _ o 0 wx t (Nat.le_refl _) (by rw [HLc.out]; omega)
        unfold opC at HAd
        have iL : IntKind.i64.wrap (L : Int) = (L : Int) := by rw [IntKind.wrap_i64]; omega
        clear rf
        go_wp2_with fail
        go_region_law (refine step_append_g Tryz.underlying101 info_int rfl (by decide) rfl (.tmp 35) (.tmp 41) rfl w.heap.size (.slice pm M cm) M (rowV inC ms) rfl (by have := HA.out.marks; rw [HLm.out] at this; exact this) HBA.out w1.heap.size 1 1 (rowV inC [(L : Int)]) rfl rfl HCA.out (rowV_one inC_one _) (by omega) (by omega) ?_; intro v5 w5 ho5 hg5; have te := HR.out w5 v5 ho5 hg5; obtain ⟨p5, c5, g5, hv5, _, _, hp5, _⟩ := orow_src ho5; obtain rfl := hp5 (by omega); subst hv5; clear hp5; have HTE := hidD te; have q5 := (opx_cells te.1 1 rfl).1; have y5 := (opx_cells te.1 1 rfl).2; clear ho5 hg5 te)
        all_goals
          obtain ⟨w6, hw6⟩ : ∃ w6, w5.setCell ⟨w.heap.size, 1, none⟩ (.slice (some ⟨g5, 0, none⟩) (M + 1) c5) = w6 := ⟨_, rfl⟩
          rw [hw6] at HTE ⊢
          clear hw6 q5 y5 d0 d1 d2 d3 d4 d5 d6 d7 d8 r0 r1 y1
          have d0 := (opx_cells HTE.out.2.2.2 0 rfl).1
          have d1 := (opx_cells HTE.out.2.2.2 1 rfl).1
          have d2 := (opx_cells HTE.out.2.2.2 2 rfl).1
          have d3 := (opx_cells HTE.out.2.2.2 3 rfl).1
          have d4 := (opx_cells HTE.out.2.2.2 4 rfl).1
          have d5 := (opx_cells HTE.out.2.2.2 5 rfl).1
          have d6 := (opx_cells HTE.out.2.2.2 6 rfl).1
          have d7 := (opx_cells HTE.out.2.2.2 7 rfl).1
          have d8 := (opx_cells HTE.out.2.2.2 8 rfl).1
          go_wp2_with fail
          refine (HAd.out _ _ HTE.out.2.1).mono ?_
          rintro e w2 ⟨rfl, v, t2, b2⟩
          have HI2 : Hid (TmI w w2 (S (k + 1))) := by show TmI _ _ _; rw [HSk'.out, HLc.out]; exact ⟨⟨v, _, t2⟩, HTE.out.2.2.1.trans b2⟩
          clear t2 b2
          go_wp2_with fail
          go_roundw
          case rel => exact HRe.out _ HI2.out
          case measure => simp [intOf]; omega
      | other h1 h2 =>
        obtain rfl : T = false := by rw [← htk]; exact h2
        have z1 : (o.kind == 1) = false := beq_eq_false_iff_ne.2 h1
        have HC : Hid (Calls Tryz.prog 56 #[.pointer (some ⟨w.heap.size, 0, none⟩), .agg (opC o), .int .i64 0] w1 fun e w' => e = .returned (.tuple #[]) ∧ ∃ v, TrM w.heap.size w.heap.size v (.slice pm M cm) (cs ++ [(o, 0)]) ms w' ∧ Below w.heap.size w1 w') := trAdd_any _ _ _ _ _ _ o 0 w1 HTr1.out (Nat.le_refl _) (by rw [HLc.out]; omega)
        unfold opC at HC
        clear h1 h2 htk
        go_wp2_with fail
        refine HC.out.mono ?_
        rintro e w2 ⟨rfl, v, t2, b2⟩
        have HI2 : Hid (TmI w w2 (S (k + 1))) := by show TmI _ _ _; rw [HSk'.out]; exact ⟨⟨v, _, t2⟩, HB1.out.trans b2⟩
        clear t2 b2
        go_wp2_with fail
        go_roundw
        case rel => exact HRe.out _ HI2.out
        case measure => simp [intOf]; omega
    · obtain rfl : k = n := by omega
      obtain ⟨cv, mv, tr⟩ := HI.out.t
      have HB := hidD HI.out.b
      obtain ⟨pc, cc, gc, hcv, -, -, hpc, -⟩ := orow_src tr.code
      subst hcv
      rcases hsk : S k with ⟨cs, ms⟩
      rw [hsk] at tr hpc
      obtain ⟨hl1, _⟩ := HL.out k hk
      rw [hsk] at hl1
      dsimp only at tr hpc hl1
      obtain ⟨L, hL⟩ : ∃ L, cs.length = L := ⟨_, rfl⟩
      have HLc := hidD hL
      have HSk := hidD hsk
      rw [hL] at tr hpc hl1
      have HTr := hidD tr
      have Hpc := hidD hpc
      clear tr hsk HI hL hpc HT HL HS
      obtain ⟨r0, _, _⟩ := HTr.out.cells
      have HZ0 : Hid (wr.ownsRow w.heap.size 47 9 (.slice none 0 0) 0 (rowV opC ((cs.map Prod.fst).take 0)) ∧ TrM w.heap.size w.heap.size (.slice pc L cc) mv cs ms wr ∧ Below w.heap.size w wr) := ⟨orow_nil _ _ _ _, HTr.out, HB.out⟩
      clear HTr HB
      go_wp2_with fail
      go_loopw [6, 54] (fun sv i wx => ∃ j : Nat, j ≤ L ∧ i = .int .i64 j ∧ Hid (wx.ownsRow w.heap.size 47 9 sv j (rowV opC ((cs.map Prod.fst).take j)) ∧ TrM w.heap.size w.heap.size (.slice pc L cc) mv cs ms wx ∧ Below w.heap.size w wx)) (fun _ i _ => L - (intOf i).toNat)
      case atStart => exact ⟨0, Nat.zero_le _, rfl, HZ0⟩
      case round =>
        clear HZ0 r0
        obtain ⟨j, hj, rfl, HJ⟩ := hrel
        obtain ⟨ps, cq, gs, hsv, -⟩ := orow_src HJ.out.1
        subst hsv
        by_cases hlt : j < L
        · obtain ⟨pc', cc', gc', hcv', _, _, hpc', _, hbk, hcl, _⟩ := orow_src HJ.out.2.1.code
          rw [HLc.out] at hcv' hpc' hcl
          injection hcv' with e1 _ e3
          obtain rfl := hpc' (by omega)
          subst e1 e3
          have hgl : gc' < wr.heap.size := (hbk _ rfl).2.2
          have hgn := Nat.ne_of_lt hgl
          have hx : ∀ t < 10, wr.cell? ⟨gc', j * 10 + t, none⟩ = (keC (cs.getD j (opr0, 0)))[t]? := fun t ht => by
            rw [hcl _ (by omega), rowV_get keC_size (opr0, 0) cs j t (by rw [HLc.out]; exact hlt) ht]
          have c0 := hx 0 (by decide)
          have c1 := hx 1 (by decide)
          have c2 := hx 2 (by decide)
          have c3 := hx 3 (by decide)
          have c4 := hx 4 (by decide)
          have c5 := hx 5 (by decide)
          have c6 := hx 6 (by decide)
          have c7 := hx 7 (by decide)
          have c8 := hx 8 (by decide)
          have c9 := hx 9 (by decide)
          have HTk : Hid ((cs.map Prod.fst).take (j + 1) = (cs.map Prod.fst).take j ++ [(cs.getD j (opr0, 0)).1]) := by
            show _ = _
            rw [take_more _ opr0 j (by rw [List.length_map, HLc.out]; exact hlt)]
            congr 2
            simp [List.getD]
            cases cs[j]? <;> rfl
          generalize cs.getD j (opr0, 0) = oy at c0 c1 c2 c3 c4 c5 c6 c7 c8 c9 HTk
          obtain ⟨o, y⟩ := oy
          simp only [keC, Nat.add_zero] at c0 c1 c2 c3 c4 c5 c6 c7 c8 c9
          have HLt : Hid (((cs.map Prod.fst).take j).length = j) := by show _ = _; rw [List.length_take, List.length_map, HLc.out]; omega
          clear hx hcl hbk hpc'
          have i1 : (j : Int) < (L : Int) := by omega
          have HW : Hid (Below wr.heap.size wr ((wr.alloc (.cells #[.int .i64 o.kind, .float .f64 o.x, .float .f64 o.y, .int .i64 o.day, .int .i64 o.to, .int .i64 o.cur, .int .i64 o.count, .int .i64 o.n, .int .i64 o.months, .int .i64 y] 122)).alloc (.cells #[.int .i64 o.kind, .float .f64 o.x, .float .f64 o.y, .int .i64 o.day, .int .i64 o.to, .int .i64 o.cur, .int .i64 o.count, .int .i64 o.n, .int .i64 o.months] 47))) := ((Below.refl _ _).alloc (Nat.le_refl _) _).alloc (by simp) _
          have HJ1 : Hid (((wr.alloc (.cells #[.int .i64 o.kind, .float .f64 o.x, .float .f64 o.y, .int .i64 o.day, .int .i64 o.to, .int .i64 o.cur, .int .i64 o.count, .int .i64 o.n, .int .i64 o.months, .int .i64 y] 122)).alloc (.cells #[.int .i64 o.kind, .float .f64 o.x, .float .f64 o.y, .int .i64 o.day, .int .i64 o.to, .int .i64 o.cur, .int .i64 o.count, .int .i64 o.n, .int .i64 o.months] 47)).ownsRow w.heap.size 47 9 (.slice ps j cq) j (rowV opC ((cs.map Prod.fst).take j)) ∧ TrM w.heap.size w.heap.size (.slice (some ⟨gc', 0, none⟩) L cc) mv cs ms ((wr.alloc (.cells #[.int .i64 o.kind, .float .f64 o.x, .float .f64 o.y, .int .i64 o.day, .int .i64 o.to, .int .i64 o.cur, .int .i64 o.count, .int .i64 o.n, .int .i64 o.months, .int .i64 y] 122)).alloc (.cells #[.int .i64 o.kind, .float .f64 o.x, .float .f64 o.y, .int .i64 o.day, .int .i64 o.to, .int .i64 o.cur, .int .i64 o.count, .int .i64 o.n, .int .i64 o.months] 47)) ∧ Below w.heap.size w ((wr.alloc (.cells #[.int .i64 o.kind, .float .f64 o.x, .float .f64 o.y, .int .i64 o.day, .int .i64 o.to, .int .i64 o.cur, .int .i64 o.count, .int .i64 o.n, .int .i64 o.months, .int .i64 y] 122)).alloc (.cells #[.int .i64 o.kind, .float .f64 o.x, .float .f64 o.y, .int .i64 o.day, .int .i64 o.to, .int .i64 o.cur, .int .i64 o.count, .int .i64 o.n, .int .i64 o.months] 47))) := ⟨orow_below HJ.out.1 HW.out, HJ.out.2.1.below HW.out, HJ.out.2.2.trans (HW.out.mono HJ.out.2.2.size)⟩
          have HC4 : Hid (∀ i u, (rowV opC [o])[i]? = some u → ((wr.alloc (.cells #[.int .i64 o.kind, .float .f64 o.x, .float .f64 o.y, .int .i64 o.day, .int .i64 o.to, .int .i64 o.cur, .int .i64 o.count, .int .i64 o.n, .int .i64 o.months, .int .i64 y] 122)).alloc (.cells #[.int .i64 o.kind, .float .f64 o.x, .float .f64 o.y, .int .i64 o.day, .int .i64 o.to, .int .i64 o.cur, .int .i64 o.count, .int .i64 o.n, .int .i64 o.months] 47)).cell? ⟨wr.heap.size + 1, i, none⟩ = some u) := fun i u hj => by
            have := new_cells (wr.alloc (.cells #[.int .i64 o.kind, .float .f64 o.x, .float .f64 o.y, .int .i64 o.day, .int .i64 o.to, .int .i64 o.cur, .int .i64 o.count, .int .i64 o.n, .int .i64 o.months, .int .i64 y] 122)) (opC o) 47 i u (by simpa [rowV] using hj)
            rw [sz_al] at this
            exact this
          clear HJ HW
          go_wp2_with (at_builtin; refine wpList_append_g _ Tryz.underlying24 info_opC rfl (by decide) rfl (.tmp 58) (.tmp 61) rfl w.heap.size (.slice ps j cq) j (rowV opC ((cs.map Prod.fst).take j)) rfl HJ1.out.1 HJ1.out.2.2.size (wr.heap.size + 1) 1 1 (rowV opC [o]) rfl rfl HC4.out (rowV_one opC_one _) (by omega) (by omega) ?_; intro v5 w5 ho5 hg5; have HE5 : Hid (w5.ownsRow w.heap.size 47 9 v5 (j + 1) (rowV opC ((cs.map Prod.fst).take (j + 1))) ∧ TrM w.heap.size w.heap.size (.slice (some ⟨gc', 0, none⟩) L cc) mv cs ms w5 ∧ Below w.heap.size w w5) := tr_loop HJ1.out.2.2.size HJ1.out HTk.out ho5 hg5; clear ho5 hg5)
          go_roundw
          case rel => exact ⟨j + 1, hlt, by simp, HE5⟩
          case measure => simp [intOf]; omega
        · obtain rfl : j = L := by omega
          have HF : Hid (wr.ownsRow w.heap.size 47 9 (.slice ps j cq) j (rowV opC (cs.map Prod.fst)) ∧ Below w.heap.size w wr) := by
            have h1 := HJ.out.1
            rw [List.take_of_length_le (by rw [List.length_map, HLc.out]; exact Nat.le_refl _)] at h1
            exact ⟨h1, HJ.out.2.2⟩
          clear HJ
          go_wp2_with fail
          go_ret
          exact ⟨_, rfl, by rw [HSk.out]; dsimp only; rw [HLc.out]; exact HF.out.1, HF.out.2⟩
end Go.Proofs.YtienedhaogjahaaGreatDoor
namespace Go.Proofs.YtienedhaogjahaaGreatDoor
open Go.RowKit

set_option maxRecDepth 20000 in
theorem cTrim_go {l : List Opr} {m : Int} (hm : MeaR l m 0 0) (n : Nat) (p : Option Addr) (b0 off c : Nat) (hn : l.length = n) (hn2 : n ≤ 90000) (hu : ∀ i < n, OpU (l.getD i opr0)) (S : Nat → List (Opr × Int) × List Int) (hS0 : S 0 = ([], []))
    (hS : ∀ k < n, TStep (l.getD k opr0) (S k).1 (S k).2 (S (k + 1))) (hl : ∀ k ≤ n, (S k).1.length ≤ 90000 ∧ (S k).2.length ≤ 90000) (w : World) (hs : OSrc w p b0 off l) :
    Calls Tryz.prog 17 #[.slice p n c] w fun e w' => ∃ v, e = .returned (.tuple #[v, .int .i64 0]) ∧ w'.ownsRow w.heap.size 47 9 v (S n).1.length (rowV opC ((S n).1.map Prod.fst)) ∧ Below w.heap.size w w' := by
  have H1 := hidD (cCheck_is hm n p b0 off c w hs hn hu (by omega))
  have H2 : Hid (∀ w1, Below w.heap.size w w1 → Calls Tryz.prog 33 #[.slice p n c] w1 fun e w' => ∃ v, e = .returned v ∧ w'.ownsRow w.heap.size 47 9 v (S n).1.length (rowV opC ((S n).1.map Prod.fst)) ∧ Below w.heap.size w w') := fun w1 hb => (trimmed_go l n p b0 off c hn hn2 S hS0 hS hl w1 (hs.below hb)).mono fun e w' ⟨v, he, ho, hb'⟩ => ⟨v, he, orow_lower ho hb.size, hb.trans (hb'.mono hb.size)⟩
  clear hm hn hn2 hu hS0 hS hl hs
  go_enter Tryz.func17, Tryz.ntmps17
  go_wp2_with fail
  refine H1.out.mono ?_
  rintro e w1 ⟨rfl, hb⟩
  have HT := hidD (H2.out w1 hb)
  clear hb
  go_wp2_with fail
  refine HT.out.mono ?_
  rintro e w2 ⟨v, rfl, ho, hb⟩
  have HE := hidD (And.intro ho hb)
  clear ho hb
  go_wp2_with fail
  go_ret2
  exact ⟨_, rfl, HE.out.1, HE.out.2⟩
def tr18 : Nat → List (Opr × Int) × List Int
  | 0 => ([], [])
  | 1 => ([(markO, 0)], [0])
  | 2 => ([(markO, 0), (markO, 0)], [0, 1])
  | 3 => ([(markO, 0), (markO, 0), (opT (tmP 3), 0)], [0, 1])
  | 4 => ([(markO, 0), (markO, 0), (opT (tmP 3), 0), (opT (giveT 0), 2)], [0])
  | _ => ([(opT (tmP 3), 0)], [])
theorem tr18_step (k : Nat) (hk : k < 5) : TStep (code18.getD k opr0) (tr18 k).1 (tr18 k).2 (tr18 (k + 1)) := by
  rcases (show k = 0 ∨ k = 1 ∨ k = 2 ∨ k = 3 ∨ k = 4 by omega) with rfl | rfl | rfl | rfl | rfl
  · exact .mark (by decide)
  · exact .mark (by decide)
  · exact .other (by decide) (by decide)
  · refine .take _ _ (by decide) fun B b cv mv w t hb => ?_
    refine (trTake_any B b 2 1 1 cv mv [(markO, 0), (markO, 0)] (opT (tmP 3), 0) [0] (opT (giveT 0)) w t hb rfl rfl (by decide) (by decide) (by decide) (by decide) (by decide) (fun h => absurd h (by decide)) (by decide) (by decide)).mono ?_
    rintro e w' ⟨he, v, v', t', b'⟩
    rw [if_neg (by decide)] at t'
    exact ⟨he, v, v', t', b'⟩
  · refine .take _ _ (by decide) fun B b cv mv w t hb => ?_
    refine (trTake_any B b 3 0 0 cv mv [(markO, 0), (markO, 0), (opT (tmP 3), 0)] (opT (giveT 0), 2) [] (opT (giveT 1)) w t hb rfl rfl (by decide) (by decide) (by decide) (by decide) (by decide) (fun _ => by decide) (by decide) (by decide)).mono ?_
    rintro e w' ⟨he, v, v', t', b'⟩
    rw [if_pos (by decide)] at t'
    exact ⟨he, v, v', t', b'⟩
theorem cTrim18 (p : Option Addr) (b off c : Nat) (w : World) (hs : OSrc w p b off code18) : Calls Tryz.prog 17 #[.slice p 5 c] w fun e w' => ∃ v, e = .returned (.tuple #[v, .int .i64 0]) ∧ w'.ownsRow w.heap.size 47 9 v 1 (rowV opC [opT (tmP 3)]) ∧ Below w.heap.size w w' :=
  cTrim_go mea18 5 p b off c rfl (by decide) opu18 tr18 rfl tr18_step (fun k hk => by
    rcases (show k = 0 ∨ k = 1 ∨ k = 2 ∨ k = 3 ∨ k = 4 ∨ k = 5 by omega) with rfl | rfl | rfl | rfl | rfl | rfl <;> exact ⟨by decide, by decide⟩) w hs
end Go.Proofs.YtienedhaogjahaaGreatDoor
namespace Go.Proofs.YtienedhaogjahaaGreatDoor
open Go.RowKit

set_option maxRecDepth 20000 in
set_option maxHeartbeats 12800000 in
theorem awake18 (w : World) {bp op cp : Nat} (hp : PfT 6 5 9 bp op cp w) :
    Calls Tryz.prog 7 #[] w fun e w' => e = .returned (.bool true) ∧ Below w.heap.size w w' := by
  have HP := hidD (parse18 w hp)
  clear hp
  go_enter Tryz.func7, Tryz.ntmps7
  go_wp2_with fail
  refine HP.out.mono ?_
  rintro e w1 ⟨v, rfl, ht, hb⟩
  obtain ⟨g, c, rfl⟩ := ht.full (by simp)
  have hr : TmR w1 g tree18 := ht.read
  have HB1 := hidD hb
  have HC := hidD (cCompile18 g c w1 hr)
  clear ht hb hr
  go_wp2_with fail
  refine HC.out.mono ?_
  rintro e w2 ⟨v2, rfl, ho, hb⟩
  have HB2 := hidD (HB1.out.trans (hb.mono HB1.out.size))
  obtain ⟨p2, c2, _, rfl, -⟩ := orow_src ho
  obtain ⟨g2, hs2⟩ := osrc_of ho rfl
  have HS2 := hidD hs2
  have HT := hidD (cTrim18 p2 g2 0 c2 w2 hs2)
  clear ho hb hs2
  go_wp2_with fail
  refine HT.out.mono ?_
  rintro e w3 ⟨v3, rfl, ho, hb⟩
  have HB3 := hidD (HB2.out.trans (hb.mono HB2.out.size))
  obtain ⟨p3, c3, _, rfl, -⟩ := orow_src ho
  have HM := hidD (cMarks18 p2 g2 0 c2 w3 (HS2.out.below hb))
  clear ho hb
  go_wp2_with fail
  refine HM.out.mono ?_
  rintro e w4 ⟨rfl, hb⟩
  have HB4 := hidD (HB3.out.trans (hb.mono HB3.out.size))
  have HK := hidD (cBack_nil w4)
  clear hb
  go_wp2_with fail
  refine HK.out.mono ?_
  rintro e w5 ⟨v5, rfl, ht, hb⟩
  have HB5 := hidD (HB4.out.trans (hb.mono HB4.out.size))
  obtain ⟨g5, c5, rfl⟩ := ht.full (by simp)
  have z0 : w5.cell? ⟨g5, 0, none⟩ = some (.int .i64 1) := ht.read.c0 0 (by decide)
  clear ht hb
  go_wp2_with fail
  go_ret
  exact ⟨rfl, HB5.out⟩
end Go.Proofs.YtienedhaogjahaaGreatDoor
namespace Go.Proofs.YtienedhaogjahaaGreatDoor
open Go.RowKit

theorem trC_one (t : Trm) : ∀ u ∈ (trC t).toList, u.oneCell' = true := fun u h => by
  simp only [trC, List.mem_cons, List.not_mem_nil, or_false] at h
  rcases h with rfl | rfl | rfl | rfl | rfl | rfl | rfl | rfl | rfl | rfl | rfl <;> rfl
structure BlM (B b : Nat) (tv pv : Value) (ts : List Trm) (ps : List Int) (w : World) : Prop where
  box : w.heap[b]? = some (.cells #[tv, pv] 108)
  terms : w.ownsRow B 50 11 tv ts.length (rowV trC ts)
  pieces : w.ownsRow B 3 1 pv ps.length (rowV inC ps)
theorem BlM.below {B b : Nat} {tv pv : Value} {ts : List Trm} {ps : List Int} {w w' : World} (h : BlM B b tv pv ts ps w) (hb : Below w.heap.size w w') : BlM B b tv pv ts ps w' :=
  ⟨(hb.block _ (lt_of_blk h.box)).trans h.box, orow_below h.terms hb, orow_below h.pieces hb⟩
theorem BlM.cells {B b : Nat} {tv pv : Value} {ts : List Trm} {ps : List Int} {w : World} (h : BlM B b tv pv ts ps w) : w.cell? ⟨b, 0, none⟩ = some tv ∧ w.cell? ⟨b, 1, none⟩ = some pv ∧ ∀ i, w.frozen? ⟨b, i, none⟩ = false := by
  have h := h.box
  refine ⟨?_, ?_, fun i => by simp [World.frozen?, h]⟩ <;>
  · simp only [World.cell?, h, Option.isSome_none, Bool.false_eq_true, if_false]; rfl
theorem BlM.reterm {B b : Nat} {tv pv tv' : Value} {ts ts' : List Trm} {ps : List Int} {w w5 : World} (h : BlM B b tv pv ts ps w) (hb : B ≤ b) (hB : B ≤ w.heap.size) (hg : w.grownBy w5 tv.ownBlock) (ho : w5.ownsRow B 50 11 tv' ts'.length (rowV trC ts')) :
    w5.heap[b]? = some (.cells #[tv, pv] 108) ∧ BlM B b tv' pv ts' ps (w5.setCell ⟨b, 0, none⟩ tv') ∧ Below B w (w5.setCell ⟨b, 0, none⟩ tv') := by
  have h5 : w5.heap[b]? = some (.cells #[tv, pv] 108) := (hg.block b (lt_of_blk h.box) (fun e => orow_box h.terms h.box (by decide) b e.symm rfl)).trans h.box
  refine ⟨h5, ⟨(heap_setCell_same w5 b 0 _ _ _ h5).trans rfl, orow_keep ho fun g hg => blkF_far _ _ _ _ (orow_box ho h5 (by decide) g hg), ?_⟩, (orow_grown h.terms hg hB).setCell (p := ⟨b, 0, none⟩) hb _⟩
  have hm := h.pieces.kept hg (orow_apart h.pieces h.terms (by decide))
  exact orow_keep hm fun g hg => blkF_far _ _ _ _ (orow_box hm h5 (by decide) g hg)
theorem BlM.repiece {B b : Nat} {tv pv pv' : Value} {ts : List Trm} {ps ps' : List Int} {w w5 : World} (h : BlM B b tv pv ts ps w) (hb : B ≤ b) (hB : B ≤ w.heap.size) (hg : w.grownBy w5 pv.ownBlock) (ho : w5.ownsRow B 3 1 pv' ps'.length (rowV inC ps')) :
    w5.heap[b]? = some (.cells #[tv, pv] 108) ∧ BlM B b tv pv' ts ps' (w5.setCell ⟨b, 1, none⟩ pv') ∧ Below B w (w5.setCell ⟨b, 1, none⟩ pv') := by
  have h5 : w5.heap[b]? = some (.cells #[tv, pv] 108) := (hg.block b (lt_of_blk h.box) (fun e => orow_box h.pieces h.box (by decide) b e.symm rfl)).trans h.box
  have hc := h.terms.kept hg (orow_apart h.terms h.pieces (by decide))
  exact ⟨h5, ⟨(heap_setCell_same w5 b 1 _ _ _ h5).trans rfl, orow_keep hc fun g hg => blkF_far _ _ _ _ (orow_box hc h5 (by decide) g hg), orow_keep ho fun g hg => blkF_far _ _ _ _ (orow_box ho h5 (by decide) g hg)⟩, (orow_grown h.pieces hg hB).setCell (p := ⟨b, 1, none⟩) hb _⟩
theorem info_trC : (Tryz.prog.info? 50).map (fun i => (i.zero, i.size, i.bytes)) = some (some (.agg #[.int .i64 0, .int .i64 0, .int .i64 0, .float .f64 0, .float .f64 0, .int .i64 0, .int .i64 0, .int .i64 0, .int .i64 0, .int .i64 0, .int .i64 0]), 11, 88) := info_trm
theorem tc_cells (w : World) (t : Trm) : ∀ j u, (rowV trC [t])[j]? = some u → (w.alloc (.cells (trC t) 50)).cell? ⟨w.heap.size, j, none⟩ = some u := fun j u hj => new_cells w (trC t) _ j u (by simpa [rowV] using hj)
structure KpB (b : Nat) (tb : Option Nat) (v : Value) (w w' : World) : Prop where
  keep : ∀ g < w.heap.size, g ≠ b → some g ≠ tb → w'.heap[g]? = w.heap[g]?
  lies : v.ownBlock = tb ∨ ∀ g, v.ownBlock = some g → w.heap.size ≤ g
theorem step_append_h {T ST : TypeId} {z : Value} {sz bt : Nat} (hu : Tryz.prog.underlying ST = some (.slice T)) (hinf : (Tryz.prog.info? T).map (fun i => (i.zero, i.size, i.bytes)) = some (some z, sz, bt)) (hzs : z.cells.size = sz) (hsz : 0 < sz)
    {ops : Array Oper} {o : Oper} {a : Act} {w : World} {K : Act → World → Prop} {Q : Exit → Act → World → Prop} {E : Prop} (hgd : o.guard = none) (s x : Operand)
    (ho : o.op = .call { callee := .builtin .append, args := #[s, x], argTypes := #[ST, ST] })
    (B : Nat) (v : Value) (n : Nat) (xs : List Value) (hs : a.eval s = v) (hown : w.ownsRow B T sz v n xs) (hb : B ≤ w.heap.size)
    (g m c : Nat) (news : List Value) (hx : a.eval x = .slice (some ⟨g, 0, none⟩) m c) (hl : news.length = m * sz) (hc : ∀ j u, news[j]? = some u → w.cell? ⟨g, j, none⟩ = some u) (h1 : ∀ u ∈ news, u.oneCell' = true) (hn : n + m ≤ 140737488355328) (hn2 : (n + m) * bt ≤ 140737488355328)
    (h : ∀ v' w', w'.ownsRow B T sz v' (n + m) (xs ++ news) → w.grownBy w' v.ownBlock → (v'.ownBlock = v.ownBlock ∨ v'.ownBlock = some w.heap.size) → K (a.put o.dst v') w') :
    if Region.wanted o (yielded ops a.tmps) = true then Oper.wp Tryz.prog o a w K Q else E := by
  have hw : Region.wanted o (yielded ops a.tmps) = true := by simp [Region.wanted, hgd]
  rw [if_pos hw]
  obtain ⟨i0, hi, hz0, hz1, hz2⟩ := info_partsD hinf
  obtain ⟨v', w', hr, h2, h3, _, h4⟩ := run_append_own_at (P := Tryz.prog) w B ST o.type T i0 z sz bt hu hi hz0 hz1 hz2 hzs hsz v n xs hown ⟨g, 0, none⟩ m c news hl (fun j u hj => by rw [Addr.add_lit, Nat.zero_add]; exact hc j u hj) h1 (by unfold maxLen; omega) hn2 hb
  unfold Oper.wp execOp
  simp only [ho, resolve, invoke, builtin, Sem.run_bind, Sem.run_pure, Result.andThen_ok, List.map_toArray, List.map_cons, List.map_nil, hs, hx, hr]
  exact h v' w' h2 h3 h4
set_option maxRecDepth 20000 in
set_option maxHeartbeats 12800000 in
theorem blAdd_any (B b : Nat) (tv pv : Value) (ts : List Trm) (ps : List Int) (t : Trm) (w : World) (h : BlM B b tv pv ts ps w) (hb : B ≤ b) (hn : ts.length ≤ 100000) :
    Calls Tryz.prog 51 #[.pointer (some ⟨b, 0, none⟩), .agg (trC t)] w fun e w' => e = .returned (.int .i64 (ts.length : Int)) ∧ (∃ v, BlM B b v pv (ts ++ [t]) ps w' ∧ KpB b tv.ownBlock v w w') ∧ Below B w w' := by
  have hbw := lt_of_blk h.box
  have HBw : Hid (B ≤ w.heap.size) := by show _ ≤ _; omega
  obtain ⟨p, c, g, hcv, _⟩ := orow_src h.terms
  subst hcv
  have HW1 := hidD (al_bel w (.cells (trC t) 50))
  have H1 := hidD (h.below HW1.out)
  have HT1 : Hid ((w.alloc (.cells (trC t) 50)).heap[w.heap.size]? = some (.cells (trC t) 50)) := heap_alloc_new _ _
  have hst := store_fltD
  have HN := hidD hn
  have HBb := hidD hb
  obtain ⟨L, hL⟩ : ∃ L, ts.length = L := ⟨_, rfl⟩
  have HL := hidD hL
  rw [hL]
  clear h hn
  unfold trC at H1 HT1 HW1 ⊢
  have hs1 : (w.alloc (.cells #[.int .i64 t.kind, .int .i64 t.a, .int .i64 t.b, .float .f64 t.x, .float .f64 t.y, .int .i64 t.day, .int .i64 t.to, .int .i64 t.cur, .int .i64 t.count, .int .i64 t.n, .int .i64 t.months] 50)).heap.size = w.heap.size + 1 := by simp
  go_enter Tryz.func51, Tryz.ntmps51
  go_wp2_with fail
  obtain ⟨w1, hw1⟩ : ∃ w1, w.alloc (.cells #[.int .i64 t.kind, .int .i64 t.a, .int .i64 t.b, .float .f64 t.x, .float .f64 t.y, .int .i64 t.day, .int .i64 t.to, .int .i64 t.cur, .int .i64 t.count, .int .i64 t.n, .int .i64 t.months] 50) = w1 := ⟨_, rfl⟩
  rw [hw1] at H1 HT1 HW1 hs1 ⊢
  have HB1 : Hid (B ≤ w1.heap.size) := Nat.le_trans HBw.out HW1.out.size
  obtain ⟨r0, _, rf⟩ := H1.out.cells
  have y0 := rf 0
  have z0 := (opx_cells HT1.out 0 rfl).1
  have z1 := (opx_cells HT1.out 1 rfl).1
  have z2 := (opx_cells HT1.out 2 rfl).1
  have z3 := (opx_cells HT1.out 3 rfl).1
  have z4 := (opx_cells HT1.out 4 rfl).1
  have z5 := (opx_cells HT1.out 5 rfl).1
  have z6 := (opx_cells HT1.out 6 rfl).1
  have z7 := (opx_cells HT1.out 7 rfl).1
  have z8 := (opx_cells HT1.out 8 rfl).1
  have z9 := (opx_cells HT1.out 9 rfl).1
  have z10 := (opx_cells HT1.out 10 rfl).1
  rw [hL] at r0
  have hb1 : b < w1.heap.size := lt_of_blk H1.out.box
  have hb2 : b ≠ w1.heap.size := Nat.ne_of_lt hb1
  have hR1 : w.heap.size < w1.heap.size := by omega
  have hR2 : w.heap.size ≠ w1.heap.size := Nat.ne_of_lt hR1
  have HA : Hid (BlM B b (.slice p L c) pv ts ps (w1.drew.alloc (.cells (trC t) 50))) := by
    have := H1.out
    rw [hL] at this
    exact this.below ((Below.refl _ _).drew.alloc (Nat.le_refl _) _)
  have HBA : Hid (B ≤ (w1.drew.alloc (.cells (trC t) 50)).heap.size) := Nat.le_trans HB1.out (by simp)
  have HCA := hidD (tc_cells w1.drew t)
  have HNA : Hid (L ≤ 100000) := by show _ ≤ _; rw [← hL]; exact HN.out
  have i0 : (((L + 1 : Nat) : Int) - 1) = (L : Int) := by omega
  unfold trC at HA HCA HBA
  clear hw1 hs1 rf hL hbw
  have HR : Hid (∀ w5 v5, w5.ownsRow B 50 11 v5 (L + 1) (rowV trC ts ++ rowV trC [t]) → World.grownBy (w1.drew.alloc (.cells #[.int .i64 t.kind, .int .i64 t.a, .int .i64 t.b, .float .f64 t.x, .float .f64 t.y, .int .i64 t.day, .int .i64 t.to, .int .i64 t.cur, .int .i64 t.count, .int .i64 t.n, .int .i64 t.months] 50)) w5 (Value.slice p L c).ownBlock → (v5.ownBlock = (Value.slice p L c).ownBlock ∨ v5.ownBlock = some (w1.drew.alloc (.cells #[.int .i64 t.kind, .int .i64 t.a, .int .i64 t.b, .float .f64 t.x, .float .f64 t.y, .int .i64 t.day, .int .i64 t.to, .int .i64 t.cur, .int .i64 t.count, .int .i64 t.n, .int .i64 t.months] 50)).heap.size) → w5.heap[b]? = some (.cells #[.slice p L c, pv] 108) ∧ BlM B b v5 pv (ts ++ [t]) ps (w5.setCell ⟨b, 0, none⟩ v5) ∧ Below B w (w5.setCell ⟨b, 0, none⟩ v5) ∧ KpB b (Value.slice p L c).ownBlock v5 w (w5.setCell ⟨b, 0, none⟩ v5)) := fun w5 v5 h5 g5 l5 => by
    have h6 := HA.out.reterm HBb.out HBA.out g5 (ts' := ts ++ [t]) (row_more (by rw [HL.out]; exact h5) rfl)
    refine ⟨h6.1, h6.2.1, ((HW1.out.mono HBw.out).trans ((Below.refl B w1).drew.alloc HB1.out _)).trans h6.2.2, ⟨fun g hg hgb hgo => ?_, l5.imp id fun e g hg => ?_⟩⟩
    · rw [blkF_far _ _ _ _ hgb, g5.block g (by have := HW1.out.size; simp; omega) hgo]
      exact (((Below.refl w1.heap.size w1).drew.alloc (Nat.le_refl _) _).block g (by have := HW1.out.size; omega)).trans (HW1.out.block g hg)
    · rw [e] at hg
      injection hg with hg
      have := HW1.out.size
      rw [← hg]; simp; omega
  go_region_law (refine step_append_h Tryz.underlying22 info_trC rfl (by decide) rfl (.tmp 9) (.tmp 11) rfl B (.slice p L c) L (rowV trC ts) rfl (by have := HA.out.terms; rw [HL.out] at this; exact this) HBA.out w1.heap.size 1 1 (rowV trC [t]) rfl rfl HCA.out (rowV_one trC_one _) (by have := HNA.out; omega) (by have := HNA.out; omega) ?_; intro v5 w5 ho5 hg5 hn5; have te := HR.out w5 v5 ho5 hg5 hn5; obtain ⟨p5, c5, g5, hv5, _, _, hp5, _⟩ := orow_src ho5; obtain rfl := hp5 (by omega); subst hv5; clear hp5; have HTE := hidD te; have q5 := (opx_cells te.1 0 rfl).1; have y5 := (opx_cells te.1 0 rfl).2; clear ho5 hg5 hn5 te)
  all_goals
    have HTF : Hid (BlM B b (.slice (some ⟨g5, 0, none⟩) (L + 1) c5) pv (ts ++ [t]) ps (w5.setCell ⟨b, 0, none⟩ (.slice (some ⟨g5, 0, none⟩) (L + 1) c5)) ∧ Below B w (w5.setCell ⟨b, 0, none⟩ (.slice (some ⟨g5, 0, none⟩) (L + 1) c5)) ∧ KpB b (Value.slice p L c).ownBlock (.slice (some ⟨g5, 0, none⟩) (L + 1) c5) w (w5.setCell ⟨b, 0, none⟩ (.slice (some ⟨g5, 0, none⟩) (L + 1) c5))) := HTE.out.2
    obtain ⟨w6, hw6⟩ : ∃ w6, w5.setCell ⟨b, 0, none⟩ (.slice (some ⟨g5, 0, none⟩) (L + 1) c5) = w6 := ⟨_, rfl⟩
    rw [hw6] at HTF ⊢
    have x0 := HTF.out.1.cells.1
    have hLb : L ≤ 100000 := HNA.out
    clear hw6 q5 y5
    go_wp2_with fail
    go_ret
    exact ⟨rfl, ⟨_, HTF.out.1, HTF.out.2.2⟩, HTF.out.2.1⟩
end Go.Proofs.YtienedhaogjahaaGreatDoor
namespace Go.Proofs.YtienedhaogjahaaGreatDoor
open Go.RowKit

theorem wpList_append_opo (w : World) {ops : Array Oper} {rest : List Oper} {o : Oper} {a : Act} {Q : Exit → Act → World → Prop} (hgd : o.guard = none) (s x : Operand)
    (ho : o.op = .call { callee := .builtin .append, args := #[s, x], argTypes := #[24, 24] })
    (base : Nat) (v : Value) (n : Nat) (xs : List Value) (hs : a.eval s = v) (hown : w.ownsRow base 47 9 v n xs)
    (p : Option Addr) (b off c m : Nat) (ys : List Opr) (hx : a.eval x = .slice p m c) (hm : ys.length = m) (hsrc : OSrc w p b off ys) (hnil : p = none → m = 0 ∧ c = 0) (hn : (n + m) * 72 ≤ 140737488355328) (hbase : base ≤ w.heap.size)
    (h : ∀ v' w', w'.ownsRow base 47 9 v' (n + m) (xs ++ rowV opC ys) → w.grownBy w' v.ownBlock → wpList Tryz.prog ops Q rest (a.put o.dst v') w') : wpList Tryz.prog ops Q (o :: rest) a w := by
  obtain ⟨i0, hi, hz0, hz1, hz2⟩ := info_partsD info_opC
  cases p with
  | none =>
    obtain ⟨rfl, rfl⟩ := hnil rfl
    refine wpList_append_own_none hgd s x 24 ho base 47 i0 9 Tryz.underlying24 hi v n xs hs hown hx (h v w ?_ ⟨rfl, rfl, rfl, Nat.le_refl _, fun _ _ _ => rfl⟩)
    rw [List.length_eq_zero_iff.1 hm, rowV, List.append_nil]; exact hown
  | some ad =>
    refine wpList_append_own w hgd s x 24 ho base 47 i0 _ 9 72 Tryz.underlying24 hi hz0 hz1 hz2 rfl (by decide) v n xs hs hown ad m c (rowV opC ys) hx (by rw [rowV_len opC_size, hm]) ?_ (rowV_one opC_one ys) (by unfold maxLen; omega) (by omega) hbase (fun v' w' h1 h2 _ => h v' w' h1 h2)
    intro j u hj
    have hlt : j < ys.length * 9 := by
      have := (List.getElem?_eq_some_iff.1 hj).1
      rw [rowV_len opC_size] at this
      exact this
    have e := hsrc.at_ (by omega)
    obtain rfl := Option.some.inj e
    rw [Addr.add_lit]
    obtain ⟨i, m, rfl, hm9⟩ : ∃ i m, j = i * 9 + m ∧ m < 9 := ⟨j / 9, j % 9, by omega, Nat.mod_lt _ (by omega)⟩
    have hq : i < ys.length := by omega
    rw [rowV_get opC_size opr0 ys _ _ hq hm9] at hj
    rw [← hj, ← Nat.add_assoc]
    rcases (show m = 0 ∨ m = 1 ∨ m = 2 ∨ m = 3 ∨ m = 4 ∨ m = 5 ∨ m = 6 ∨ m = 7 ∨ m = 8 by omega) with rfl | rfl | rfl | rfl | rfl | rfl | rfl | rfl | rfl
    · exact hsrc.c0 i hq
    · exact hsrc.c1 i hq
    · exact hsrc.c2 i hq
    · exact hsrc.c3 i hq
    · exact hsrc.c4 i hq
    · exact hsrc.c5 i hq
    · exact hsrc.c6 i hq
    · exact hsrc.c7 i hq
    · exact hsrc.c8 i hq
structure Wr (lo hi : Nat) (w w' : World) : Prop where
  bel : Below lo w w'
  far : ∀ j, j < w.heap.size → j < lo ∨ hi ≤ j → w'.heap[j]? = w.heap[j]?
theorem Wr.refl (lo hi : Nat) (w : World) : Wr lo hi w w := ⟨Below.refl _ _, fun _ _ _ => rfl⟩
theorem Wr.set {lo hi g o : Nat} {w w1 : World} (h : Wr lo hi w w1) (h1 : lo ≤ g) (h2 : g < hi) (v : Value) : Wr lo hi w (w1.setCell ⟨g, o, none⟩ v) :=
  ⟨h.bel.setCell (p := ⟨g, o, none⟩) h1 v, fun j hj hn => (blkF_far _ _ _ _ (show j ≠ g by omega)).trans (h.far j hj hn)⟩
def Ap (lo hi : Nat) (v : Value) : Prop := ∀ g, v.ownBlock = some g → g < lo ∨ hi ≤ g
theorem Wr.row {lo hi B sz n : Nat} {T : TypeId} {v : Value} {xs : List Value} {w w' : World} (h : Wr lo hi w w') (ho : w.ownsRow B T sz v n xs) (ha : Ap lo hi v) : w'.ownsRow B T sz v n xs :=
  orow_keep ho fun g hg => h.far g (ho.lt g hg).2 (ha g hg)
theorem row_cells {B sz n g c k : Nat} {T : TypeId} {xs : List Value} {w : World} (h : w.ownsRow B T sz (.slice (some ⟨g, 0, none⟩) n c) n xs) (hk : k < n) : ∀ j, j < sz → ∃ u, w.cell? ⟨g, k * sz + j, none⟩ = some u := fun j hj => by
  have h1 : k * sz + j < n * sz := by
    have : (k + 1) * sz ≤ n * sz := Nat.mul_le_mul_right sz hk
    rw [Nat.add_mul, Nat.one_mul] at this
    omega
  rw [h.cellAt _ h1]
  have h2 : k * sz + j < xs.length := by rw [h.1]; exact h1
  exact ⟨xs[k * sz + j], List.getElem?_eq_getElem h2⟩
theorem row_put9 {lo hi B n g c k : Nat} {T : TypeId} {xs : List Value} {w0 w : World} (hw : Wr lo hi w0 w) (h : w.ownsRow B T 9 (.slice (some ⟨g, 0, none⟩) n c) n xs) (h1 : lo ≤ g) (h2 : g < hi) (v0 v1 v2 v3 v4 v5 v6 v7 v8 : Value) :
    Wr lo hi w0 (((((((((w.setCell ⟨g, k * 9, none⟩ v0).setCell ⟨g, k * 9 + 1, none⟩ v1).setCell ⟨g, k * 9 + 2, none⟩ v2).setCell ⟨g, k * 9 + 3, none⟩ v3).setCell ⟨g, k * 9 + 4, none⟩ v4).setCell ⟨g, k * 9 + 5, none⟩ v5).setCell ⟨g, k * 9 + 6, none⟩ v6).setCell ⟨g, k * 9 + 7, none⟩ v7).setCell ⟨g, k * 9 + 8, none⟩ v8) ∧ ∃ xs', (((((((((w.setCell ⟨g, k * 9, none⟩ v0).setCell ⟨g, k * 9 + 1, none⟩ v1).setCell ⟨g, k * 9 + 2, none⟩ v2).setCell ⟨g, k * 9 + 3, none⟩ v3).setCell ⟨g, k * 9 + 4, none⟩ v4).setCell ⟨g, k * 9 + 5, none⟩ v5).setCell ⟨g, k * 9 + 6, none⟩ v6).setCell ⟨g, k * 9 + 7, none⟩ v7).setCell ⟨g, k * 9 + 8, none⟩ v8).ownsRow B T 9 (.slice (some ⟨g, 0, none⟩) n c) n xs' :=
  ⟨(((((((((hw.set h1 h2 v0).set h1 h2 v1).set h1 h2 v2).set h1 h2 v3).set h1 h2 v4).set h1 h2 v5).set h1 h2 v6).set h1 h2 v7).set h1 h2 v8), ⟨_, (((((((((h.stored (k * 9) v0).1.stored (k * 9 + 1) v1).1.stored (k * 9 + 2) v2).1.stored (k * 9 + 3) v3).1.stored (k * 9 + 4) v4).1.stored (k * 9 + 5) v5).1.stored (k * 9 + 6) v6).1.stored (k * 9 + 7) v7).1.stored (k * 9 + 8) v8).1⟩⟩
theorem row_put11 {lo hi B n g c k : Nat} {T : TypeId} {xs : List Value} {w0 w : World} (hw : Wr lo hi w0 w) (h : w.ownsRow B T 11 (.slice (some ⟨g, 0, none⟩) n c) n xs) (h1 : lo ≤ g) (h2 : g < hi) (v0 v1 v2 v3 v4 v5 v6 v7 v8 v9 v10 : Value) :
    Wr lo hi w0 (((((((((((w.setCell ⟨g, k * 11, none⟩ v0).setCell ⟨g, k * 11 + 1, none⟩ v1).setCell ⟨g, k * 11 + 2, none⟩ v2).setCell ⟨g, k * 11 + 3, none⟩ v3).setCell ⟨g, k * 11 + 4, none⟩ v4).setCell ⟨g, k * 11 + 5, none⟩ v5).setCell ⟨g, k * 11 + 6, none⟩ v6).setCell ⟨g, k * 11 + 7, none⟩ v7).setCell ⟨g, k * 11 + 8, none⟩ v8).setCell ⟨g, k * 11 + 9, none⟩ v9).setCell ⟨g, k * 11 + 10, none⟩ v10) ∧ ∃ xs', (((((((((((w.setCell ⟨g, k * 11, none⟩ v0).setCell ⟨g, k * 11 + 1, none⟩ v1).setCell ⟨g, k * 11 + 2, none⟩ v2).setCell ⟨g, k * 11 + 3, none⟩ v3).setCell ⟨g, k * 11 + 4, none⟩ v4).setCell ⟨g, k * 11 + 5, none⟩ v5).setCell ⟨g, k * 11 + 6, none⟩ v6).setCell ⟨g, k * 11 + 7, none⟩ v7).setCell ⟨g, k * 11 + 8, none⟩ v8).setCell ⟨g, k * 11 + 9, none⟩ v9).setCell ⟨g, k * 11 + 10, none⟩ v10).ownsRow B T 11 (.slice (some ⟨g, 0, none⟩) n c) n xs' :=
  ⟨(((((((((((hw.set h1 h2 v0).set h1 h2 v1).set h1 h2 v2).set h1 h2 v3).set h1 h2 v4).set h1 h2 v5).set h1 h2 v6).set h1 h2 v7).set h1 h2 v8).set h1 h2 v9).set h1 h2 v10), ⟨_, (((((((((((h.stored (k * 11) v0).1.stored (k * 11 + 1) v1).1.stored (k * 11 + 2) v2).1.stored (k * 11 + 3) v3).1.stored (k * 11 + 4) v4).1.stored (k * 11 + 5) v5).1.stored (k * 11 + 6) v6).1.stored (k * 11 + 7) v7).1.stored (k * 11 + 8) v8).1.stored (k * 11 + 9) v9).1.stored (k * 11 + 10) v10).1⟩⟩
set_option maxRecDepth 40000 in
theorem store_op (q : Int) (w : World) (g k : Nat) {u0 u1 u2 u3 u4 u5 u6 u7 u8 : Value} (d0 : w.cell? ⟨g, k * 9, none⟩ = some u0) (d1 : w.cell? ⟨g, k * 9 + 1, none⟩ = some u1) (d2 : w.cell? ⟨g, k * 9 + 2, none⟩ = some u2) (d3 : w.cell? ⟨g, k * 9 + 3, none⟩ = some u3) (d4 : w.cell? ⟨g, k * 9 + 4, none⟩ = some u4) (d5 : w.cell? ⟨g, k * 9 + 5, none⟩ = some u5) (d6 : w.cell? ⟨g, k * 9 + 6, none⟩ = some u6) (d7 : w.cell? ⟨g, k * 9 + 7, none⟩ = some u7) (d8 : w.cell? ⟨g, k * 9 + 8, none⟩ = some u8) (f0 : w.frozen? ⟨g, k * 9, none⟩ = false) (f1 : w.frozen? ⟨g, k * 9 + 1, none⟩ = false) (f2 : w.frozen? ⟨g, k * 9 + 2, none⟩ = false) (f3 : w.frozen? ⟨g, k * 9 + 3, none⟩ = false) (f4 : w.frozen? ⟨g, k * 9 + 4, none⟩ = false) (f5 : w.frozen? ⟨g, k * 9 + 5, none⟩ = false) (f6 : w.frozen? ⟨g, k * 9 + 6, none⟩ = false) (f7 : w.frozen? ⟨g, k * 9 + 7, none⟩ = false) (f8 : w.frozen? ⟨g, k * 9 + 8, none⟩ = false) : (storeVar 47 ⟨g, k * 9, none⟩ (.agg #[(.int .i64 q), (.float .f64 0), (.float .f64 0), (.int .i64 0), (.int .i64 0), (.int .i64 0), (.int .i64 0), (.int .i64 0), (.int .i64 0)])).run Tryz.prog w = .ok () (((((((((w.setCell ⟨g, k * 9, none⟩ (.int .i64 q)).setCell ⟨g, k * 9 + 1, none⟩ (.float .f64 0)).setCell ⟨g, k * 9 + 2, none⟩ (.float .f64 0)).setCell ⟨g, k * 9 + 3, none⟩ (.int .i64 0)).setCell ⟨g, k * 9 + 4, none⟩ (.int .i64 0)).setCell ⟨g, k * 9 + 5, none⟩ (.int .i64 0)).setCell ⟨g, k * 9 + 6, none⟩ (.int .i64 0)).setCell ⟨g, k * 9 + 7, none⟩ (.int .i64 0)).setCell ⟨g, k * 9 + 8, none⟩ (.int .i64 0)) := by
  have hsf := store_fltD
  go_simp
set_option maxRecDepth 40000 in
theorem store_tm (q : Int) (w : World) (g k : Nat) {u0 u1 u2 u3 u4 u5 u6 u7 u8 u9 u10 : Value} (d0 : w.cell? ⟨g, k * 11, none⟩ = some u0) (d1 : w.cell? ⟨g, k * 11 + 1, none⟩ = some u1) (d2 : w.cell? ⟨g, k * 11 + 2, none⟩ = some u2) (d3 : w.cell? ⟨g, k * 11 + 3, none⟩ = some u3) (d4 : w.cell? ⟨g, k * 11 + 4, none⟩ = some u4) (d5 : w.cell? ⟨g, k * 11 + 5, none⟩ = some u5) (d6 : w.cell? ⟨g, k * 11 + 6, none⟩ = some u6) (d7 : w.cell? ⟨g, k * 11 + 7, none⟩ = some u7) (d8 : w.cell? ⟨g, k * 11 + 8, none⟩ = some u8) (d9 : w.cell? ⟨g, k * 11 + 9, none⟩ = some u9) (d10 : w.cell? ⟨g, k * 11 + 10, none⟩ = some u10) (f0 : w.frozen? ⟨g, k * 11, none⟩ = false) (f1 : w.frozen? ⟨g, k * 11 + 1, none⟩ = false) (f2 : w.frozen? ⟨g, k * 11 + 2, none⟩ = false) (f3 : w.frozen? ⟨g, k * 11 + 3, none⟩ = false) (f4 : w.frozen? ⟨g, k * 11 + 4, none⟩ = false) (f5 : w.frozen? ⟨g, k * 11 + 5, none⟩ = false) (f6 : w.frozen? ⟨g, k * 11 + 6, none⟩ = false) (f7 : w.frozen? ⟨g, k * 11 + 7, none⟩ = false) (f8 : w.frozen? ⟨g, k * 11 + 8, none⟩ = false) (f9 : w.frozen? ⟨g, k * 11 + 9, none⟩ = false) (f10 : w.frozen? ⟨g, k * 11 + 10, none⟩ = false) : (storeVar 50 ⟨g, k * 11, none⟩ (.agg #[(.int .i64 q), (.int .i64 0), (.int .i64 0), (.float .f64 0), (.float .f64 0), (.int .i64 0), (.int .i64 0), (.int .i64 0), (.int .i64 0), (.int .i64 0), (.int .i64 0)])).run Tryz.prog w = .ok () (((((((((((w.setCell ⟨g, k * 11, none⟩ (.int .i64 q)).setCell ⟨g, k * 11 + 1, none⟩ (.int .i64 0)).setCell ⟨g, k * 11 + 2, none⟩ (.int .i64 0)).setCell ⟨g, k * 11 + 3, none⟩ (.float .f64 0)).setCell ⟨g, k * 11 + 4, none⟩ (.float .f64 0)).setCell ⟨g, k * 11 + 5, none⟩ (.int .i64 0)).setCell ⟨g, k * 11 + 6, none⟩ (.int .i64 0)).setCell ⟨g, k * 11 + 7, none⟩ (.int .i64 0)).setCell ⟨g, k * 11 + 8, none⟩ (.int .i64 0)).setCell ⟨g, k * 11 + 9, none⟩ (.int .i64 0)).setCell ⟨g, k * 11 + 10, none⟩ (.int .i64 0)) := by
  have hsf := store_fltD
  go_simp
theorem wpList_store_to {ops : Array Oper} {rest : List Oper} {o : Oper} {a : Act} {w : World} {Q : Exit → Act → World → Prop} (hgd : o.guard = none) (ty : TypeId) (x y : Operand) (ho : o.op = .store ty x y) (ad : Addr) (v : Value) (w' : World) (hx : a.eval x = .pointer (some ad)) (hy : a.eval y = v) (hst : (storeVar ty ad v).run Tryz.prog w = .ok () w')
    (h : wpList Tryz.prog ops Q rest (a.put o.dst undef) w') : wpList Tryz.prog ops Q (o :: rest) a w :=
  wpList_plain hgd fun _ hK => by
    unfold Oper.wp execOp
    simp only [ho, hx, hy, Instr.storeAt, Instr.sureAddr, Sem.run_bind, Sem.run_pure, Result.andThen_ok, hst]
    exact hK _ _ h
def op77 : Opr := ⟨77, 0, 0, 0, 0, 0, 0, 0, 0⟩
theorem own_part {w : World} {B N c : Nat} {q : Option Addr} {l : List Opr} (h : w.ownsRow B 47 9 (.slice q (N + 1) c) (N + 1) (rowV opC l ++ rowV opC [op77])) (hN : l.length = N) : ∃ g, OSrc w q g 0 l := by
  obtain ⟨p', c', g, hv, _, _, _, _, _, _, h7⟩ := orow_src h
  injection hv with e1 e2 e3
  subst e1 e3
  have h8 := h7 N (by omega)
  rw [← hN] at h8
  rw [show l.length * 9 = (rowV opC l).length by rw [rowV_len opC_size], List.take_left'] at h8
  · exact osrc_of h8 rfl
  · rfl
theorem own_last {w : World} {B N c g : Nat} {l : List Opr} (h : w.ownsRow B 47 9 (.slice (some ⟨g, 0, none⟩) (N + 1) c) (N + 1) (rowV opC l ++ rowV opC [op77])) (hN : l.length = N) : ∀ j, j < 9 → w.cell? ⟨g, N * 9 + j, none⟩ = (opC op77)[j]? := fun j hj => by
  rw [h.cellAt _ (by omega), ← rowV_append, ← hN, rowV_get opC_size opr0 (l ++ [op77]) l.length j (by simp) hj]
  congr 2
  simp [List.getD]
theorem op77_eq (w : World) : (binOp .eql 47 (.agg #[.int .i64 77, .float .f64 0, .float .f64 0, .int .i64 0, .int .i64 0, .int .i64 0, .int .i64 0, .int .i64 0, .int .i64 0]) (.agg #[.int .i64 77, .float .f64 0, .float .f64 0, .int .i64 0, .int .i64 0, .int .i64 0, .int .i64 0, .int .i64 0, .int .i64 0])).run Tryz.prog w = .ok (.bool true) w := by kernel_rfl
end Go.Proofs.YtienedhaogjahaaGreatDoor
