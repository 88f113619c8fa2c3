/- Package code: trimmed, by the states that its loop goes through. Package code: Trim where the code may be; Trim of awake18's code. The law's awake of stage 18. -/
import Derived.Test.YtaipepnlmmamgaaGreatDoorHbe
import Derived.Test.YtaipepnlmmamgaaGreatDoorHbd
import Derived.Test.YtaipepnlmmamgaaGreatDoorHba
namespace Go.Proofs.YtaipepnlmmamgaaGreatDoor
open Go.RowKit

inductive TStep (o : Opr) (cs : List (Opr × Int)) (ms : List Int) : List (Opr × Int) × List Int → Prop
  | take (cs' : List (Opr × Int)) (ms' : List Int) : takO o = true → (∀ (B b : Nat) (cv mv : Value) (w : World), TrM B b cv mv cs ms w → B ≤ b → Calls Tryz.prog 38 #[.pointer (some ⟨b, 0, none⟩), .agg (opC o)] w fun e w' => e = .returned (.tuple #[]) ∧ ∃ v v', TrM B b v v' cs' ms' w' ∧ Below B w w') → TStep o cs ms (cs', ms')
  | mark : o.kind = 1 → TStep o cs ms (cs ++ [(o, 0)], ms ++ [(cs.length : Int)])
  | other : o.kind ≠ 1 → takO o = false → TStep o cs ms (cs ++ [(o, 0)], ms)
structure TmI (w wr : World) (s : List (Opr × Int) × List Int) : Prop where
  t : ∃ cv mv, TrM w.heap.size w.heap.size cv mv s.1 s.2 wr
  b : Below w.heap.size w wr
theorem info_int : (Tryz.prog.info? 3).map (fun i => (i.zero, i.size, i.bytes)) = some (some (.int .i64 0), 1, 8) := by kernel_rfl
theorem take_more {α : Type} (l : List α) (d : α) (j : Nat) (hj : j < l.length) : l.take (j + 1) = l.take j ++ [l.getD j d] := by
  rw [List.take_add_one]
  simp [List.getD, List.getElem?_eq_getElem hj]
theorem tr_mark {B b : Nat} {cv mv : Value} {cs : List (Opr × Int)} {ms : List Int} {w : World} (h : TrM B b cv mv cs ms w) (hb : B ≤ b) (x : Int) {w5 : World} {v5 : Value} (ho : w5.ownsRow B 3 1 v5 (ms.length + 1) (rowV inC ms ++ rowV inC [x])) (hg : w.grownBy w5 mv.ownBlock) :
    w5.heap[b]? = some (.cells #[cv, mv] 90) ∧ TrM B b cv v5 cs (ms ++ [x]) (w5.setCell ⟨b, 1, none⟩ v5) ∧ Below B w (w5.setCell ⟨b, 1, none⟩ v5) :=
  h.remark hb (Nat.le_trans hb (Nat.le_of_lt (lt_of_blk h.box))) hg (row_more ho rfl)
theorem tr_loop {B b j : Nat} {cv mv v v5 : Value} {cs : List (Opr × Int)} {ms : List Int} {xs ys : List Opr} {o : Opr} {w0 w w5 : World} (hB : B ≤ w.heap.size) (h : w.ownsRow B 41 9 v j (rowV opC xs) ∧ TrM B b cv mv cs ms w ∧ Below B w0 w) (hy : ys = xs ++ [o]) (ho : w5.ownsRow B 41 9 v5 (j + 1) (rowV opC xs ++ rowV opC [o])) (hg : w.grownBy w5 v.ownBlock) : w5.ownsRow B 41 9 v5 (j + 1) (rowV opC ys) ∧ TrM B b cv mv cs ms w5 ∧ Below B w0 w5 := by
  obtain ⟨h1, h2, h3⟩ := h
  refine ⟨by rw [hy, rowV_append]; exact ho, ⟨(hg.block b (lt_of_blk h2.box) (fun e => orow_box h1 h2.box (by decide) b e.symm rfl)).trans h2.box, h2.code.kept hg (orow_apart h2.code h1 (by decide)), h2.marks.kept hg (orow_apart h2.marks h1 (by decide))⟩, h3.trans (orow_grown h1 hg hB)⟩
set_option maxRecDepth 20000 in
set_option maxHeartbeats 25600000 in
theorem trimmed_go (l : List Opr) (n : Nat) (p : Option Addr) (b0 off c : Nat) (hn : l.length = n) (hn2 : n ≤ 90000) (S : Nat → List (Opr × Int) × List Int) (hS0 : S 0 = ([], []))
    (hS : ∀ k < n, TStep (l.getD k opr0) (S k).1 (S k).2 (S (k + 1))) (hl : ∀ k ≤ n, (S k).1.length ≤ 90000 ∧ (S k).2.length ≤ 90000) (w : World) (hs : OSrc w p b0 off l) :
    Calls Tryz.prog 20 #[.slice p n c] w fun e w' => ∃ v, e = .returned v ∧ w'.ownsRow w.heap.size 41 9 v (S n).1.length (rowV opC ((S n).1.map Prod.fst)) ∧ Below w.heap.size w w' := by
  have HS := hidD hs
  have HN := hidD hn
  have HT := hidD hS
  have HL := hidD hl
  have hst := store_fltD
  have hf2 := fieldC2
  have H0 : Hid (TmI w (w.alloc (.cells #[.slice none 0 0, .slice none 0 0] 90)) (S 0)) := by
    show TmI _ _ _
    rw [hS0]
    exact ⟨⟨_, _, heap_alloc_new _ _, orow_nil _ _ _ _, orow_nil _ _ _ _⟩, al_bel _ _⟩
  clear hs hn hS hl hS0
  go_enter Tryz.func20, Tryz.ntmps20
  go_wp2_with fail
  go_loopw [13] (fun i wr => ∃ k : Nat, k ≤ n ∧ i = .int .i64 k ∧ Hid (TmI w wr (S k))) (fun i _ => n - (intOf i).toNat)
  case atStart => exact ⟨0, Nat.zero_le _, rfl, H0⟩
  case round =>
    clear H0
    obtain ⟨k, hk, rfl, HI⟩ := hrel
    by_cases hlt : k < n
    · have hlt' : k < l.length := by rw [HN.out]; exact hlt
      have HSr := hidD (HS.out.below HI.out.b)
      obtain rfl := HSr.out.at_ (by omega)
      have c0 := HSr.out.c0 k hlt'
      have c1 := HSr.out.c1 k hlt'
      have c2 := HSr.out.c2 k hlt'
      have c3 := HSr.out.c3 k hlt'
      have c4 := HSr.out.c4 k hlt'
      have c5 := HSr.out.c5 k hlt'
      have c6 := HSr.out.c6 k hlt'
      have c7 := HSr.out.c7 k hlt'
      have c8 := HSr.out.c8 k hlt'
      have hbl : b0 < wr.heap.size := HSr.out.lt (by omega)
      have hbn := Nat.ne_of_lt hbl
      have HKo := hidD (kindOf_any (l.getD k opr0))
      have st := HT.out k hlt
      obtain ⟨hl1, hl2⟩ := HL.out k hk
      generalize l.getD k opr0 = o at *
      have i1 : (k : Int) < (n : Int) := by omega
      have HRe : Hid (∀ wx, TmI w wx (S (k + 1)) → ∃ k' : Nat, k' ≤ n ∧ Value.int .i64 ((k : Int) + 1) = .int .i64 k' ∧ Hid (TmI w wx (S k'))) := fun wx h => ⟨k + 1, hlt, by simp, h⟩
      unfold opC at HKo
      clear hk HSr
      have HB := hidD HI.out.b
      obtain ⟨cv, mv, tr⟩ := HI.out.t
      obtain ⟨pc, cc, gc, hcv, -⟩ := orow_src tr.code
      obtain ⟨pm, cm, gm, hmv, -⟩ := orow_src tr.marks
      subst hcv hmv
      rcases hsk : S k with ⟨cs, ms⟩
      rcases hsk' : S (k + 1) with ⟨cs', ms'⟩
      rw [hsk, hsk'] at st
      rw [hsk] at tr hl1 hl2
      dsimp only at tr st hl1 hl2
      have HSk' := hidD hsk'
      obtain ⟨L, hL⟩ : ∃ L, cs.length = L := ⟨_, rfl⟩
      obtain ⟨M, hM⟩ : ∃ M, ms.length = M := ⟨_, rfl⟩
      have HLc := hidD hL
      have HLm := hidD hM
      rw [hL] at tr hl1
      rw [hM] at tr hl2
      have HTr := hidD tr
      clear tr hsk hsk' HI hL hM
      have Ho1 : Hid ((wr.alloc (.cells #[.int .i64 o.kind, .float .f64 o.x, .float .f64 o.y, .int .i64 o.day, .int .i64 o.to, .int .i64 o.cur, .int .i64 o.count, .int .i64 o.n, .int .i64 o.months] 41)).heap[wr.heap.size]? = some (.cells #[.int .i64 o.kind, .float .f64 o.x, .float .f64 o.y, .int .i64 o.day, .int .i64 o.to, .int .i64 o.cur, .int .i64 o.count, .int .i64 o.n, .int .i64 o.months] 41)) := heap_alloc_new _ _
      go_wp2_with fail
      refine (HKo.out _).mono ?_
      rintro e w1 ⟨xo, xt, xb, rfl, ha, hb1⟩
      obtain rfl : xb = takO o := ans_takes ha
      have HW1 : Hid (Below wr.heap.size wr w1) := (al_bel wr _).trans (hb1.mono (by simp))
      have Ho2 : Hid (w1.heap[wr.heap.size]? = some (.cells #[.int .i64 o.kind, .float .f64 o.x, .float .f64 o.y, .int .i64 o.day, .int .i64 o.to, .int .i64 o.cur, .int .i64 o.count, .int .i64 o.n, .int .i64 o.months] 41)) := (hb1.block _ (lt_of_blk Ho1.out)).trans Ho1.out
      have HTr1 := hidD (HTr.out.below HW1.out)
      have HB1 := hidD (HB.out.trans (HW1.out.mono HB.out.size))
      have d0 := (opx_cells Ho2.out 0 rfl).1
      have d1 := (opx_cells Ho2.out 1 rfl).1
      have d2 := (opx_cells Ho2.out 2 rfl).1
      have d3 := (opx_cells Ho2.out 3 rfl).1
      have d4 := (opx_cells Ho2.out 4 rfl).1
      have d5 := (opx_cells Ho2.out 5 rfl).1
      have d6 := (opx_cells Ho2.out 6 rfl).1
      have d7 := (opx_cells Ho2.out 7 rfl).1
      have d8 := (opx_cells Ho2.out 8 rfl).1
      clear ha hb1 c0 c1 c2 c3 c4 c5 c6 c7 c8 HKo Ho1 HTr HB
      generalize htk : takO o = T
      cases st with
      | take _ _ h1 hC =>
        obtain rfl : T = true := by rw [← htk]; exact h1
        have HC : Hid (Calls Tryz.prog 38 #[.pointer (some ⟨w.heap.size, 0, none⟩), .agg (opC o)] w1 fun e w' => e = .returned (.tuple #[]) ∧ ∃ v v', TrM w.heap.size w.heap.size v v' cs' ms' w' ∧ Below w.heap.size w1 w') := hC _ _ _ _ _ HTr1.out (Nat.le_refl _)
        unfold opC at HC
        clear hC h1 htk
        go_wp2_with fail
        refine HC.out.mono ?_
        rintro e w2 ⟨rfl, v, v', t2, b2⟩
        have HI2 : Hid (TmI w w2 (S (k + 1))) := by show TmI _ _ _; rw [HSk'.out]; exact ⟨⟨v, v', t2⟩, HB1.out.trans b2⟩
        clear t2 b2
        go_wp2_with fail
        go_roundw
        case rel => exact HRe.out _ HI2.out
        case measure => simp [intOf]; omega
      | mark h1 =>
        obtain rfl : T = false := by rw [← htk]; unfold takO; rw [h1]; rfl
        have z1 : (o.kind == 1) = true := by rw [h1]; rfl
        clear htk h1
        have hbw : w.heap.size < w1.heap.size := lt_of_blk HTr1.out.box
        have hbq := Nat.ne_of_lt hbw
        obtain ⟨r0, r1, rf⟩ := HTr1.out.cells
        have y1 := rf 1
        have HA : Hid (TrM w.heap.size w.heap.size (.slice pc L cc) (.slice pm M cm) cs ms (w1.drew.alloc (.cells #[.int .i64 (L : Int)] 3))) := HTr1.out.below ((Below.refl _ _).drew.alloc (Nat.le_refl _) _)
        have HBA : Hid (w.heap.size ≤ (w1.drew.alloc (.cells #[.int .i64 (L : Int)] 3)).heap.size) := by show _ ≤ _; simp; omega
        have HCA : Hid (∀ j u, (rowV inC [(L : Int)])[j]? = some u → (w1.drew.alloc (.cells #[.int .i64 (L : Int)] 3)).cell? ⟨w1.heap.size, j, none⟩ = some u) := fun j u hj => new_cells w1.drew #[.int .i64 (L : Int)] 3 j u hj
        have HNe : Hid (wr.heap.size ≠ w.heap.size) := fun e => by
          have := Ho2.out
          rw [e, HTr1.out.box] at this
          injection this with this
          injection this with _ this
          exact absurd this (by decide)
        have HR : Hid (∀ w5 v5, w5.ownsRow w.heap.size 3 1 v5 (M + 1) (rowV inC ms ++ rowV inC [(L : Int)]) → World.grownBy (w1.drew.alloc (.cells #[.int .i64 (L : Int)] 3)) w5 (Value.slice pm M cm).ownBlock → w5.heap[w.heap.size]? = some (.cells #[.slice pc L cc, .slice pm M cm] 90) ∧ TrM w.heap.size w.heap.size (.slice pc L cc) v5 cs (ms ++ [(L : Int)]) (w5.setCell ⟨w.heap.size, 1, none⟩ v5) ∧ Below w.heap.size w (w5.setCell ⟨w.heap.size, 1, none⟩ v5) ∧ (w5.setCell ⟨w.heap.size, 1, none⟩ v5).heap[wr.heap.size]? = some (.cells #[.int .i64 o.kind, .float .f64 o.x, .float .f64 o.y, .int .i64 o.day, .int .i64 o.to, .int .i64 o.cur, .int .i64 o.count, .int .i64 o.n, .int .i64 o.months] 41)) := fun w5 v5 h5 g5 => by
          have h6 := tr_mark HA.out (Nat.le_refl _) (L : Int) (by rw [HLm.out]; exact h5) g5
          have hq : wr.heap.size < w1.heap.size := lt_of_blk Ho2.out
          have ho : (w1.drew.alloc (.cells #[.int .i64 (L : Int)] 3)).heap[wr.heap.size]? = some (.cells #[.int .i64 o.kind, .float .f64 o.x, .float .f64 o.y, .int .i64 o.day, .int .i64 o.to, .int .i64 o.cur, .int .i64 o.count, .int .i64 o.n, .int .i64 o.months] 41) := by rw [al_at, if_neg (by simp; omega)]; exact Ho2.out
          have ho5 : w5.heap[wr.heap.size]? = some (.cells #[.int .i64 o.kind, .float .f64 o.x, .float .f64 o.y, .int .i64 o.day, .int .i64 o.to, .int .i64 o.cur, .int .i64 o.count, .int .i64 o.n, .int .i64 o.months] 41) := (g5.block _ (lt_of_blk ho) (fun e => orow_box HA.out.marks ho (by decide) _ e.symm rfl)).trans ho
          exact ⟨h6.1, h6.2.1, (HB1.out.trans ((Below.refl w.heap.size w1).drew.alloc (Nat.le_of_lt hbw) _)).trans h6.2.2, (blkF_far _ _ _ _ HNe.out).trans ho5⟩
        have HAd : Hid (∀ (wx : World) (mv' : Value), TrM w.heap.size w.heap.size (.slice pc L cc) mv' cs (ms ++ [(L : Int)]) wx → Calls Tryz.prog 39 #[.pointer (some ⟨w.heap.size, 0, none⟩), .agg (opC o), .int .i64 0] wx fun e w' => e = .returned (.tuple #[]) ∧ ∃ v, TrM w.heap.size w.heap.size v mv' (cs ++ [(o, 0)]) (ms ++ [(L : Int)]) w' ∧ Below w.heap.size wx w') := fun wx mv' t => trAdd_any _ _ _ _ _ _ o 0 wx t (Nat.le_refl _) (by rw [HLc.out]; omega)
        unfold opC at HAd
        have iL : IntKind.i64.wrap (L : Int) = (L : Int) := by rw [IntKind.wrap_i64]; omega
        clear rf
        go_wp2_with fail
        go_region_law (refine step_append_g Tryz.underlying79 info_int rfl (by decide) rfl (.tmp 35) (.tmp 41) rfl w.heap.size (.slice pm M cm) M (rowV inC ms) rfl (by have := HA.out.marks; rw [HLm.out] at this; exact this) HBA.out w1.heap.size 1 1 (rowV inC [(L : Int)]) rfl rfl HCA.out (rowV_one inC_one _) (by omega) (by omega) ?_; intro v5 w5 ho5 hg5; have te := HR.out w5 v5 ho5 hg5; obtain ⟨p5, c5, g5, hv5, _, _, hp5, _⟩ := orow_src ho5; obtain rfl := hp5 (by omega); subst hv5; clear hp5; have HTE := hidD te; have q5 := (opx_cells te.1 1 rfl).1; have y5 := (opx_cells te.1 1 rfl).2; clear ho5 hg5 te)
        all_goals
          obtain ⟨w6, hw6⟩ : ∃ w6, w5.setCell ⟨w.heap.size, 1, none⟩ (.slice (some ⟨g5, 0, none⟩) (M + 1) c5) = w6 := ⟨_, rfl⟩
          rw [hw6] at HTE ⊢
          clear hw6 q5 y5 d0 d1 d2 d3 d4 d5 d6 d7 d8 r0 r1 y1
          have d0 := (opx_cells HTE.out.2.2.2 0 rfl).1
          have d1 := (opx_cells HTE.out.2.2.2 1 rfl).1
          have d2 := (opx_cells HTE.out.2.2.2 2 rfl).1
          have d3 := (opx_cells HTE.out.2.2.2 3 rfl).1
          have d4 := (opx_cells HTE.out.2.2.2 4 rfl).1
          have d5 := (opx_cells HTE.out.2.2.2 5 rfl).1
          have d6 := (opx_cells HTE.out.2.2.2 6 rfl).1
          have d7 := (opx_cells HTE.out.2.2.2 7 rfl).1
          have d8 := (opx_cells HTE.out.2.2.2 8 rfl).1
          go_wp2_with fail
          refine (HAd.out _ _ HTE.out.2.1).mono ?_
          rintro e w2 ⟨rfl, v, t2, b2⟩
          have HI2 : Hid (TmI w w2 (S (k + 1))) := by show TmI _ _ _; rw [HSk'.out, HLc.out]; exact ⟨⟨v, _, t2⟩, HTE.out.2.2.1.trans b2⟩
          clear t2 b2
          go_wp2_with fail
          go_roundw
          case rel => exact HRe.out _ HI2.out
          case measure => simp [intOf]; omega
      | other h1 h2 =>
        obtain rfl : T = false := by rw [← htk]; exact h2
        have z1 : (o.kind == 1) = false := beq_eq_false_iff_ne.2 h1
        have HC : Hid (Calls Tryz.prog 39 #[.pointer (some ⟨w.heap.size, 0, none⟩), .agg (opC o), .int .i64 0] w1 fun e w' => e = .returned (.tuple #[]) ∧ ∃ v, TrM w.heap.size w.heap.size v (.slice pm M cm) (cs ++ [(o, 0)]) ms w' ∧ Below w.heap.size w1 w') := trAdd_any _ _ _ _ _ _ o 0 w1 HTr1.out (Nat.le_refl _) (by rw [HLc.out]; omega)
        unfold opC at HC
        clear h1 h2 htk
        go_wp2_with fail
        refine HC.out.mono ?_
        rintro e w2 ⟨rfl, v, t2, b2⟩
        have HI2 : Hid (TmI w w2 (S (k + 1))) := by show TmI _ _ _; rw [HSk'.out]; exact ⟨⟨v, _, t2⟩, HB1.out.trans b2⟩
        clear t2 b2
        go_wp2_with fail
        go_roundw
        case rel => exact HRe.out _ HI2.out
        case measure => simp [intOf]; omega
    · obtain rfl : k = n := by omega
      obtain ⟨cv, mv, tr⟩ := HI.out.t
      have HB := hidD HI.out.b
      obtain ⟨pc, cc, gc, hcv, -, -, hpc, -⟩ := orow_src tr.code
      subst hcv
      rcases hsk : S k with ⟨cs, ms⟩
      rw [hsk] at tr hpc
      obtain ⟨hl1, _⟩ := HL.out k hk
      rw [hsk] at hl1
      dsimp only at tr hpc hl1
      obtain ⟨L, hL⟩ : ∃ L, cs.length = L := ⟨_, rfl⟩
      have HLc := hidD hL
      have HSk := hidD hsk
      rw [hL] at tr hpc hl1
      have HTr := hidD tr
      have Hpc := hidD hpc
      clear tr hsk HI hL hpc HT HL HS
      obtain ⟨r0, _, _⟩ := HTr.out.cells
      have HZ0 : Hid (wr.ownsRow w.heap.size 41 9 (.slice none 0 0) 0 (rowV opC ((cs.map Prod.fst).take 0)) ∧ TrM w.heap.size w.heap.size (.slice pc L cc) mv cs ms wr ∧ Below w.heap.size w wr) := ⟨orow_nil _ _ _ _, HTr.out, HB.out⟩
      clear HTr HB
      go_wp2_with fail
      go_loopw [6, 54] (fun sv i wx => ∃ j : Nat, j ≤ L ∧ i = .int .i64 j ∧ Hid (wx.ownsRow w.heap.size 41 9 sv j (rowV opC ((cs.map Prod.fst).take j)) ∧ TrM w.heap.size w.heap.size (.slice pc L cc) mv cs ms wx ∧ Below w.heap.size w wx)) (fun _ i _ => L - (intOf i).toNat)
      case atStart => exact ⟨0, Nat.zero_le _, rfl, HZ0⟩
      case round =>
        clear HZ0 r0
        obtain ⟨j, hj, rfl, HJ⟩ := hrel
        obtain ⟨ps, cq, gs, hsv, -⟩ := orow_src HJ.out.1
        subst hsv
        by_cases hlt : j < L
        · obtain ⟨pc', cc', gc', hcv', _, _, hpc', _, hbk, hcl, _⟩ := orow_src HJ.out.2.1.code
          rw [HLc.out] at hcv' hpc' hcl
          injection hcv' with e1 _ e3
          obtain rfl := hpc' (by omega)
          subst e1 e3
          have hgl : gc' < wr.heap.size := (hbk _ rfl).2.2
          have hgn := Nat.ne_of_lt hgl
          have hx : ∀ t < 10, wr.cell? ⟨gc', j * 10 + t, none⟩ = (keC (cs.getD j (opr0, 0)))[t]? := fun t ht => by
            rw [hcl _ (by omega), rowV_get keC_size (opr0, 0) cs j t (by rw [HLc.out]; exact hlt) ht]
          have c0 := hx 0 (by decide)
          have c1 := hx 1 (by decide)
          have c2 := hx 2 (by decide)
          have c3 := hx 3 (by decide)
          have c4 := hx 4 (by decide)
          have c5 := hx 5 (by decide)
          have c6 := hx 6 (by decide)
          have c7 := hx 7 (by decide)
          have c8 := hx 8 (by decide)
          have c9 := hx 9 (by decide)
          have HTk : Hid ((cs.map Prod.fst).take (j + 1) = (cs.map Prod.fst).take j ++ [(cs.getD j (opr0, 0)).1]) := by
            show _ = _
            rw [take_more _ opr0 j (by rw [List.length_map, HLc.out]; exact hlt)]
            congr 2
            simp [List.getD]
            cases cs[j]? <;> rfl
          generalize cs.getD j (opr0, 0) = oy at c0 c1 c2 c3 c4 c5 c6 c7 c8 c9 HTk
          obtain ⟨o, y⟩ := oy
          simp only [keC, Nat.add_zero] at c0 c1 c2 c3 c4 c5 c6 c7 c8 c9
          have HLt : Hid (((cs.map Prod.fst).take j).length = j) := by show _ = _; rw [List.length_take, List.length_map, HLc.out]; omega
          clear hx hcl hbk hpc'
          have i1 : (j : Int) < (L : Int) := by omega
          have HW : Hid (Below wr.heap.size wr ((wr.alloc (.cells #[.int .i64 o.kind, .float .f64 o.x, .float .f64 o.y, .int .i64 o.day, .int .i64 o.to, .int .i64 o.cur, .int .i64 o.count, .int .i64 o.n, .int .i64 o.months, .int .i64 y] 94)).alloc (.cells #[.int .i64 o.kind, .float .f64 o.x, .float .f64 o.y, .int .i64 o.day, .int .i64 o.to, .int .i64 o.cur, .int .i64 o.count, .int .i64 o.n, .int .i64 o.months] 41))) := ((Below.refl _ _).alloc (Nat.le_refl _) _).alloc (by simp) _
          have HJ1 : Hid (((wr.alloc (.cells #[.int .i64 o.kind, .float .f64 o.x, .float .f64 o.y, .int .i64 o.day, .int .i64 o.to, .int .i64 o.cur, .int .i64 o.count, .int .i64 o.n, .int .i64 o.months, .int .i64 y] 94)).alloc (.cells #[.int .i64 o.kind, .float .f64 o.x, .float .f64 o.y, .int .i64 o.day, .int .i64 o.to, .int .i64 o.cur, .int .i64 o.count, .int .i64 o.n, .int .i64 o.months] 41)).ownsRow w.heap.size 41 9 (.slice ps j cq) j (rowV opC ((cs.map Prod.fst).take j)) ∧ TrM w.heap.size w.heap.size (.slice (some ⟨gc', 0, none⟩) L cc) mv cs ms ((wr.alloc (.cells #[.int .i64 o.kind, .float .f64 o.x, .float .f64 o.y, .int .i64 o.day, .int .i64 o.to, .int .i64 o.cur, .int .i64 o.count, .int .i64 o.n, .int .i64 o.months, .int .i64 y] 94)).alloc (.cells #[.int .i64 o.kind, .float .f64 o.x, .float .f64 o.y, .int .i64 o.day, .int .i64 o.to, .int .i64 o.cur, .int .i64 o.count, .int .i64 o.n, .int .i64 o.months] 41)) ∧ Below w.heap.size w ((wr.alloc (.cells #[.int .i64 o.kind, .float .f64 o.x, .float .f64 o.y, .int .i64 o.day, .int .i64 o.to, .int .i64 o.cur, .int .i64 o.count, .int .i64 o.n, .int .i64 o.months, .int .i64 y] 94)).alloc (.cells #[.int .i64 o.kind, .float .f64 o.x, .float .f64 o.y, .int .i64 o.day, .int .i64 o.to, .int .i64 o.cur, .int .i64 o.count, .int .i64 o.n, .int .i64 o.months] 41))) := ⟨orow_below HJ.out.1 HW.out, HJ.out.2.1.below HW.out, HJ.out.2.2.trans (HW.out.mono HJ.out.2.2.size)⟩
          have HC4 : Hid (∀ i u, (rowV opC [o])[i]? = some u → ((wr.alloc (.cells #[.int .i64 o.kind, .float .f64 o.x, .float .f64 o.y, .int .i64 o.day, .int .i64 o.to, .int .i64 o.cur, .int .i64 o.count, .int .i64 o.n, .int .i64 o.months, .int .i64 y] 94)).alloc (.cells #[.int .i64 o.kind, .float .f64 o.x, .float .f64 o.y, .int .i64 o.day, .int .i64 o.to, .int .i64 o.cur, .int .i64 o.count, .int .i64 o.n, .int .i64 o.months] 41)).cell? ⟨wr.heap.size + 1, i, none⟩ = some u) := fun i u hj => by
            have := new_cells (wr.alloc (.cells #[.int .i64 o.kind, .float .f64 o.x, .float .f64 o.y, .int .i64 o.day, .int .i64 o.to, .int .i64 o.cur, .int .i64 o.count, .int .i64 o.n, .int .i64 o.months, .int .i64 y] 94)) (opC o) 41 i u (by simpa [rowV] using hj)
            rw [sz_al] at this
            exact this
          clear HJ HW
          go_wp2_with (at_builtin; refine wpList_append_g _ Tryz.underlying22 info_opC rfl (by decide) rfl (.tmp 58) (.tmp 61) rfl w.heap.size (.slice ps j cq) j (rowV opC ((cs.map Prod.fst).take j)) rfl HJ1.out.1 HJ1.out.2.2.size (wr.heap.size + 1) 1 1 (rowV opC [o]) rfl rfl HC4.out (rowV_one opC_one _) (by omega) (by omega) ?_; intro v5 w5 ho5 hg5; have HE5 : Hid (w5.ownsRow w.heap.size 41 9 v5 (j + 1) (rowV opC ((cs.map Prod.fst).take (j + 1))) ∧ TrM w.heap.size w.heap.size (.slice (some ⟨gc', 0, none⟩) L cc) mv cs ms w5 ∧ Below w.heap.size w w5) := tr_loop HJ1.out.2.2.size HJ1.out HTk.out ho5 hg5; clear ho5 hg5)
          go_roundw
          case rel => exact ⟨j + 1, hlt, by simp, HE5⟩
          case measure => simp [intOf]; omega
        · obtain rfl : j = L := by omega
          have HF : Hid (wr.ownsRow w.heap.size 41 9 (.slice ps j cq) j (rowV opC (cs.map Prod.fst)) ∧ Below w.heap.size w wr) := by
            have h1 := HJ.out.1
            rw [List.take_of_length_le (by rw [List.length_map, HLc.out]; exact Nat.le_refl _)] at h1
            exact ⟨h1, HJ.out.2.2⟩
          clear HJ
          go_wp2_with fail
          go_ret
          exact ⟨_, rfl, by rw [HSk.out]; dsimp only; rw [HLc.out]; exact HF.out.1, HF.out.2⟩
end Go.Proofs.YtaipepnlmmamgaaGreatDoor
namespace Go.Proofs.YtaipepnlmmamgaaGreatDoor
open Go.RowKit

set_option maxRecDepth 20000 in
theorem cTrim_go {l : List Opr} {m : Int} (hm : MeaR l m 0 0) (n : Nat) (p : Option Addr) (b0 off c : Nat) (hn : l.length = n) (hn2 : n ≤ 90000) (hu : ∀ i < n, OpU (l.getD i opr0)) (S : Nat → List (Opr × Int) × List Int) (hS0 : S 0 = ([], []))
    (hS : ∀ k < n, TStep (l.getD k opr0) (S k).1 (S k).2 (S (k + 1))) (hl : ∀ k ≤ n, (S k).1.length ≤ 90000 ∧ (S k).2.length ≤ 90000) (w : World) (hs : OSrc w p b0 off l) :
    Calls Tryz.prog 11 #[.slice p n c] w fun e w' => ∃ v, e = .returned (.tuple #[v, .int .i64 0]) ∧ w'.ownsRow w.heap.size 41 9 v (S n).1.length (rowV opC ((S n).1.map Prod.fst)) ∧ Below w.heap.size w w' := by
  have H1 := hidD (cCheck_is hm n p b0 off c w hs hn hu (by omega))
  have H2 : Hid (∀ w1, Below w.heap.size w w1 → Calls Tryz.prog 20 #[.slice p n c] w1 fun e w' => ∃ v, e = .returned v ∧ w'.ownsRow w.heap.size 41 9 v (S n).1.length (rowV opC ((S n).1.map Prod.fst)) ∧ Below w.heap.size w w') := fun w1 hb => (trimmed_go l n p b0 off c hn hn2 S hS0 hS hl w1 (hs.below hb)).mono fun e w' ⟨v, he, ho, hb'⟩ => ⟨v, he, orow_lower ho hb.size, hb.trans (hb'.mono hb.size)⟩
  clear hm hn hn2 hu hS0 hS hl hs
  go_enter Tryz.func11, Tryz.ntmps11
  go_wp2_with fail
  refine H1.out.mono ?_
  rintro e w1 ⟨rfl, hb⟩
  have HT := hidD (H2.out w1 hb)
  clear hb
  go_wp2_with fail
  refine HT.out.mono ?_
  rintro e w2 ⟨v, rfl, ho, hb⟩
  have HE := hidD (And.intro ho hb)
  clear ho hb
  go_wp2_with fail
  go_ret2
  exact ⟨_, rfl, HE.out.1, HE.out.2⟩
def tr18 : Nat → List (Opr × Int) × List Int
  | 0 => ([], [])
  | 1 => ([(markO, 0)], [0])
  | 2 => ([(markO, 0), (markO, 0)], [0, 1])
  | 3 => ([(markO, 0), (markO, 0), (opT (tmP 3), 0)], [0, 1])
  | 4 => ([(markO, 0), (markO, 0), (opT (tmP 3), 0), (opT (giveT 0), 2)], [0])
  | _ => ([(opT (tmP 3), 0)], [])
theorem tr18_step (k : Nat) (hk : k < 5) : TStep (code18.getD k opr0) (tr18 k).1 (tr18 k).2 (tr18 (k + 1)) := by
  rcases (show k = 0 ∨ k = 1 ∨ k = 2 ∨ k = 3 ∨ k = 4 by omega) with rfl | rfl | rfl | rfl | rfl
  · exact .mark (by decide)
  · exact .mark (by decide)
  · exact .other (by decide) (by decide)
  · refine .take _ _ (by decide) fun B b cv mv w t hb => ?_
    refine (trTake_any B b 2 1 1 cv mv [(markO, 0), (markO, 0)] (opT (tmP 3), 0) [0] (opT (giveT 0)) w t hb rfl rfl (by decide) (by decide) (by decide) (by decide) (by decide) (fun h => absurd h (by decide)) (by decide) (by decide)).mono ?_
    rintro e w' ⟨he, v, v', t', b'⟩
    rw [if_neg (by decide)] at t'
    exact ⟨he, v, v', t', b'⟩
  · refine .take _ _ (by decide) fun B b cv mv w t hb => ?_
    refine (trTake_any B b 3 0 0 cv mv [(markO, 0), (markO, 0), (opT (tmP 3), 0)] (opT (giveT 0), 2) [] (opT (giveT 1)) w t hb rfl rfl (by decide) (by decide) (by decide) (by decide) (by decide) (fun _ => by decide) (by decide) (by decide)).mono ?_
    rintro e w' ⟨he, v, v', t', b'⟩
    rw [if_pos (by decide)] at t'
    exact ⟨he, v, v', t', b'⟩
theorem cTrim18 (p : Option Addr) (b off c : Nat) (w : World) (hs : OSrc w p b off code18) : Calls Tryz.prog 11 #[.slice p 5 c] w fun e w' => ∃ v, e = .returned (.tuple #[v, .int .i64 0]) ∧ w'.ownsRow w.heap.size 41 9 v 1 (rowV opC [opT (tmP 3)]) ∧ Below w.heap.size w w' :=
  cTrim_go mea18 5 p b off c rfl (by decide) opu18 tr18 rfl tr18_step (fun k hk => by
    rcases (show k = 0 ∨ k = 1 ∨ k = 2 ∨ k = 3 ∨ k = 4 ∨ k = 5 by omega) with rfl | rfl | rfl | rfl | rfl | rfl <;> exact ⟨by decide, by decide⟩) w hs
end Go.Proofs.YtaipepnlmmamgaaGreatDoor
namespace Go.Proofs.YtaipepnlmmamgaaGreatDoor
open Go.RowKit

set_option maxRecDepth 20000 in
set_option maxHeartbeats 12800000 in
theorem awake18 (w : World) {bp op cp : Nat} (hp : PfT 6 5 9 bp op cp w) :
    Calls Tryz.prog 9 #[] w fun e w' => e = .returned (.bool true) ∧ Below w.heap.size w w' := by
  have HP := hidD (parse18 w hp)
  clear hp
  go_enter Tryz.func9, Tryz.ntmps9
  go_wp2_with fail
  refine HP.out.mono ?_
  rintro e w1 ⟨v, rfl, ht, hb⟩
  obtain ⟨g, c, rfl⟩ := ht.full (by simp)
  have hr : TmR w1 g tree18 := ht.read
  have HB1 := hidD hb
  have HC := hidD (cCompile18 g c w1 hr)
  clear ht hb hr
  go_wp2_with fail
  refine HC.out.mono ?_
  rintro e w2 ⟨v2, rfl, ho, hb⟩
  have HB2 := hidD (HB1.out.trans (hb.mono HB1.out.size))
  obtain ⟨p2, c2, _, rfl, -⟩ := orow_src ho
  obtain ⟨g2, hs2⟩ := osrc_of ho rfl
  have HS2 := hidD hs2
  have HT := hidD (cTrim18 p2 g2 0 c2 w2 hs2)
  clear ho hb hs2
  go_wp2_with fail
  refine HT.out.mono ?_
  rintro e w3 ⟨v3, rfl, ho, hb⟩
  have HB3 := hidD (HB2.out.trans (hb.mono HB2.out.size))
  obtain ⟨p3, c3, _, rfl, -⟩ := orow_src ho
  have HM := hidD (cMarks18 p2 g2 0 c2 w3 (HS2.out.below hb))
  clear ho hb
  go_wp2_with fail
  refine HM.out.mono ?_
  rintro e w4 ⟨rfl, hb⟩
  have HB4 := hidD (HB3.out.trans (hb.mono HB3.out.size))
  have HK := hidD (cBack_nil w4)
  clear hb
  go_wp2_with fail
  refine HK.out.mono ?_
  rintro e w5 ⟨v5, rfl, ht, hb⟩
  have HB5 := hidD (HB4.out.trans (hb.mono HB4.out.size))
  obtain ⟨g5, c5, rfl⟩ := ht.full (by simp)
  have z0 : w5.cell? ⟨g5, 0, none⟩ = some (.int .i64 1) := ht.read.c0 0 (by decide)
  clear ht hb
  go_wp2_with fail
  go_ret
  exact ⟨rfl, HB5.out⟩
end Go.Proofs.YtaipepnlmmamgaaGreatDoor
