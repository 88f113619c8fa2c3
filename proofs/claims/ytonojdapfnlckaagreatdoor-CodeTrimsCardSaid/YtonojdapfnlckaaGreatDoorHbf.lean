/- Package code: trimmed, by the states that its loop goes through. Package code: Trim where the code may be; Trim of awake18's code. The law's awake of stage 18. Package code: the trimmer's take, whatever the op. Package code: the trimmer's take of an op whose mark goes with it. -/
import Derived.Test.YtonojdapfnlckaaGreatDoorHbe
import Derived.Test.YtonojdapfnlckaaGreatDoorHbd
import Derived.Test.YtonojdapfnlckaaGreatDoorHba
namespace Go.Proofs.YtonojdapfnlckaaGreatDoor
open Go.RowKit

inductive TStep (o : Opr) (cs : List (Opr × Int)) (ms : List Int) : List (Opr × Int) × List Int → Prop
  | take (cs' : List (Opr × Int)) (ms' : List Int) : takO o = true → (∀ (B b : Nat) (cv mv : Value) (w : World), TrM B b cv mv cs ms w → B ≤ b → Calls Tryz.prog 32 #[.pointer (some ⟨b, 0, none⟩), .agg (opC o)] w fun e w' => e = .returned (.tuple #[]) ∧ ∃ v v', TrM B b v v' cs' ms' w' ∧ Below B w w') → TStep o cs ms (cs', ms')
  | mark : o.kind = 1 → TStep o cs ms (cs ++ [(o, 0)], ms ++ [(cs.length : Int)])
  | other : o.kind ≠ 1 → takO o = false → TStep o cs ms (cs ++ [(o, 0)], ms)
structure TmI (w wr : World) (s : List (Opr × Int) × List Int) : Prop where
  t : ∃ cv mv, TrM w.heap.size w.heap.size cv mv s.1 s.2 wr
  b : Below w.heap.size w wr
theorem info_int : (Tryz.prog.info? 3).map (fun i => (i.zero, i.size, i.bytes)) = some (some (.int .i64 0), 1, 8) := by kernel_rfl
theorem take_more {α : Type} (l : List α) (d : α) (j : Nat) (hj : j < l.length) : l.take (j + 1) = l.take j ++ [l.getD j d] := by
  rw [List.take_add_one]
  simp [List.getD, List.getElem?_eq_getElem hj]
theorem tr_mark {B b : Nat} {cv mv : Value} {cs : List (Opr × Int)} {ms : List Int} {w : World} (h : TrM B b cv mv cs ms w) (hb : B ≤ b) (x : Int) {w5 : World} {v5 : Value} (ho : w5.ownsRow B 3 1 v5 (ms.length + 1) (rowV inC ms ++ rowV inC [x])) (hg : w.grownBy w5 mv.ownBlock) :
    w5.heap[b]? = some (.cells #[cv, mv] 79) ∧ TrM B b cv v5 cs (ms ++ [x]) (w5.setCell ⟨b, 1, none⟩ v5) ∧ Below B w (w5.setCell ⟨b, 1, none⟩ v5) :=
  h.remark hb (Nat.le_trans hb (Nat.le_of_lt (lt_of_blk h.box))) hg (row_more ho rfl)
theorem tr_loop {B b j : Nat} {cv mv v v5 : Value} {cs : List (Opr × Int)} {ms : List Int} {xs ys : List Opr} {o : Opr} {w0 w w5 : World} (hB : B ≤ w.heap.size) (h : w.ownsRow B 35 9 v j (rowV opC xs) ∧ TrM B b cv mv cs ms w ∧ Below B w0 w) (hy : ys = xs ++ [o]) (ho : w5.ownsRow B 35 9 v5 (j + 1) (rowV opC xs ++ rowV opC [o])) (hg : w.grownBy w5 v.ownBlock) : w5.ownsRow B 35 9 v5 (j + 1) (rowV opC ys) ∧ TrM B b cv mv cs ms w5 ∧ Below B w0 w5 := by
  obtain ⟨h1, h2, h3⟩ := h
  refine ⟨by rw [hy, rowV_append]; exact ho, ⟨(hg.block b (lt_of_blk h2.box) (fun e => orow_box h1 h2.box (by decide) b e.symm rfl)).trans h2.box, h2.code.kept hg (orow_apart h2.code h1 (by decide)), h2.marks.kept hg (orow_apart h2.marks h1 (by decide))⟩, h3.trans (orow_grown h1 hg hB)⟩
set_option maxRecDepth 20000 in
set_option maxHeartbeats 25600000 in
theorem trimmed_go (l : List Opr) (n : Nat) (p : Option Addr) (b0 off c : Nat) (hn : l.length = n) (hn2 : n ≤ 90000) (S : Nat → List (Opr × Int) × List Int) (hS0 : S 0 = ([], []))
    (hS : ∀ k < n, TStep (l.getD k opr0) (S k).1 (S k).2 (S (k + 1))) (hl : ∀ k ≤ n, (S k).1.length ≤ 90000 ∧ (S k).2.length ≤ 90000) (w : World) (hs : OSrc w p b0 off l) :
    Calls Tryz.prog 17 #[.slice p n c] w fun e w' => ∃ v, e = .returned v ∧ w'.ownsRow w.heap.size 35 9 v (S n).1.length (rowV opC ((S n).1.map Prod.fst)) ∧ Below w.heap.size w w' := by
  have HS := hidD hs
  have HN := hidD hn
  have HT := hidD hS
  have HL := hidD hl
  have hst := store_fltD
  have hf2 := fieldC2
  have H0 : Hid (TmI w (w.alloc (.cells #[.slice none 0 0, .slice none 0 0] 79)) (S 0)) := by
    show TmI _ _ _
    rw [hS0]
    exact ⟨⟨_, _, heap_alloc_new _ _, orow_nil _ _ _ _, orow_nil _ _ _ _⟩, al_bel _ _⟩
  clear hs hn hS hl hS0
  go_enter Tryz.func17, Tryz.ntmps17
  go_wp2_with fail
  go_loopw [13] (fun i wr => ∃ k : Nat, k ≤ n ∧ i = .int .i64 k ∧ Hid (TmI w wr (S k))) (fun i _ => n - (intOf i).toNat)
  case atStart => exact ⟨0, Nat.zero_le _, rfl, H0⟩
  case round =>
    clear H0
    obtain ⟨k, hk, rfl, HI⟩ := hrel
    by_cases hlt : k < n
    · have hlt' : k < l.length := by rw [HN.out]; exact hlt
      have HSr := hidD (HS.out.below HI.out.b)
      obtain rfl := HSr.out.at_ (by omega)
      have c0 := HSr.out.c0 k hlt'
      have c1 := HSr.out.c1 k hlt'
      have c2 := HSr.out.c2 k hlt'
      have c3 := HSr.out.c3 k hlt'
      have c4 := HSr.out.c4 k hlt'
      have c5 := HSr.out.c5 k hlt'
      have c6 := HSr.out.c6 k hlt'
      have c7 := HSr.out.c7 k hlt'
      have c8 := HSr.out.c8 k hlt'
      have hbl : b0 < wr.heap.size := HSr.out.lt (by omega)
      have hbn := Nat.ne_of_lt hbl
      have HKo := hidD (kindOf_any (l.getD k opr0))
      have st := HT.out k hlt
      obtain ⟨hl1, hl2⟩ := HL.out k hk
      generalize l.getD k opr0 = o at *
      have i1 : (k : Int) < (n : Int) := by omega
      have HRe : Hid (∀ wx, TmI w wx (S (k + 1)) → ∃ k' : Nat, k' ≤ n ∧ Value.int .i64 ((k : Int) + 1) = .int .i64 k' ∧ Hid (TmI w wx (S k'))) := fun wx h => ⟨k + 1, hlt, by simp, h⟩
      unfold opC at HKo
      clear hk HSr
      have HB := hidD HI.out.b
      obtain ⟨cv, mv, tr⟩ := HI.out.t
      obtain ⟨pc, cc, gc, hcv, -⟩ := orow_src tr.code
      obtain ⟨pm, cm, gm, hmv, -⟩ := orow_src tr.marks
      subst hcv hmv
      rcases hsk : S k with ⟨cs, ms⟩
      rcases hsk' : S (k + 1) with ⟨cs', ms'⟩
      rw [hsk, hsk'] at st
      rw [hsk] at tr hl1 hl2
      dsimp only at tr st hl1 hl2
      have HSk' := hidD hsk'
      obtain ⟨L, hL⟩ : ∃ L, cs.length = L := ⟨_, rfl⟩
      obtain ⟨M, hM⟩ : ∃ M, ms.length = M := ⟨_, rfl⟩
      have HLc := hidD hL
      have HLm := hidD hM
      rw [hL] at tr hl1
      rw [hM] at tr hl2
      have HTr := hidD tr
      clear tr hsk hsk' HI hL hM
      have Ho1 : Hid ((wr.alloc (.cells #[.int .i64 o.kind, .float .f64 o.x, .float .f64 o.y, .int .i64 o.day, .int .i64 o.to, .int .i64 o.cur, .int .i64 o.count, .int .i64 o.n, .int .i64 o.months] 35)).heap[wr.heap.size]? = some (.cells #[.int .i64 o.kind, .float .f64 o.x, .float .f64 o.y, .int .i64 o.day, .int .i64 o.to, .int .i64 o.cur, .int .i64 o.count, .int .i64 o.n, .int .i64 o.months] 35)) := heap_alloc_new _ _
      go_wp2_with fail
      refine (HKo.out _).mono ?_
      rintro e w1 ⟨xo, xt, xb, rfl, ha, hb1⟩
      obtain rfl : xb = takO o := ans_takes ha
      have HW1 : Hid (Below wr.heap.size wr w1) := (al_bel wr _).trans (hb1.mono (by simp))
      have Ho2 : Hid (w1.heap[wr.heap.size]? = some (.cells #[.int .i64 o.kind, .float .f64 o.x, .float .f64 o.y, .int .i64 o.day, .int .i64 o.to, .int .i64 o.cur, .int .i64 o.count, .int .i64 o.n, .int .i64 o.months] 35)) := (hb1.block _ (lt_of_blk Ho1.out)).trans Ho1.out
      have HTr1 := hidD (HTr.out.below HW1.out)
      have HB1 := hidD (HB.out.trans (HW1.out.mono HB.out.size))
      have d0 := (opx_cells Ho2.out 0 rfl).1
      have d1 := (opx_cells Ho2.out 1 rfl).1
      have d2 := (opx_cells Ho2.out 2 rfl).1
      have d3 := (opx_cells Ho2.out 3 rfl).1
      have d4 := (opx_cells Ho2.out 4 rfl).1
      have d5 := (opx_cells Ho2.out 5 rfl).1
      have d6 := (opx_cells Ho2.out 6 rfl).1
      have d7 := (opx_cells Ho2.out 7 rfl).1
      have d8 := (opx_cells Ho2.out 8 rfl).1
      clear ha hb1 c0 c1 c2 c3 c4 c5 c6 c7 c8 HKo Ho1 HTr HB
      generalize htk : takO o = T
      cases st with
      | take _ _ h1 hC =>
        obtain rfl : T = true := by rw [← htk]; exact h1
        have HC : Hid (Calls Tryz.prog 32 #[.pointer (some ⟨w.heap.size, 0, none⟩), .agg (opC o)] w1 fun e w' => e = .returned (.tuple #[]) ∧ ∃ v v', TrM w.heap.size w.heap.size v v' cs' ms' w' ∧ Below w.heap.size w1 w') := hC _ _ _ _ _ HTr1.out (Nat.le_refl _)
        unfold opC at HC
        clear hC h1 htk
        go_wp2_with fail
        refine HC.out.mono ?_
        rintro e w2 ⟨rfl, v, v', t2, b2⟩
        have HI2 : Hid (TmI w w2 (S (k + 1))) := by show TmI _ _ _; rw [HSk'.out]; exact ⟨⟨v, v', t2⟩, HB1.out.trans b2⟩
        clear t2 b2
        go_wp2_with fail
        go_roundw
        case rel => exact HRe.out _ HI2.out
        case measure => simp [intOf]; omega
      | mark h1 =>
        obtain rfl : T = false := by rw [← htk]; unfold takO; rw [h1]; rfl
        have z1 : (o.kind == 1) = true := by rw [h1]; rfl
        clear htk h1
        have hbw : w.heap.size < w1.heap.size := lt_of_blk HTr1.out.box
        have hbq := Nat.ne_of_lt hbw
        obtain ⟨r0, r1, rf⟩ := HTr1.out.cells
        have y1 := rf 1
        have HA : Hid (TrM w.heap.size w.heap.size (.slice pc L cc) (.slice pm M cm) cs ms (w1.drew.alloc (.cells #[.int .i64 (L : Int)] 3))) := HTr1.out.below ((Below.refl _ _).drew.alloc (Nat.le_refl _) _)
        have HBA : Hid (w.heap.size ≤ (w1.drew.alloc (.cells #[.int .i64 (L : Int)] 3)).heap.size) := by show _ ≤ _; simp; omega
        have HCA : Hid (∀ j u, (rowV inC [(L : Int)])[j]? = some u → (w1.drew.alloc (.cells #[.int .i64 (L : Int)] 3)).cell? ⟨w1.heap.size, j, none⟩ = some u) := fun j u hj => new_cells w1.drew #[.int .i64 (L : Int)] 3 j u hj
        have HNe : Hid (wr.heap.size ≠ w.heap.size) := fun e => by
          have := Ho2.out
          rw [e, HTr1.out.box] at this
          injection this with this
          injection this with _ this
          exact absurd this (by decide)
        have HR : Hid (∀ w5 v5, w5.ownsRow w.heap.size 3 1 v5 (M + 1) (rowV inC ms ++ rowV inC [(L : Int)]) → World.grownBy (w1.drew.alloc (.cells #[.int .i64 (L : Int)] 3)) w5 (Value.slice pm M cm).ownBlock → w5.heap[w.heap.size]? = some (.cells #[.slice pc L cc, .slice pm M cm] 79) ∧ TrM w.heap.size w.heap.size (.slice pc L cc) v5 cs (ms ++ [(L : Int)]) (w5.setCell ⟨w.heap.size, 1, none⟩ v5) ∧ Below w.heap.size w (w5.setCell ⟨w.heap.size, 1, none⟩ v5) ∧ (w5.setCell ⟨w.heap.size, 1, none⟩ v5).heap[wr.heap.size]? = some (.cells #[.int .i64 o.kind, .float .f64 o.x, .float .f64 o.y, .int .i64 o.day, .int .i64 o.to, .int .i64 o.cur, .int .i64 o.count, .int .i64 o.n, .int .i64 o.months] 35)) := fun w5 v5 h5 g5 => by
          have h6 := tr_mark HA.out (Nat.le_refl _) (L : Int) (by rw [HLm.out]; exact h5) g5
          have hq : wr.heap.size < w1.heap.size := lt_of_blk Ho2.out
          have ho : (w1.drew.alloc (.cells #[.int .i64 (L : Int)] 3)).heap[wr.heap.size]? = some (.cells #[.int .i64 o.kind, .float .f64 o.x, .float .f64 o.y, .int .i64 o.day, .int .i64 o.to, .int .i64 o.cur, .int .i64 o.count, .int .i64 o.n, .int .i64 o.months] 35) := by rw [al_at, if_neg (by simp; omega)]; exact Ho2.out
          have ho5 : w5.heap[wr.heap.size]? = some (.cells #[.int .i64 o.kind, .float .f64 o.x, .float .f64 o.y, .int .i64 o.day, .int .i64 o.to, .int .i64 o.cur, .int .i64 o.count, .int .i64 o.n, .int .i64 o.months] 35) := (g5.block _ (lt_of_blk ho) (fun e => orow_box HA.out.marks ho (by decide) _ e.symm rfl)).trans ho
          exact ⟨h6.1, h6.2.1, (HB1.out.trans ((Below.refl w.heap.size w1).drew.alloc (Nat.le_of_lt hbw) _)).trans h6.2.2, (blkF_far _ _ _ _ HNe.out).trans ho5⟩
        have HAd : Hid (∀ (wx : World) (mv' : Value), TrM w.heap.size w.heap.size (.slice pc L cc) mv' cs (ms ++ [(L : Int)]) wx → Calls Tryz.prog 33 #[.pointer (some ⟨w.heap.size, 0, none⟩), .agg (opC o), .int .i64 0] wx fun e w' => e = .returned (.tuple #[]) ∧ ∃ v, TrM w.heap.size w.heap.size v mv' (cs ++ [(o, 0)]) (ms ++ [(L : Int)]) w' ∧ Below w.heap.size wx w') := fun wx mv' t => trAdd_any _ _ _ _ _ _ o 0 wx t (Nat.le_refl _) (by rw [HLc.out]; omega)
        unfold opC at HAd
        have iL : IntKind.i64.wrap (L : Int) = (L : Int) := by rw [IntKind.wrap_i64]; omega
        clear rf
        go_wp2_with fail
        go_region_law (refine step_append_g Tryz.underlying77 info_int rfl (by decide) rfl (.tmp 35) (.tmp 41) rfl w.heap.size (.slice pm M cm) M (rowV inC ms) rfl (by have := HA.out.marks; rw [HLm.out] at this; exact this) HBA.out w1.heap.size 1 1 (rowV inC [(L : Int)]) rfl rfl HCA.out (rowV_one inC_one _) (by omega) (by omega) ?_; intro v5 w5 ho5 hg5; have te := HR.out w5 v5 ho5 hg5; obtain ⟨p5, c5, g5, hv5, _, _, hp5, _⟩ := orow_src ho5; obtain rfl := hp5 (by omega); subst hv5; clear hp5; have HTE := hidD te; have q5 := (opx_cells te.1 1 rfl).1; have y5 := (opx_cells te.1 1 rfl).2; clear ho5 hg5 te)
        all_goals
          obtain ⟨w6, hw6⟩ : ∃ w6, w5.setCell ⟨w.heap.size, 1, none⟩ (.slice (some ⟨g5, 0, none⟩) (M + 1) c5) = w6 := ⟨_, rfl⟩
          rw [hw6] at HTE ⊢
          clear hw6 q5 y5 d0 d1 d2 d3 d4 d5 d6 d7 d8 r0 r1 y1
          have d0 := (opx_cells HTE.out.2.2.2 0 rfl).1
          have d1 := (opx_cells HTE.out.2.2.2 1 rfl).1
          have d2 := (opx_cells HTE.out.2.2.2 2 rfl).1
          have d3 := (opx_cells HTE.out.2.2.2 3 rfl).1
          have d4 := (opx_cells HTE.out.2.2.2 4 rfl).1
          have d5 := (opx_cells HTE.out.2.2.2 5 rfl).1
          have d6 := (opx_cells HTE.out.2.2.2 6 rfl).1
          have d7 := (opx_cells HTE.out.2.2.2 7 rfl).1
          have d8 := (opx_cells HTE.out.2.2.2 8 rfl).1
          go_wp2_with fail
          refine (HAd.out _ _ HTE.out.2.1).mono ?_
          rintro e w2 ⟨rfl, v, t2, b2⟩
          have HI2 : Hid (TmI w w2 (S (k + 1))) := by show TmI _ _ _; rw [HSk'.out, HLc.out]; exact ⟨⟨v, _, t2⟩, HTE.out.2.2.1.trans b2⟩
          clear t2 b2
          go_wp2_with fail
          go_roundw
          case rel => exact HRe.out _ HI2.out
          case measure => simp [intOf]; omega
      | other h1 h2 =>
        obtain rfl : T = false := by rw [← htk]; exact h2
        have z1 : (o.kind == 1) = false := beq_eq_false_iff_ne.2 h1
        have HC : Hid (Calls Tryz.prog 33 #[.pointer (some ⟨w.heap.size, 0, none⟩), .agg (opC o), .int .i64 0] w1 fun e w' => e = .returned (.tuple #[]) ∧ ∃ v, TrM w.heap.size w.heap.size v (.slice pm M cm) (cs ++ [(o, 0)]) ms w' ∧ Below w.heap.size w1 w') := trAdd_any _ _ _ _ _ _ o 0 w1 HTr1.out (Nat.le_refl _) (by rw [HLc.out]; omega)
        unfold opC at HC
        clear h1 h2 htk
        go_wp2_with fail
        refine HC.out.mono ?_
        rintro e w2 ⟨rfl, v, t2, b2⟩
        have HI2 : Hid (TmI w w2 (S (k + 1))) := by show TmI _ _ _; rw [HSk'.out]; exact ⟨⟨v, _, t2⟩, HB1.out.trans b2⟩
        clear t2 b2
        go_wp2_with fail
        go_roundw
        case rel => exact HRe.out _ HI2.out
        case measure => simp [intOf]; omega
    · obtain rfl : k = n := by omega
      obtain ⟨cv, mv, tr⟩ := HI.out.t
      have HB := hidD HI.out.b
      obtain ⟨pc, cc, gc, hcv, -, -, hpc, -⟩ := orow_src tr.code
      subst hcv
      rcases hsk : S k with ⟨cs, ms⟩
      rw [hsk] at tr hpc
      obtain ⟨hl1, _⟩ := HL.out k hk
      rw [hsk] at hl1
      dsimp only at tr hpc hl1
      obtain ⟨L, hL⟩ : ∃ L, cs.length = L := ⟨_, rfl⟩
      have HLc := hidD hL
      have HSk := hidD hsk
      rw [hL] at tr hpc hl1
      have HTr := hidD tr
      have Hpc := hidD hpc
      clear tr hsk HI hL hpc HT HL HS
      obtain ⟨r0, _, _⟩ := HTr.out.cells
      have HZ0 : Hid (wr.ownsRow w.heap.size 35 9 (.slice none 0 0) 0 (rowV opC ((cs.map Prod.fst).take 0)) ∧ TrM w.heap.size w.heap.size (.slice pc L cc) mv cs ms wr ∧ Below w.heap.size w wr) := ⟨orow_nil _ _ _ _, HTr.out, HB.out⟩
      clear HTr HB
      go_wp2_with fail
      go_loopw [6, 54] (fun sv i wx => ∃ j : Nat, j ≤ L ∧ i = .int .i64 j ∧ Hid (wx.ownsRow w.heap.size 35 9 sv j (rowV opC ((cs.map Prod.fst).take j)) ∧ TrM w.heap.size w.heap.size (.slice pc L cc) mv cs ms wx ∧ Below w.heap.size w wx)) (fun _ i _ => L - (intOf i).toNat)
      case atStart => exact ⟨0, Nat.zero_le _, rfl, HZ0⟩
      case round =>
        clear HZ0 r0
        obtain ⟨j, hj, rfl, HJ⟩ := hrel
        obtain ⟨ps, cq, gs, hsv, -⟩ := orow_src HJ.out.1
        subst hsv
        by_cases hlt : j < L
        · obtain ⟨pc', cc', gc', hcv', _, _, hpc', _, hbk, hcl, _⟩ := orow_src HJ.out.2.1.code
          rw [HLc.out] at hcv' hpc' hcl
          injection hcv' with e1 _ e3
          obtain rfl := hpc' (by omega)
          subst e1 e3
          have hgl : gc' < wr.heap.size := (hbk _ rfl).2.2
          have hgn := Nat.ne_of_lt hgl
          have hx : ∀ t < 10, wr.cell? ⟨gc', j * 10 + t, none⟩ = (keC (cs.getD j (opr0, 0)))[t]? := fun t ht => by
            rw [hcl _ (by omega), rowV_get keC_size (opr0, 0) cs j t (by rw [HLc.out]; exact hlt) ht]
          have c0 := hx 0 (by decide)
          have c1 := hx 1 (by decide)
          have c2 := hx 2 (by decide)
          have c3 := hx 3 (by decide)
          have c4 := hx 4 (by decide)
          have c5 := hx 5 (by decide)
          have c6 := hx 6 (by decide)
          have c7 := hx 7 (by decide)
          have c8 := hx 8 (by decide)
          have c9 := hx 9 (by decide)
          have HTk : Hid ((cs.map Prod.fst).take (j + 1) = (cs.map Prod.fst).take j ++ [(cs.getD j (opr0, 0)).1]) := by
            show _ = _
            rw [take_more _ opr0 j (by rw [List.length_map, HLc.out]; exact hlt)]
            congr 2
            simp [List.getD]
            cases cs[j]? <;> rfl
          generalize cs.getD j (opr0, 0) = oy at c0 c1 c2 c3 c4 c5 c6 c7 c8 c9 HTk
          obtain ⟨o, y⟩ := oy
          simp only [keC, Nat.add_zero] at c0 c1 c2 c3 c4 c5 c6 c7 c8 c9
          have HLt : Hid (((cs.map Prod.fst).take j).length = j) := by show _ = _; rw [List.length_take, List.length_map, HLc.out]; omega
          clear hx hcl hbk hpc'
          have i1 : (j : Int) < (L : Int) := by omega
          have HW : Hid (Below wr.heap.size wr ((wr.alloc (.cells #[.int .i64 o.kind, .float .f64 o.x, .float .f64 o.y, .int .i64 o.day, .int .i64 o.to, .int .i64 o.cur, .int .i64 o.count, .int .i64 o.n, .int .i64 o.months, .int .i64 y] 86)).alloc (.cells #[.int .i64 o.kind, .float .f64 o.x, .float .f64 o.y, .int .i64 o.day, .int .i64 o.to, .int .i64 o.cur, .int .i64 o.count, .int .i64 o.n, .int .i64 o.months] 35))) := ((Below.refl _ _).alloc (Nat.le_refl _) _).alloc (by simp) _
          have HJ1 : Hid (((wr.alloc (.cells #[.int .i64 o.kind, .float .f64 o.x, .float .f64 o.y, .int .i64 o.day, .int .i64 o.to, .int .i64 o.cur, .int .i64 o.count, .int .i64 o.n, .int .i64 o.months, .int .i64 y] 86)).alloc (.cells #[.int .i64 o.kind, .float .f64 o.x, .float .f64 o.y, .int .i64 o.day, .int .i64 o.to, .int .i64 o.cur, .int .i64 o.count, .int .i64 o.n, .int .i64 o.months] 35)).ownsRow w.heap.size 35 9 (.slice ps j cq) j (rowV opC ((cs.map Prod.fst).take j)) ∧ TrM w.heap.size w.heap.size (.slice (some ⟨gc', 0, none⟩) L cc) mv cs ms ((wr.alloc (.cells #[.int .i64 o.kind, .float .f64 o.x, .float .f64 o.y, .int .i64 o.day, .int .i64 o.to, .int .i64 o.cur, .int .i64 o.count, .int .i64 o.n, .int .i64 o.months, .int .i64 y] 86)).alloc (.cells #[.int .i64 o.kind, .float .f64 o.x, .float .f64 o.y, .int .i64 o.day, .int .i64 o.to, .int .i64 o.cur, .int .i64 o.count, .int .i64 o.n, .int .i64 o.months] 35)) ∧ Below w.heap.size w ((wr.alloc (.cells #[.int .i64 o.kind, .float .f64 o.x, .float .f64 o.y, .int .i64 o.day, .int .i64 o.to, .int .i64 o.cur, .int .i64 o.count, .int .i64 o.n, .int .i64 o.months, .int .i64 y] 86)).alloc (.cells #[.int .i64 o.kind, .float .f64 o.x, .float .f64 o.y, .int .i64 o.day, .int .i64 o.to, .int .i64 o.cur, .int .i64 o.count, .int .i64 o.n, .int .i64 o.months] 35))) := ⟨orow_below HJ.out.1 HW.out, HJ.out.2.1.below HW.out, HJ.out.2.2.trans (HW.out.mono HJ.out.2.2.size)⟩
          have HC4 : Hid (∀ i u, (rowV opC [o])[i]? = some u → ((wr.alloc (.cells #[.int .i64 o.kind, .float .f64 o.x, .float .f64 o.y, .int .i64 o.day, .int .i64 o.to, .int .i64 o.cur, .int .i64 o.count, .int .i64 o.n, .int .i64 o.months, .int .i64 y] 86)).alloc (.cells #[.int .i64 o.kind, .float .f64 o.x, .float .f64 o.y, .int .i64 o.day, .int .i64 o.to, .int .i64 o.cur, .int .i64 o.count, .int .i64 o.n, .int .i64 o.months] 35)).cell? ⟨wr.heap.size + 1, i, none⟩ = some u) := fun i u hj => by
            have := new_cells (wr.alloc (.cells #[.int .i64 o.kind, .float .f64 o.x, .float .f64 o.y, .int .i64 o.day, .int .i64 o.to, .int .i64 o.cur, .int .i64 o.count, .int .i64 o.n, .int .i64 o.months, .int .i64 y] 86)) (opC o) 35 i u (by simpa [rowV] using hj)
            rw [sz_al] at this
            exact this
          clear HJ HW
          go_wp2_with (at_builtin; refine wpList_append_g _ Tryz.underlying22 info_opC rfl (by decide) rfl (.tmp 58) (.tmp 61) rfl w.heap.size (.slice ps j cq) j (rowV opC ((cs.map Prod.fst).take j)) rfl HJ1.out.1 HJ1.out.2.2.size (wr.heap.size + 1) 1 1 (rowV opC [o]) rfl rfl HC4.out (rowV_one opC_one _) (by omega) (by omega) ?_; intro v5 w5 ho5 hg5; have HE5 : Hid (w5.ownsRow w.heap.size 35 9 v5 (j + 1) (rowV opC ((cs.map Prod.fst).take (j + 1))) ∧ TrM w.heap.size w.heap.size (.slice (some ⟨gc', 0, none⟩) L cc) mv cs ms w5 ∧ Below w.heap.size w w5) := tr_loop HJ1.out.2.2.size HJ1.out HTk.out ho5 hg5; clear ho5 hg5)
          go_roundw
          case rel => exact ⟨j + 1, hlt, by simp, HE5⟩
          case measure => simp [intOf]; omega
        · obtain rfl : j = L := by omega
          have HF : Hid (wr.ownsRow w.heap.size 35 9 (.slice ps j cq) j (rowV opC (cs.map Prod.fst)) ∧ Below w.heap.size w wr) := by
            have h1 := HJ.out.1
            rw [List.take_of_length_le (by rw [List.length_map, HLc.out]; exact Nat.le_refl _)] at h1
            exact ⟨h1, HJ.out.2.2⟩
          clear HJ
          go_wp2_with fail
          go_ret
          exact ⟨_, rfl, by rw [HSk.out]; dsimp only; rw [HLc.out]; exact HF.out.1, HF.out.2⟩
end Go.Proofs.YtonojdapfnlckaaGreatDoor
namespace Go.Proofs.YtonojdapfnlckaaGreatDoor
open Go.RowKit

set_option maxRecDepth 20000 in
theorem cTrim_go {l : List Opr} {m : Int} (hm : MeaR l m 0 0) (n : Nat) (p : Option Addr) (b0 off c : Nat) (hn : l.length = n) (hn2 : n ≤ 90000) (hu : ∀ i < n, OpU (l.getD i opr0)) (S : Nat → List (Opr × Int) × List Int) (hS0 : S 0 = ([], []))
    (hS : ∀ k < n, TStep (l.getD k opr0) (S k).1 (S k).2 (S (k + 1))) (hl : ∀ k ≤ n, (S k).1.length ≤ 90000 ∧ (S k).2.length ≤ 90000) (w : World) (hs : OSrc w p b0 off l) :
    Calls Tryz.prog 6 #[.slice p n c] w fun e w' => ∃ v, e = .returned (.tuple #[v, .int .i64 0]) ∧ w'.ownsRow w.heap.size 35 9 v (S n).1.length (rowV opC ((S n).1.map Prod.fst)) ∧ Below w.heap.size w w' := by
  have H1 := hidD (cCheck_is hm n p b0 off c w hs hn hu (by omega))
  have H2 : Hid (∀ w1, Below w.heap.size w w1 → Calls Tryz.prog 17 #[.slice p n c] w1 fun e w' => ∃ v, e = .returned v ∧ w'.ownsRow w.heap.size 35 9 v (S n).1.length (rowV opC ((S n).1.map Prod.fst)) ∧ Below w.heap.size w w') := fun w1 hb => (trimmed_go l n p b0 off c hn hn2 S hS0 hS hl w1 (hs.below hb)).mono fun e w' ⟨v, he, ho, hb'⟩ => ⟨v, he, orow_lower ho hb.size, hb.trans (hb'.mono hb.size)⟩
  clear hm hn hn2 hu hS0 hS hl hs
  go_enter Tryz.func6, Tryz.ntmps6
  go_wp2_with fail
  refine H1.out.mono ?_
  rintro e w1 ⟨rfl, hb⟩
  have HT := hidD (H2.out w1 hb)
  clear hb
  go_wp2_with fail
  refine HT.out.mono ?_
  rintro e w2 ⟨v, rfl, ho, hb⟩
  have HE := hidD (And.intro ho hb)
  clear ho hb
  go_wp2_with fail
  go_ret2
  exact ⟨_, rfl, HE.out.1, HE.out.2⟩
def tr18 : Nat → List (Opr × Int) × List Int
  | 0 => ([], [])
  | 1 => ([(markO, 0)], [0])
  | 2 => ([(markO, 0), (markO, 0)], [0, 1])
  | 3 => ([(markO, 0), (markO, 0), (opT (tmP 3), 0)], [0, 1])
  | 4 => ([(markO, 0), (markO, 0), (opT (tmP 3), 0), (opT (giveT 0), 2)], [0])
  | _ => ([(opT (tmP 3), 0)], [])
theorem tr18_step (k : Nat) (hk : k < 5) : TStep (code18.getD k opr0) (tr18 k).1 (tr18 k).2 (tr18 (k + 1)) := by
  rcases (show k = 0 ∨ k = 1 ∨ k = 2 ∨ k = 3 ∨ k = 4 by omega) with rfl | rfl | rfl | rfl | rfl
  · exact .mark (by decide)
  · exact .mark (by decide)
  · exact .other (by decide) (by decide)
  · refine .take _ _ (by decide) fun B b cv mv w t hb => ?_
    refine (trTake_any B b 2 1 1 cv mv [(markO, 0), (markO, 0)] (opT (tmP 3), 0) [0] (opT (giveT 0)) w t hb rfl rfl (by decide) (by decide) (by decide) (by decide) (by decide) (fun h => absurd h (by decide)) (by decide) (by decide)).mono ?_
    rintro e w' ⟨he, v, v', t', b'⟩
    rw [if_neg (by decide)] at t'
    exact ⟨he, v, v', t', b'⟩
  · refine .take _ _ (by decide) fun B b cv mv w t hb => ?_
    refine (trTake_any B b 3 0 0 cv mv [(markO, 0), (markO, 0), (opT (tmP 3), 0)] (opT (giveT 0), 2) [] (opT (giveT 1)) w t hb rfl rfl (by decide) (by decide) (by decide) (by decide) (by decide) (fun _ => by decide) (by decide) (by decide)).mono ?_
    rintro e w' ⟨he, v, v', t', b'⟩
    rw [if_pos (by decide)] at t'
    exact ⟨he, v, v', t', b'⟩
theorem cTrim18 (p : Option Addr) (b off c : Nat) (w : World) (hs : OSrc w p b off code18) : Calls Tryz.prog 6 #[.slice p 5 c] w fun e w' => ∃ v, e = .returned (.tuple #[v, .int .i64 0]) ∧ w'.ownsRow w.heap.size 35 9 v 1 (rowV opC [opT (tmP 3)]) ∧ Below w.heap.size w w' :=
  cTrim_go mea18 5 p b off c rfl (by decide) opu18 tr18 rfl tr18_step (fun k hk => by
    rcases (show k = 0 ∨ k = 1 ∨ k = 2 ∨ k = 3 ∨ k = 4 ∨ k = 5 by omega) with rfl | rfl | rfl | rfl | rfl | rfl <;> exact ⟨by decide, by decide⟩) w hs
end Go.Proofs.YtonojdapfnlckaaGreatDoor
namespace Go.Proofs.YtonojdapfnlckaaGreatDoor
open Go.RowKit

set_option maxRecDepth 20000 in
set_option maxHeartbeats 12800000 in
theorem awake18 (w : World) {bp op cp : Nat} (hp : PfT 6 5 9 bp op cp w) :
    Calls Tryz.prog 5 #[] w fun e w' => e = .returned (.bool true) ∧ Below w.heap.size w w' := by
  have HP := hidD (parse18 w hp)
  clear hp
  go_enter Tryz.func5, Tryz.ntmps5
  go_wp2_with fail
  refine HP.out.mono ?_
  rintro e w1 ⟨v, rfl, ht, hb⟩
  obtain ⟨g, c, rfl⟩ := ht.full (by simp)
  have hr : TmR w1 g tree18 := ht.read
  have HB1 := hidD hb
  have HC := hidD (cCompile18 g c w1 hr)
  clear ht hb hr
  go_wp2_with fail
  refine HC.out.mono ?_
  rintro e w2 ⟨v2, rfl, ho, hb⟩
  have HB2 := hidD (HB1.out.trans (hb.mono HB1.out.size))
  obtain ⟨p2, c2, _, rfl, -⟩ := orow_src ho
  obtain ⟨g2, hs2⟩ := osrc_of ho rfl
  have HS2 := hidD hs2
  have HT := hidD (cTrim18 p2 g2 0 c2 w2 hs2)
  clear ho hb hs2
  go_wp2_with fail
  refine HT.out.mono ?_
  rintro e w3 ⟨v3, rfl, ho, hb⟩
  have HB3 := hidD (HB2.out.trans (hb.mono HB2.out.size))
  obtain ⟨p3, c3, _, rfl, -⟩ := orow_src ho
  have HM := hidD (cMarks18 p2 g2 0 c2 w3 (HS2.out.below hb))
  clear ho hb
  go_wp2_with fail
  refine HM.out.mono ?_
  rintro e w4 ⟨rfl, hb⟩
  have HB4 := hidD (HB3.out.trans (hb.mono HB3.out.size))
  have HK := hidD (cBack_nil w4)
  clear hb
  go_wp2_with fail
  refine HK.out.mono ?_
  rintro e w5 ⟨v5, rfl, ht, hb⟩
  have HB5 := hidD (HB4.out.trans (hb.mono HB4.out.size))
  obtain ⟨g5, c5, rfl⟩ := ht.full (by simp)
  have z0 : w5.cell? ⟨g5, 0, none⟩ = some (.int .i64 1) := ht.read.c0 0 (by decide)
  clear ht hb
  go_wp2_with fail
  go_ret
  exact ⟨rfl, HB5.out⟩
end Go.Proofs.YtonojdapfnlckaaGreatDoor
namespace Go.Proofs.YtonojdapfnlckaaGreatDoor
open Go.RowKit

def trnO (o : Opr) : Bool := (o.kind == 5 && (FloatKind.f64.format.order o.x 4607182418800017408 == some .eq)) || (o.kind == 7 && o.n == 1)
set_option maxRecDepth 20000 in
set_option maxHeartbeats 3200000 in
theorem turns_any (o : Opr) (w : World) : Calls Tryz.prog 70 #[.agg (opC o)] w fun e w' => e = .returned (.bool (trnO o)) ∧ Below w.heap.size w w' := by
  unfold trnO opC
  obtain ⟨q, hq⟩ : ∃ q, (FloatKind.f64.format.order o.x 4607182418800017408 == some .eq) = q := ⟨_, rfl⟩
  rw [hq]
  by_cases h5 : o.kind = 5
  · have z5 : (o.kind == 5) = true := by rw [h5]; rfl
    have z7 : (o.kind == 7) = false := by rw [h5]; rfl
    rw [z5, z7]
    clear h5
    cases q
    all_goals
      go_enter Tryz.func70, Tryz.ntmps70
      go_wp2_with fail
      go_ret
      exact ⟨rfl, al_bel _ _⟩
  · have z5 : (o.kind == 5) = false := beq_eq_false_iff_ne.2 h5
    rw [z5]
    clear h5 hq
    by_cases h7 : o.kind = 7
    · have z7 : (o.kind == 7) = true := by rw [h7]; rfl
      rw [z7]
      clear h7
      obtain ⟨r, hr⟩ : ∃ r, (o.n == 1) = r := ⟨_, rfl⟩
      rw [hr]
      cases r
      all_goals
        go_enter Tryz.func70, Tryz.ntmps70
        go_wp2_with fail
        go_ret
        exact ⟨rfl, al_bel _ _⟩
    · have z7 : (o.kind == 7) = false := beq_eq_false_iff_ne.2 h7
      rw [z7]
      clear h7
      go_enter Tryz.func70, Tryz.ntmps70
      go_wp2_with fail
      go_ret
      exact ⟨rfl, al_bel _ _⟩
set_option maxRecDepth 20000 in
set_option maxHeartbeats 12800000 in
theorem trTake_gen (B b L m N : Nat) (cv mv : Value) (r : List (Opr × Int)) (x : Opr × Int) (ms : List Int) (o : Opr) (w : World) (h : TrM B b cv mv (r ++ [x]) (ms ++ [(m : Int)]) w) (hb : B ≤ b) (hr : r.length = L) (hms : ms.length = N) (hL : L ≤ 90000) (hN : N ≤ 90000) (hm : m < L) (hx0 : 0 ≤ x.2) (hx1 : x.2 ≤ 100000) (hx4 : x.1.kind = 4 → 1 ≤ x.2) (ht : trnO o = false) :
    Calls Tryz.prog 32 #[.pointer (some ⟨b, 0, none⟩), .agg (opC o)] w fun e w' => e = .returned (.tuple #[]) ∧ ∃ v v', TrM B b v v' (if (o.kind == 4 && gabO x L m) = true then drop3 r m else r ++ [x] ++ [(o, (L : Int) + 1 - (m : Int))]) ms w' ∧ Below B w w' := by
  obtain ⟨Z, hZ⟩ : ∃ Z, (if (o.kind == 4 && gabO x L m) = true then drop3 r m else r ++ [x] ++ [(o, (L : Int) + 1 - (m : Int))]) = Z := ⟨_, rfl⟩
  rw [hZ]
  have HZ := hidD hZ
  clear hZ
  have HBb := hidD hb
  have HBw : Hid (B ≤ w.heap.size) := by have := lt_of_blk h.box; show _ ≤ _; omega
  obtain ⟨g, c, hmv, hmc, hcl, htk⟩ := h.shapeM (by simp)
  have hlm : (ms ++ [(m : Int)]).length = N + 1 := by simp [hms]
  rw [hlm] at hmv hmc hcl htk
  subst hmv
  obtain ⟨gc, cc, hcv⟩ := h.shape (by simp)
  have hlc : (r ++ [x]).length = L + 1 := by simp [hr]
  rw [hlc] at hcv
  subst hcv
  have HW1 := hidD (al_bel w (.cells (opC o) 35))
  have H1 := hidD (h.below HW1.out)
  have HT1 : Hid ((w.alloc (.cells (opC o) 35)).heap[w.heap.size]? = some (.cells (opC o) 35)) := heap_alloc_new _ _
  have HM1 : Hid ((w.alloc (.cells (opC o) 35)).cell? ⟨g, N, none⟩ = some (.int .i64 (m : Int)) ∧ (w.alloc (.cells (opC o) 35)).ownsRow B 3 1 (.slice (some ⟨g, 0, none⟩) N c) N (rowV inC ms)) := by
    have e0 := hcl N (by omega)
    have e1 := htk N (by omega)
    rw [← hms, List.take_left, hms] at e1
    have e2 : (ms ++ [(m : Int)]).getD N 0 = (m : Int) := by rw [← hms]; simp [List.getD]
    rw [e2] at e0
    have hgl : g < w.heap.size := by
      rcases h.marks.2 with ⟨h0, _⟩ | ⟨g', _, _, e, _, hg, _⟩
      · cases h0
      · injection e with e _ _
        injection e with e
        injection e with e _ _
        subst e
        exact lt_of_blk hg
    exact ⟨(World.cell?_of_block (w := w) (a := ⟨g, N, none⟩) (HW1.out.block g hgl)).trans e0, orow_below e1 HW1.out⟩
  have HTn : Hid (∀ wx, Calls Tryz.prog 70 #[.agg (opC o)] wx fun e w' => e = .returned (.bool false) ∧ Below wx.heap.size wx w') := fun wx => by have := turns_any o wx; rw [ht] at this; exact this
  have HAd : Hid (∀ (wx : World) (mv' : Value), TrM B b (.slice (some ⟨gc, 0, none⟩) (L + 1) cc) mv' (r ++ [x]) ms wx → Calls Tryz.prog 33 #[.pointer (some ⟨b, 0, none⟩), .agg (opC o), .int .i64 ((L : Int) + 1 - (m : Int))] wx fun e w' => e = .returned (.tuple #[]) ∧ ∃ v, TrM B b v mv' (r ++ [x] ++ [(o, (L : Int) + 1 - (m : Int))]) ms w' ∧ Below B wx w') := fun wx mv' t => trAdd_any B b _ mv' _ ms o _ wx t hb (by simp [hr]; omega)
  have HGv : Hid (∀ (wx : World) (cv' mv' : Value), TrM B b cv' mv' (r ++ [x]) ms wx → Calls Tryz.prog 72 #[.pointer (some ⟨b, 0, none⟩), .int .i64 (m : Int)] wx fun e w' => e = .returned (.bool (gabO x L m)) ∧ Below wx.heap.size wx w') := fun wx cv' mv' t => gives_any B b L m cv' mv' r x ms wx t hr (by omega) (by omega) (by omega) hx0 hx1
  have HD1 : Hid (∀ (wx : World) (cv' mv' : Value), TrM B b cv' mv' (r ++ [x]) ms wx → Calls Tryz.prog 71 #[.pointer (some ⟨b, 0, none⟩), .int .i64 (L : Int)] wx fun e w' => e = .returned (.tuple #[]) ∧ ∃ v, TrM B b v mv' r ms w' ∧ Below B wx w') := fun wx cv' mv' t => by
    have d := trDrop_any B b L L cv' mv' (r ++ [x]) ms wx t hb (by simp [hr]) (Nat.le_refl _) (by omega)
    rw [← hr, List.take_left, List.drop_eq_nil_of_le (by simp), List.append_nil] at d
    rw [← hr]
    exact d
  have HD2 : Hid (∀ (wx : World) (cv' mv' : Value), m + 2 ≤ L → TrM B b cv' mv' r ms wx → Calls Tryz.prog 71 #[.pointer (some ⟨b, 0, none⟩), .int .i64 ((m : Int) + 1)] wx fun e w' => e = .returned (.tuple #[]) ∧ ∃ v, TrM B b v mv' (r.take (m + 1) ++ r.drop (m + 1 + 1)) ms w' ∧ Below B wx w') := fun wx cv' mv' h2 t => trDrop_any B b (m + 1) (L - 1) cv' mv' r ms wx t hb (by omega) (by omega) (by omega)
  have HD3 : Hid (∀ (wx : World) (cv' mv' : Value), m + 2 ≤ L → TrM B b cv' mv' (r.take (m + 1) ++ r.drop (m + 1 + 1)) ms wx → Calls Tryz.prog 71 #[.pointer (some ⟨b, 0, none⟩), .int .i64 (m : Int)] wx fun e w' => e = .returned (.tuple #[]) ∧ ∃ v, TrM B b v mv' (drop3 r m) ms w' ∧ Below B wx w') := fun wx cv' mv' h2 t => trDrop_any B b m (L - 2) cv' mv' _ ms wx t hb (by rw [List.length_append, List.length_take, List.length_drop]; omega) (by omega) (by omega)
  have HGt : Hid (gabO x L m = true → m + 2 ≤ L) := fun e => by
    unfold gabO at e
    rw [Bool.and_eq_true, beq_iff_eq, beq_iff_eq] at e
    have := hx4 e.1
    omega
  have hst := store_fltD
  have HHr := hidD hr
  have HHm := hidD hms
  clear h hcl htk ht hlm hlc
  unfold opC at HW1 H1 HT1 HM1 HTn HAd ⊢
  have i0 : (((N + 1 : Nat) : Int) - 1) = (N : Int) := by omega
  have i1 : (0 : Int) ≤ (N : Int) := by omega
  have i2 : (N : Int) < ((N + 1 : Nat) : Int) := by omega
  have i3 : (N : Int) ≤ (c : Int) := by omega
  have i4 : (((L + 1 : Nat) : Int) - 1) = (L : Int) := by omega
  have i5 : ¬ (m : Int) = (L : Int) := by omega
  have i6 : ((m : Int) == (L : Int)) = false := beq_eq_false_iff_ne.2 i5
  have i7 : ¬ (c : Int) < (N : Int) := by omega
  have i8 : N ≤ c := by omega
  have iw : IntKind.i64.wrap (N : Int) = (N : Int) := by rw [IntKind.wrap_i64]; omega
  have iv : IntKind.i64.wrap (L : Int) = (L : Int) := by rw [IntKind.wrap_i64]; omega
  have iu : IntKind.i64.wrap ((L : Int) + 1 - (m : Int)) = (L : Int) + 1 - (m : Int) := by rw [IntKind.wrap_i64]; omega
  have it : IntKind.i64.wrap ((m : Int) + 1) = (m : Int) + 1 := by rw [IntKind.wrap_i64]; omega
  have i9 : N ≤ N + 1 := by omega
  go_enter Tryz.func32, Tryz.ntmps32
  go_wp2_with fail
  obtain ⟨w1, hw1⟩ : ∃ w1, w.alloc (.cells #[.int .i64 o.kind, .float .f64 o.x, .float .f64 o.y, .int .i64 o.day, .int .i64 o.to, .int .i64 o.cur, .int .i64 o.count, .int .i64 o.n, .int .i64 o.months] 35) = w1 := ⟨_, rfl⟩
  rw [hw1] at HW1 H1 HT1 HM1 ⊢
  clear hw1
  have HB1 : Hid (Below B w w1 ∧ B ≤ w1.heap.size) := ⟨HW1.out.mono HBw.out, Nat.le_trans HBw.out HW1.out.size⟩
  obtain ⟨r0, r1, rf⟩ := H1.out.cells
  have y1 := rf 1
  have m0 := HM1.out.1
  clear rf HW1
  go_quiet (fail)
  go_wp2_with fail
  obtain ⟨w2, hw2⟩ : ∃ wq, World.drewN w1 nq = wq := ⟨_, rfl⟩
  have HK2 : Hid (Below w1.heap.size w1 w2) := by show Below _ _ _; rw [← hw2]; exact ⟨rfl, rfl, rfl, Nat.le_refl _, fun _ _ => rfl⟩
  rw [hw2]
  clear hw2 r0 r1 y1 m0
  have H2 := hidD (H1.out.below HK2.out)
  have HM2 := hidD (orow_below HM1.out.2 HK2.out)
  have HT2 : Hid (w2.heap[w.heap.size]? = some (.cells #[.int .i64 o.kind, .float .f64 o.x, .float .f64 o.y, .int .i64 o.day, .int .i64 o.to, .int .i64 o.cur, .int .i64 o.count, .int .i64 o.n, .int .i64 o.months] 35)) := (HK2.out.block _ (lt_of_blk HT1.out)).trans HT1.out
  have HB2 : Hid (Below B w w2 ∧ B ≤ w2.heap.size) := ⟨HB1.out.1.trans (HK2.out.mono HB1.out.2), Nat.le_trans HB1.out.2 HK2.out.size⟩
  clear H1 HM1 HT1 HB1 HK2
  obtain ⟨r0, r1, rf⟩ := H2.out.cells
  have y1 := rf 1
  clear rf
  go_region_with (fail)
  all_goals
    obtain ⟨w3, hw3⟩ : ∃ w3, World.drew (w2.setCell ⟨b, 1, none⟩ (.slice (some ⟨g, 0, none⟩) N c)) = w3 := ⟨_, rfl⟩
    have H3 : Hid (TrM B b (.slice (some ⟨gc, 0, none⟩) (L + 1) cc) (.slice (some ⟨g, 0, none⟩) N c) (r ++ [x]) ms w3 ∧ Below B w w3 ∧ B ≤ w3.heap.size ∧ w3.heap[w.heap.size]? = some (.cells #[.int .i64 o.kind, .float .f64 o.x, .float .f64 o.y, .int .i64 o.day, .int .i64 o.to, .int .i64 o.cur, .int .i64 o.count, .int .i64 o.n, .int .i64 o.months] 35)) := by
      have t := H2.out.remark HBb.out HB2.out.2 (World.grownBy.refl w2 _) (mv' := .slice (some ⟨g, 0, none⟩) N c) (ms' := ms) (by rw [HHm.out]; exact HM2.out)
      have hs : (World.drew (w2.setCell ⟨b, 1, none⟩ (.slice (some ⟨g, 0, none⟩) N c))).heap.size = w2.heap.size := by simp
      have hbn : w.heap.size ≠ b := fun e => by
        have t2 := HT2.out
        rw [e, H2.out.box] at t2
        injection t2 with t2
        injection t2 with _ t2
        exact absurd t2 (by decide)
      rw [← hw3]
      exact ⟨⟨t.2.1.box, t.2.1.code, t.2.1.marks⟩, HB2.out.1.trans t.2.2.drew, by rw [hs]; exact HB2.out.2, (blkF_far _ _ _ _ hbn).trans HT2.out⟩
    rw [hw3]
    clear hw3 r0 r1 y1
    obtain ⟨r0, r1, _⟩ := H3.out.1.cells
    have HO3 := hidD H3.out.2.2.2
    have z0 := (opx_cells HO3.out 0 rfl).1
    have z1 := (opx_cells HO3.out 1 rfl).1
    have z2 := (opx_cells HO3.out 2 rfl).1
    have z3 := (opx_cells HO3.out 3 rfl).1
    have z4 := (opx_cells HO3.out 4 rfl).1
    have z5 := (opx_cells HO3.out 5 rfl).1
    have z6 := (opx_cells HO3.out 6 rfl).1
    have z7 := (opx_cells HO3.out 7 rfl).1
    have z8 := (opx_cells HO3.out 8 rfl).1
    go_wp2_with fail
    refine (HTn.out _).mono ?_
    rintro e w4 ⟨rfl, hb4⟩
    have H4 : Hid (TrM B b (.slice (some ⟨gc, 0, none⟩) (L + 1) cc) (.slice (some ⟨g, 0, none⟩) N c) (r ++ [x]) ms w4 ∧ Below B w w4 ∧ B ≤ w4.heap.size ∧ w4.heap[w.heap.size]? = some (.cells #[.int .i64 o.kind, .float .f64 o.x, .float .f64 o.y, .int .i64 o.day, .int .i64 o.to, .int .i64 o.cur, .int .i64 o.count, .int .i64 o.n, .int .i64 o.months] 35)) := ⟨H3.out.1.below hb4, H3.out.2.1.trans (hb4.mono H3.out.2.2.1), Nat.le_trans H3.out.2.2.1 hb4.size, (hb4.block _ (lt_of_blk H3.out.2.2.2)).trans H3.out.2.2.2⟩
    clear hb4 r0 r1 z0 z1 z2 z3 z4 z5 z6 z7 z8 HO3
    obtain ⟨r0, r1, _⟩ := H4.out.1.cells
    have HO4 := hidD H4.out.2.2.2
    have z0 := (opx_cells HO4.out 0 rfl).1
    have z1 := (opx_cells HO4.out 1 rfl).1
    have z2 := (opx_cells HO4.out 2 rfl).1
    have z3 := (opx_cells HO4.out 3 rfl).1
    have z4 := (opx_cells HO4.out 4 rfl).1
    have z5 := (opx_cells HO4.out 5 rfl).1
    have z6 := (opx_cells HO4.out 6 rfl).1
    have z7 := (opx_cells HO4.out 7 rfl).1
    have z8 := (opx_cells HO4.out 8 rfl).1
    by_cases h4 : o.kind = 4
    · have zk : (o.kind == 4) = true := by rw [h4]; rfl
      have HZk := hidD zk
      clear h4
      go_wp2_with fail
      refine (HGv.out _ _ _ H4.out.1).mono ?_
      rintro e w5 ⟨rfl, hb5⟩
      have H5 : Hid (TrM B b (.slice (some ⟨gc, 0, none⟩) (L + 1) cc) (.slice (some ⟨g, 0, none⟩) N c) (r ++ [x]) ms w5 ∧ Below B w w5 ∧ B ≤ w5.heap.size ∧ w5.heap[w.heap.size]? = some (.cells #[.int .i64 o.kind, .float .f64 o.x, .float .f64 o.y, .int .i64 o.day, .int .i64 o.to, .int .i64 o.cur, .int .i64 o.count, .int .i64 o.n, .int .i64 o.months] 35)) := ⟨H4.out.1.below hb5, H4.out.2.1.trans (hb5.mono H4.out.2.2.1), Nat.le_trans H4.out.2.2.1 hb5.size, (hb5.block _ (lt_of_blk H4.out.2.2.2)).trans H4.out.2.2.2⟩
      clear zk hb5 r0 r1 z0 z1 z2 z3 z4 z5 z6 z7 z8 HO4
      obtain ⟨r0, r1, _⟩ := H5.out.1.cells
      have HO5 := hidD H5.out.2.2.2
      have z0 := (opx_cells HO5.out 0 rfl).1
      have z1 := (opx_cells HO5.out 1 rfl).1
      have z2 := (opx_cells HO5.out 2 rfl).1
      have z3 := (opx_cells HO5.out 3 rfl).1
      have z4 := (opx_cells HO5.out 4 rfl).1
      have z5 := (opx_cells HO5.out 5 rfl).1
      have z6 := (opx_cells HO5.out 6 rfl).1
      have z7 := (opx_cells HO5.out 7 rfl).1
      have z8 := (opx_cells HO5.out 8 rfl).1
      cases hG : gabO x L m
      · have eZ : Hid (Z = r ++ [x] ++ [(o, (L : Int) + 1 - (m : Int))]) := by show _ = _; rw [← HZ.out, HZk.out, hG]; rfl
        clear hG
        have HTd : Hid (TrM B b (.slice (some ⟨gc, 0, none⟩) (L + 1) cc) (.slice (some ⟨g, 0, none⟩) N c) (r ++ [x]) ms w5.drew) := ⟨H5.out.1.box, H5.out.1.code, H5.out.1.marks⟩
        have HT5 : Hid (∀ w6, Below B w5.drew w6 → Below B w w6) := fun w6 b6 => H5.out.2.1.trans ⟨b6.os, b6.tape, b6.output, b6.size, b6.block⟩
        go_wp2_with fail
        go_region_with ((go_at_call 33; refine (HAd.out _ (.slice (some ⟨g, 0, none⟩) N c) HTd.out).mono ?_; rintro e w6 ⟨rfl, v6, t6, b6⟩; have HE := hidD (And.intro t6 (HT5.out w6 b6)); clear t6 b6))
        all_goals
          go_wp2_with fail
          exact bodyPost_end (v := .tuple #[]) (by simp [results, Tryz.results32, go_sem]) rfl ⟨rfl, _, _, by rw [eZ.out]; exact HE.out.1, HE.out.2⟩
      · have eZ : Hid (Z = drop3 r m) := by show _ = _; rw [← HZ.out, HZk.out, hG]; rfl
        have HG2 := hidD (HGt.out hG)
        clear hG
        go_wp2_with fail
        refine (HD1.out _ _ _ H5.out.1).mono ?_
        rintro e w6 ⟨rfl, v6, t6, b6⟩
        have H6 := hidD (And.intro t6 (H5.out.2.1.trans b6))
        clear t6 b6
        go_wp2_with fail
        refine (HD2.out _ _ _ HG2.out H6.out.1).mono ?_
        rintro e w7 ⟨rfl, v7, t7, b7⟩
        have H7 := hidD (And.intro t7 (H6.out.2.trans b7))
        clear t7 b7
        go_wp2_with fail
        refine (HD3.out _ _ _ HG2.out H7.out.1).mono ?_
        rintro e w8 ⟨rfl, v8, t8, b8⟩
        have H8 := hidD (And.intro t8 (H7.out.2.trans b8))
        clear t8 b8
        go_wp2_with fail
        exact bodyPost_end (v := .tuple #[]) (by simp [results, Tryz.results32, go_sem]) rfl ⟨rfl, _, _, by rw [eZ.out]; exact H8.out.1, H8.out.2⟩
    · have zk : (o.kind == 4) = false := beq_eq_false_iff_ne.2 h4
      have eZ : Hid (Z = r ++ [x] ++ [(o, (L : Int) + 1 - (m : Int))]) := by show _ = _; rw [← HZ.out, zk, Bool.false_and]; rfl
      clear h4
      have HTd : Hid (TrM B b (.slice (some ⟨gc, 0, none⟩) (L + 1) cc) (.slice (some ⟨g, 0, none⟩) N c) (r ++ [x]) ms w4.drew) := ⟨H4.out.1.box, H4.out.1.code, H4.out.1.marks⟩
      have HT5 : Hid (∀ w6, Below B w4.drew w6 → Below B w w6) := fun w6 b6 => H4.out.2.1.trans ⟨b6.os, b6.tape, b6.output, b6.size, b6.block⟩
      go_wp2_with fail
      go_region_with ((go_at_call 33; refine (HAd.out _ (.slice (some ⟨g, 0, none⟩) N c) HTd.out).mono ?_; rintro e w6 ⟨rfl, v6, t6, b6⟩; have HE := hidD (And.intro t6 (HT5.out w6 b6)); clear t6 b6))
      all_goals
        go_wp2_with fail
        exact bodyPost_end (v := .tuple #[]) (by simp [results, Tryz.results32, go_sem]) rfl ⟨rfl, _, _, by rw [eZ.out]; exact HE.out.1, HE.out.2⟩
end Go.Proofs.YtonojdapfnlckaaGreatDoor
namespace Go.Proofs.YtonojdapfnlckaaGreatDoor
open Go.RowKit

set_option maxRecDepth 20000 in
set_option maxHeartbeats 12800000 in
theorem trTake_drop (B b L m N : Nat) (cv mv : Value) (r : List (Opr × Int)) (x : Opr × Int) (ms : List Int) (o : Opr) (w : World) (h : TrM B b cv mv (r ++ [x]) (ms ++ [(m : Int)]) w) (hb : B ≤ b) (hr : r.length = L) (hms : ms.length = N) (hL : L ≤ 90000) (hN : N ≤ 90000) (hm : m ≤ L) (hd : m = L ∨ trnO o = true) :
    Calls Tryz.prog 32 #[.pointer (some ⟨b, 0, none⟩), .agg (opC o)] w fun e w' => e = .returned (.tuple #[]) ∧ ∃ v v', TrM B b v v' ((r ++ [x]).take m ++ (r ++ [x]).drop (m + 1)) ms w' ∧ Below B w w' := by
  have HBb := hidD hb
  have HBw : Hid (B ≤ w.heap.size) := by have := lt_of_blk h.box; show _ ≤ _; omega
  obtain ⟨g, c, hmv, hmc, hcl, htk⟩ := h.shapeM (by simp)
  have hlm : (ms ++ [(m : Int)]).length = N + 1 := by simp [hms]
  rw [hlm] at hmv hmc hcl htk
  subst hmv
  obtain ⟨gc, cc, hcv⟩ := h.shape (by simp)
  have hlc : (r ++ [x]).length = L + 1 := by simp [hr]
  rw [hlc] at hcv
  subst hcv
  have HW1 := hidD (al_bel w (.cells (opC o) 35))
  have H1 := hidD (h.below HW1.out)
  have HT1 : Hid ((w.alloc (.cells (opC o) 35)).heap[w.heap.size]? = some (.cells (opC o) 35)) := heap_alloc_new _ _
  have HM1 : Hid ((w.alloc (.cells (opC o) 35)).cell? ⟨g, N, none⟩ = some (.int .i64 (m : Int)) ∧ (w.alloc (.cells (opC o) 35)).ownsRow B 3 1 (.slice (some ⟨g, 0, none⟩) N c) N (rowV inC ms)) := by
    have e0 := hcl N (by omega)
    have e1 := htk N (by omega)
    rw [← hms, List.take_left, hms] at e1
    have e2 : (ms ++ [(m : Int)]).getD N 0 = (m : Int) := by rw [← hms]; simp [List.getD]
    rw [e2] at e0
    have hgl : g < w.heap.size := by
      rcases h.marks.2 with ⟨h0, _⟩ | ⟨g', _, _, e, _, hg, _⟩
      · cases h0
      · injection e with e _ _
        injection e with e
        injection e with e _ _
        subst e
        exact lt_of_blk hg
    exact ⟨(World.cell?_of_block (w := w) (a := ⟨g, N, none⟩) (HW1.out.block g hgl)).trans e0, orow_below e1 HW1.out⟩
  have HTn : Hid (∀ wx, Calls Tryz.prog 70 #[.agg (opC o)] wx fun e w' => e = .returned (.bool (trnO o)) ∧ Below wx.heap.size wx w') := fun wx => turns_any o wx
  have HDm : Hid (∀ (wx : World) (cv' mv' : Value), TrM B b cv' mv' (r ++ [x]) ms wx → Calls Tryz.prog 71 #[.pointer (some ⟨b, 0, none⟩), .int .i64 (m : Int)] wx fun e w' => e = .returned (.tuple #[]) ∧ ∃ v, TrM B b v mv' ((r ++ [x]).take m ++ (r ++ [x]).drop (m + 1)) ms w' ∧ Below B wx w') := fun wx cv' mv' t => trDrop_any B b m L cv' mv' (r ++ [x]) ms wx t hb (by simp [hr]) hm (by omega)
  have hst := store_fltD
  have HHr := hidD hr
  have HHm := hidD hms
  generalize (r ++ [x]).take m ++ (r ++ [x]).drop (m + 1) = Z at HDm ⊢
  clear h hcl htk hlm hlc
  unfold opC at HW1 H1 HT1 HM1 HTn ⊢
  have i0 : (((N + 1 : Nat) : Int) - 1) = (N : Int) := by omega
  have i1 : (0 : Int) ≤ (N : Int) := by omega
  have i2 : (N : Int) < ((N + 1 : Nat) : Int) := by omega
  have i3 : (N : Int) ≤ (c : Int) := by omega
  have i4 : (((L + 1 : Nat) : Int) - 1) = (L : Int) := by omega
  have i7 : ¬ (c : Int) < (N : Int) := by omega
  have i8 : N ≤ c := by omega
  have iw : IntKind.i64.wrap (N : Int) = (N : Int) := by rw [IntKind.wrap_i64]; omega
  have iv : IntKind.i64.wrap (L : Int) = (L : Int) := by rw [IntKind.wrap_i64]; omega
  have i9 : N ≤ N + 1 := by omega
  go_enter Tryz.func32, Tryz.ntmps32
  go_wp2_with fail
  obtain ⟨w1, hw1⟩ : ∃ w1, w.alloc (.cells #[.int .i64 o.kind, .float .f64 o.x, .float .f64 o.y, .int .i64 o.day, .int .i64 o.to, .int .i64 o.cur, .int .i64 o.count, .int .i64 o.n, .int .i64 o.months] 35) = w1 := ⟨_, rfl⟩
  rw [hw1] at HW1 H1 HT1 HM1 ⊢
  clear hw1
  have HB1 : Hid (Below B w w1 ∧ B ≤ w1.heap.size) := ⟨HW1.out.mono HBw.out, Nat.le_trans HBw.out HW1.out.size⟩
  obtain ⟨r0, r1, rf⟩ := H1.out.cells
  have y1 := rf 1
  have m0 := HM1.out.1
  clear rf HW1
  go_quiet (fail)
  go_wp2_with fail
  obtain ⟨w2, hw2⟩ : ∃ wq, World.drewN w1 nq = wq := ⟨_, rfl⟩
  have HK2 : Hid (Below w1.heap.size w1 w2) := by show Below _ _ _; rw [← hw2]; exact ⟨rfl, rfl, rfl, Nat.le_refl _, fun _ _ => rfl⟩
  rw [hw2]
  clear hw2 r0 r1 y1 m0
  have H2 := hidD (H1.out.below HK2.out)
  have HM2 := hidD (orow_below HM1.out.2 HK2.out)
  have HT2 : Hid (w2.heap[w.heap.size]? = some (.cells #[.int .i64 o.kind, .float .f64 o.x, .float .f64 o.y, .int .i64 o.day, .int .i64 o.to, .int .i64 o.cur, .int .i64 o.count, .int .i64 o.n, .int .i64 o.months] 35)) := (HK2.out.block _ (lt_of_blk HT1.out)).trans HT1.out
  have HB2 : Hid (Below B w w2 ∧ B ≤ w2.heap.size) := ⟨HB1.out.1.trans (HK2.out.mono HB1.out.2), Nat.le_trans HB1.out.2 HK2.out.size⟩
  clear H1 HM1 HT1 HB1 HK2
  obtain ⟨r0, r1, rf⟩ := H2.out.cells
  have y1 := rf 1
  clear rf
  go_region_with (fail)
  all_goals
    obtain ⟨w3, hw3⟩ : ∃ w3, World.drew (w2.setCell ⟨b, 1, none⟩ (.slice (some ⟨g, 0, none⟩) N c)) = w3 := ⟨_, rfl⟩
    have H3 : Hid (TrM B b (.slice (some ⟨gc, 0, none⟩) (L + 1) cc) (.slice (some ⟨g, 0, none⟩) N c) (r ++ [x]) ms w3 ∧ Below B w w3 ∧ B ≤ w3.heap.size ∧ w3.heap[w.heap.size]? = some (.cells #[.int .i64 o.kind, .float .f64 o.x, .float .f64 o.y, .int .i64 o.day, .int .i64 o.to, .int .i64 o.cur, .int .i64 o.count, .int .i64 o.n, .int .i64 o.months] 35)) := by
      have t := H2.out.remark HBb.out HB2.out.2 (World.grownBy.refl w2 _) (mv' := .slice (some ⟨g, 0, none⟩) N c) (ms' := ms) (by rw [HHm.out]; exact HM2.out)
      have hs : (World.drew (w2.setCell ⟨b, 1, none⟩ (.slice (some ⟨g, 0, none⟩) N c))).heap.size = w2.heap.size := by simp
      have hbn : w.heap.size ≠ b := fun e => by
        have t2 := HT2.out
        rw [e, H2.out.box] at t2
        injection t2 with t2
        injection t2 with _ t2
        exact absurd t2 (by decide)
      rw [← hw3]
      exact ⟨⟨t.2.1.box, t.2.1.code, t.2.1.marks⟩, HB2.out.1.trans t.2.2.drew, by rw [hs]; exact HB2.out.2, (blkF_far _ _ _ _ hbn).trans HT2.out⟩
    rw [hw3]
    clear hw3 r0 r1 y1
    obtain ⟨r0, r1, _⟩ := H3.out.1.cells
    have HO3 := hidD H3.out.2.2.2
    have z0 := (opx_cells HO3.out 0 rfl).1
    have z1 := (opx_cells HO3.out 1 rfl).1
    have z2 := (opx_cells HO3.out 2 rfl).1
    have z3 := (opx_cells HO3.out 3 rfl).1
    have z4 := (opx_cells HO3.out 4 rfl).1
    have z5 := (opx_cells HO3.out 5 rfl).1
    have z6 := (opx_cells HO3.out 6 rfl).1
    have z7 := (opx_cells HO3.out 7 rfl).1
    have z8 := (opx_cells HO3.out 8 rfl).1
    by_cases hmL : m = L
    · have t1 : ((m : Int) == (L : Int)) = true := by rw [hmL]; exact beq_self_eq_true _
      clear hmL hd
      go_wp2_with fail
      refine (HDm.out _ _ _ H3.out.1).mono ?_
      rintro e w8 ⟨rfl, v8, t8, b8⟩
      have H8 := hidD (And.intro t8 (H3.out.2.1.trans b8))
      clear t8 b8
      go_wp2_with fail
      exact bodyPost_end (v := .tuple #[]) (by simp [results, Tryz.results32, go_sem]) rfl ⟨rfl, _, _, H8.out.1, H8.out.2⟩
    · have t1 : ((m : Int) == (L : Int)) = false := beq_eq_false_iff_ne.2 (by omega)
      have ht : trnO o = true := hd.resolve_left hmL
      rw [ht] at HTn
      clear hmL hd ht
      go_wp2_with fail
      refine (HTn.out _).mono ?_
      rintro e w4 ⟨rfl, hb4⟩
      have H4 : Hid (TrM B b (.slice (some ⟨gc, 0, none⟩) (L + 1) cc) (.slice (some ⟨g, 0, none⟩) N c) (r ++ [x]) ms w4 ∧ Below B w w4 ∧ B ≤ w4.heap.size) := ⟨H3.out.1.below hb4, H3.out.2.1.trans (hb4.mono H3.out.2.2.1), Nat.le_trans H3.out.2.2.1 hb4.size⟩
      clear hb4 r0 r1 z0 z1 z2 z3 z4 z5 z6 z7 z8 HO3
      obtain ⟨r0, r1, _⟩ := H4.out.1.cells
      go_wp2_with fail
      refine (HDm.out _ _ _ H4.out.1).mono ?_
      rintro e w8 ⟨rfl, v8, t8, b8⟩
      have H8 := hidD (And.intro t8 (H4.out.2.1.trans b8))
      clear t8 b8
      go_wp2_with fail
      exact bodyPost_end (v := .tuple #[]) (by simp [results, Tryz.results32, go_sem]) rfl ⟨rfl, _, _, H8.out.1, H8.out.2⟩
end Go.Proofs.YtonojdapfnlckaaGreatDoor
