/- Package code: trimmed, by the states that its loop goes through. Package code: Trim where the code may be; Trim of awake18's code. The law's awake of stage 18. Package code: the builder of trees in memory; a term is added, the last piece is taken, a term is set beside. Package code: the builder takes the last piece away, and sets a term beside it. Package code: the trimmer's take, whatever the op. Package code: the trimmer's take of an op whose mark goes with it. Package code: Trim of any code that may be. Trimmed code in plain words: pieces that are nested well stay as they are. What is kept of a code that may be: pieces that are nested well, with the open marks between them. Trimmed code: it may be, trimmed again it stays, and nothing in it can go. Trimmed code: what CodeLeast asks of it, in plain words. The document's trimming, one thing at a time, in plain words: what it leaves is what the trimmer keeps. Package code: a tree out of code. Deals compiled, and code as a tree, in plain words: the code of the tree of a code is that code; code of a tree may be. -/
import Derived.Test.YtienedhaogjahaaGreatDoorHbh
import Derived.Test.YtienedhaogjahaaGreatDoorHbd
import Derived.Test.YtienedhaogjahaaGreatDoorHbb
import Derived.Test.YtienedhaogjahaaGreatDoorHbe
import Derived.Maps.AppendAt
import Derived.Test.YtienedhaogjahaaGreatDoorFlt
import Derived.Test.YtienedhaogjahaaGreatDoorHbf
namespace Go.Proofs.YtienedhaogjahaaGreatDoor
open Go.RowKit

inductive TStep (o : Opr) (cs : List (Opr × Int)) (ms : List Int) : List (Opr × Int) × List Int → Prop
  | take (cs' : List (Opr × Int)) (ms' : List Int) : takO o = true → (∀ (B b : Nat) (cv mv : Value) (w : World), TrM B b cv mv cs ms w → B ≤ b → Calls Tryz.prog 55 #[.pointer (some ⟨b, 0, none⟩), .agg (opC o)] w fun e w' => e = .returned (.tuple #[]) ∧ ∃ v v', TrM B b v v' cs' ms' w' ∧ Below B w w') → TStep o cs ms (cs', ms')
  | mark : o.kind = 1 → TStep o cs ms (cs ++ [(o, 0)], ms ++ [(cs.length : Int)])
  | other : o.kind ≠ 1 → takO o = false → TStep o cs ms (cs ++ [(o, 0)], ms)
structure TmI (w wr : World) (s : List (Opr × Int) × List Int) : Prop where
  t : ∃ cv mv, TrM w.heap.size w.heap.size cv mv s.1 s.2 wr
  b : Below w.heap.size w wr
theorem info_int : (Tryz.prog.info? 3).map (fun i => (i.zero, i.size, i.bytes)) = some (some (.int .i64 0), 1, 8) := by kernel_rfl
theorem take_more {α : Type} (l : List α) (d : α) (j : Nat) (hj : j < l.length) : l.take (j + 1) = l.take j ++ [l.getD j d] := by
  rw [List.take_add_one]
  simp [List.getD, List.getElem?_eq_getElem hj]
theorem tr_mark {B b : Nat} {cv mv : Value} {cs : List (Opr × Int)} {ms : List Int} {w : World} (h : TrM B b cv mv cs ms w) (hb : B ≤ b) (x : Int) {w5 : World} {v5 : Value} (ho : w5.ownsRow B 3 1 v5 (ms.length + 1) (rowV inC ms ++ rowV inC [x])) (hg : w.grownBy w5 mv.ownBlock) :
    w5.heap[b]? = some (.cells #[cv, mv] 118) ∧ TrM B b cv v5 cs (ms ++ [x]) (w5.setCell ⟨b, 1, none⟩ v5) ∧ Below B w (w5.setCell ⟨b, 1, none⟩ v5) :=
  h.remark hb (Nat.le_trans hb (Nat.le_of_lt (lt_of_blk h.box))) hg (row_more ho rfl)
theorem tr_loop {B b j : Nat} {cv mv v v5 : Value} {cs : List (Opr × Int)} {ms : List Int} {xs ys : List Opr} {o : Opr} {w0 w w5 : World} (hB : B ≤ w.heap.size) (h : w.ownsRow B 47 9 v j (rowV opC xs) ∧ TrM B b cv mv cs ms w ∧ Below B w0 w) (hy : ys = xs ++ [o]) (ho : w5.ownsRow B 47 9 v5 (j + 1) (rowV opC xs ++ rowV opC [o])) (hg : w.grownBy w5 v.ownBlock) : w5.ownsRow B 47 9 v5 (j + 1) (rowV opC ys) ∧ TrM B b cv mv cs ms w5 ∧ Below B w0 w5 := by
  obtain ⟨h1, h2, h3⟩ := h
  refine ⟨by rw [hy, rowV_append]; exact ho, ⟨(hg.block b (lt_of_blk h2.box) (fun e => orow_box h1 h2.box (by decide) b e.symm rfl)).trans h2.box, h2.code.kept hg (orow_apart h2.code h1 (by decide)), h2.marks.kept hg (orow_apart h2.marks h1 (by decide))⟩, h3.trans (orow_grown h1 hg hB)⟩
set_option maxRecDepth 20000 in
set_option maxHeartbeats 25600000 in
theorem trimmed_go (l : List Opr) (n : Nat) (p : Option Addr) (b0 off c : Nat) (hn : l.length = n) (hn2 : n ≤ 90000) (S : Nat → List (Opr × Int) × List Int) (hS0 : S 0 = ([], []))
    (hS : ∀ k < n, TStep (l.getD k opr0) (S k).1 (S k).2 (S (k + 1))) (hl : ∀ k ≤ n, (S k).1.length ≤ 90000 ∧ (S k).2.length ≤ 90000) (w : World) (hs : OSrc w p b0 off l) :
    Calls Tryz.prog 33 #[.slice p n c] w fun e w' => ∃ v, e = .returned v ∧ w'.ownsRow w.heap.size 47 9 v (S n).1.length (rowV opC ((S n).1.map Prod.fst)) ∧ Below w.heap.size w w' := by
  have HS := hidD hs
  have HN := hidD hn
  have HT := hidD hS
  have HL := hidD hl
  have hst := store_fltD
  have hf2 := fieldC2
  have H0 : Hid (TmI w (w.alloc (.cells #[.slice none 0 0, .slice none 0 0] 118)) (S 0)) := by
    show TmI _ _ _
    rw [hS0]
    exact ⟨⟨_, _, heap_alloc_new _ _, orow_nil _ _ _ _, orow_nil _ _ _ _⟩, al_bel _ _⟩
  clear hs hn hS hl hS0
  go_enter Tryz.func33, Tryz.ntmps33
  go_wp2_with fail
  go_loopw [13] (fun i wr => ∃ k : Nat, k ≤ n ∧ i = .int .i64 k ∧ Hid (TmI w wr (S k))) (fun i _ => n - (intOf i).toNat)
  case atStart => exact ⟨0, Nat.zero_le _, rfl, H0⟩
  case round =>
    clear H0
    obtain ⟨k, hk, rfl, HI⟩ := hrel
    by_cases hlt : k < n
    · have hlt' : k < l.length := by rw [HN.out]; exact hlt
      have HSr := hidD (HS.out.below HI.out.b)
      obtain rfl := HSr.out.at_ (by omega)
      have c0 := HSr.out.c0 k hlt'
      have c1 := HSr.out.c1 k hlt'
      have c2 := HSr.out.c2 k hlt'
      have c3 := HSr.out.c3 k hlt'
      have c4 := HSr.out.c4 k hlt'
      have c5 := HSr.out.c5 k hlt'
      have c6 := HSr.out.c6 k hlt'
      have c7 := HSr.out.c7 k hlt'
      have c8 := HSr.out.c8 k hlt'
      have hbl : b0 < wr.heap.size := HSr.out.lt (by omega)
      have hbn := Nat.ne_of_lt hbl
      have HKo := hidD (kindOf_any (l.getD k opr0))
      have st := HT.out k hlt
      obtain ⟨hl1, hl2⟩ := HL.out k hk
      generalize l.getD k opr0 = o at *
      have i1 : (k : Int) < (n : Int) := by omega
      have HRe : Hid (∀ wx, TmI w wx (S (k + 1)) → ∃ k' : Nat, k' ≤ n ∧ Value.int .i64 ((k : Int) + 1) = .int .i64 k' ∧ Hid (TmI w wx (S k'))) := fun wx h => ⟨k + 1, hlt, by simp, h⟩
      unfold opC at HKo
      clear hk HSr
      have HB := hidD HI.out.b
      obtain ⟨cv, mv, tr⟩ := HI.out.t
      obtain ⟨pc, cc, gc, hcv, -⟩ := orow_src tr.code
      obtain ⟨pm, cm, gm, hmv, -⟩ := orow_src tr.marks
      subst hcv hmv
      rcases hsk : S k with ⟨cs, ms⟩
      rcases hsk' : S (k + 1) with ⟨cs', ms'⟩
      rw [hsk, hsk'] at st
      rw [hsk] at tr hl1 hl2
      dsimp only at tr st hl1 hl2
      have HSk' := hidD hsk'
      obtain ⟨L, hL⟩ : ∃ L, cs.length = L := ⟨_, rfl⟩
      obtain ⟨M, hM⟩ : ∃ M, ms.length = M := ⟨_, rfl⟩
      have HLc := hidD hL
      have HLm := hidD hM
      rw [hL] at tr hl1
      rw [hM] at tr hl2
      have HTr := hidD tr
      clear tr hsk hsk' HI hL hM
      have Ho1 : Hid ((wr.alloc (.cells #[.int .i64 o.kind, .float .f64 o.x, .float .f64 o.y, .int .i64 o.day, .int .i64 o.to, .int .i64 o.cur, .int .i64 o.count, .int .i64 o.n, .int .i64 o.months] 47)).heap[wr.heap.size]? = some (.cells #[.int .i64 o.kind, .float .f64 o.x, .float .f64 o.y, .int .i64 o.day, .int .i64 o.to, .int .i64 o.cur, .int .i64 o.count, .int .i64 o.n, .int .i64 o.months] 47)) := heap_alloc_new _ _
      go_wp2_with fail
      refine (HKo.out _).mono ?_
      rintro e w1 ⟨xo, xt, xb, rfl, ha, hb1⟩
      obtain rfl : xb = takO o := ans_takes ha
      have HW1 : Hid (Below wr.heap.size wr w1) := (al_bel wr _).trans (hb1.mono (by simp))
      have Ho2 : Hid (w1.heap[wr.heap.size]? = some (.cells #[.int .i64 o.kind, .float .f64 o.x, .float .f64 o.y, .int .i64 o.day, .int .i64 o.to, .int .i64 o.cur, .int .i64 o.count, .int .i64 o.n, .int .i64 o.months] 47)) := (hb1.block _ (lt_of_blk Ho1.out)).trans Ho1.out
      have HTr1 := hidD (HTr.out.below HW1.out)
      have HB1 := hidD (HB.out.trans (HW1.out.mono HB.out.size))
      have d0 := (opx_cells Ho2.out 0 rfl).1
      have d1 := (opx_cells Ho2.out 1 rfl).1
      have d2 := (opx_cells Ho2.out 2 rfl).1
      have d3 := (opx_cells Ho2.out 3 rfl).1
      have d4 := (opx_cells Ho2.out 4 rfl).1
      have d5 := (opx_cells Ho2.out 5 rfl).1
      have d6 := (opx_cells Ho2.out 6 rfl).1
      have d7 := (opx_cells Ho2.out 7 rfl).1
      have d8 := (opx_cells Ho2.out 8 rfl).1
      clear ha hb1 c0 c1 c2 c3 c4 c5 c6 c7 c8 HKo Ho1 HTr HB
      generalize htk : takO o = T
      cases st with
      | take _ _ h1 hC =>
        obtain rfl : T = true := by rw [← htk]; exact h1
        have HC : Hid (Calls Tryz.prog 55 #[.pointer (some ⟨w.heap.size, 0, none⟩), .agg (opC o)] w1 fun e w' => e = .returned (.tuple #[]) ∧ ∃ v v', TrM w.heap.size w.heap.size v v' cs' ms' w' ∧ Below w.heap.size w1 w') := hC _ _ _ _ _ HTr1.out (Nat.le_refl _)
        unfold opC at HC
        clear hC h1 htk
        go_wp2_with fail
        refine HC.out.mono ?_
        rintro e w2 ⟨rfl, v, v', t2, b2⟩
        have HI2 : Hid (TmI w w2 (S (k + 1))) := by show TmI _ _ _; rw [HSk'.out]; exact ⟨⟨v, v', t2⟩, HB1.out.trans b2⟩
        clear t2 b2
        go_wp2_with fail
        go_roundw
        case rel => exact HRe.out _ HI2.out
        case measure => simp [intOf]; omega
      | mark h1 =>
        obtain rfl : T = false := by rw [← htk]; unfold takO; rw [h1]; rfl
        have z1 : (o.kind == 1) = true := by rw [h1]; rfl
        clear htk h1
        have hbw : w.heap.size < w1.heap.size := lt_of_blk HTr1.out.box
        have hbq := Nat.ne_of_lt hbw
        obtain ⟨r0, r1, rf⟩ := HTr1.out.cells
        have y1 := rf 1
        have HA : Hid (TrM w.heap.size w.heap.size (.slice pc L cc) (.slice pm M cm) cs ms (w1.drew.alloc (.cells #[.int .i64 (L : Int)] 3))) := HTr1.out.below ((Below.refl _ _).drew.alloc (Nat.le_refl _) _)
        have HBA : Hid (w.heap.size ≤ (w1.drew.alloc (.cells #[.int .i64 (L : Int)] 3)).heap.size) := by show _ ≤ _; simp; omega
        have HCA : Hid (∀ j u, (rowV inC [(L : Int)])[j]? = some u → (w1.drew.alloc (.cells #[.int .i64 (L : Int)] 3)).cell? ⟨w1.heap.size, j, none⟩ = some u) := fun j u hj => new_cells w1.drew #[.int .i64 (L : Int)] 3 j u hj
        have HNe : Hid (wr.heap.size ≠ w.heap.size) := fun e => by
          have := Ho2.out
          rw [e, HTr1.out.box] at this
          injection this with this
          injection this with _ this
          exact absurd this (by decide)
        have HR : Hid (∀ w5 v5, w5.ownsRow w.heap.size 3 1 v5 (M + 1) (rowV inC ms ++ rowV inC [(L : Int)]) → World.grownBy (w1.drew.alloc (.cells #[.int .i64 (L : Int)] 3)) w5 (Value.slice pm M cm).ownBlock → w5.heap[w.heap.size]? = some (.cells #[.slice pc L cc, .slice pm M cm] 118) ∧ TrM w.heap.size w.heap.size (.slice pc L cc) v5 cs (ms ++ [(L : Int)]) (w5.setCell ⟨w.heap.size, 1, none⟩ v5) ∧ Below w.heap.size w (w5.setCell ⟨w.heap.size, 1, none⟩ v5) ∧ (w5.setCell ⟨w.heap.size, 1, none⟩ v5).heap[wr.heap.size]? = some (.cells #[.int .i64 o.kind, .float .f64 o.x, .float .f64 o.y, .int .i64 o.day, .int .i64 o.to, .int .i64 o.cur, .int .i64 o.count, .int .i64 o.n, .int .i64 o.months] 47)) := fun w5 v5 h5 g5 => by
          have h6 := tr_mark HA.out (Nat.le_refl _) (L : Int) (by rw [HLm.out]; exact h5) g5
          have hq : wr.heap.size < w1.heap.size := lt_of_blk Ho2.out
          have ho : (w1.drew.alloc (.cells #[.int .i64 (L : Int)] 3)).heap[wr.heap.size]? = some (.cells #[.int .i64 o.kind, .float .f64 o.x, .float .f64 o.y, .int .i64 o.day, .int .i64 o.to, .int .i64 o.cur, .int .i64 o.count, .int .i64 o.n, .int .i64 o.months] 47) := by rw [al_at, if_neg (by simp; omega)]; exact Ho2.out
          have ho5 : w5.heap[wr.heap.size]? = some (.cells #[.int .i64 o.kind, .float .f64 o.x, .float .f64 o.y, .int .i64 o.day, .int .i64 o.to, .int .i64 o.cur, .int .i64 o.count, .int .i64 o.n, .int .i64 o.months] 47) := (g5.block _ (lt_of_blk ho) (fun e => orow_box HA.out.marks ho (by decide) _ e.symm rfl)).trans ho
          exact ⟨h6.1, h6.2.1, (HB1.out.trans ((Below.refl w.heap.size w1).drew.alloc (Nat.le_of_lt hbw) _)).trans h6.2.2, (blkF_far _ _ _ _ HNe.out).trans ho5⟩
        have HAd : Hid (∀ (wx : World) (mv' : Value), TrM w.heap.size w.heap.size (.slice pc L cc) mv' cs (ms ++ [(L : Int)]) wx → Calls Tryz.prog 56 #[.pointer (some ⟨w.heap.size, 0, none⟩), .agg (opC o), .int .i64 0] wx fun e w' => e = .returned (.tuple #[]) ∧ ∃ v, TrM w.heap.size w.heap.size v mv' (cs ++ [(o, 0)]) (ms ++ [(L : Int)]) w' ∧ Below w.heap.size wx w') := fun wx mv' t => trAdd_any _ _ _ _ _ _ o 0 wx t (Nat.le_refl _) (by rw [HLc.out]; omega)
        unfold opC at HAd
        have iL : IntKind.i64.wrap (L : Int) = (L : Int) := by rw [IntKind.wrap_i64]; omega
        clear rf
        go_wp2_with fail
        go_region_law (refine step_append_g Tryz.underlying101 info_int rfl (by decide) rfl (.tmp 35) (.tmp 41) rfl w.heap.size (.slice pm M cm) M (rowV inC ms) rfl (by have := HA.out.marks; rw [HLm.out] at this; exact this) HBA.out w1.heap.size 1 1 (rowV inC [(L : Int)]) rfl rfl HCA.out (rowV_one inC_one _) (by omega) (by omega) ?_; intro v5 w5 ho5 hg5; have te := HR.out w5 v5 ho5 hg5; obtain ⟨p5, c5, g5, hv5, _, _, hp5, _⟩ := orow_src ho5; obtain rfl := hp5 (by omega); subst hv5; clear hp5; have HTE := hidD te; have q5 := (opx_cells te.1 1 rfl).1; have y5 := (opx_cells te.1 1 rfl).2; clear ho5 hg5 te)
        all_goals
          obtain ⟨w6, hw6⟩ : ∃ w6, w5.setCell ⟨w.heap.size, 1, none⟩ (.slice (some ⟨g5, 0, none⟩) (M + 1) c5) = w6 := ⟨_, rfl⟩
          rw [hw6] at HTE ⊢
          clear hw6 q5 y5 d0 d1 d2 d3 d4 d5 d6 d7 d8 r0 r1 y1
          have d0 := (opx_cells HTE.out.2.2.2 0 rfl).1
          have d1 := (opx_cells HTE.out.2.2.2 1 rfl).1
          have d2 := (opx_cells HTE.out.2.2.2 2 rfl).1
          have d3 := (opx_cells HTE.out.2.2.2 3 rfl).1
          have d4 := (opx_cells HTE.out.2.2.2 4 rfl).1
          have d5 := (opx_cells HTE.out.2.2.2 5 rfl).1
          have d6 := (opx_cells HTE.out.2.2.2 6 rfl).1
          have d7 := (opx_cells HTE.out.2.2.2 7 rfl).1
          have d8 := (opx_cells HTE.out.2.2.2 8 rfl).1
          go_wp2_with fail
          refine (HAd.out _ _ HTE.out.2.1).mono ?_
          rintro e w2 ⟨rfl, v, t2, b2⟩
          have HI2 : Hid (TmI w w2 (S (k + 1))) := by show TmI _ _ _; rw [HSk'.out, HLc.out]; exact ⟨⟨v, _, t2⟩, HTE.out.2.2.1.trans b2⟩
          clear t2 b2
          go_wp2_with fail
          go_roundw
          case rel => exact HRe.out _ HI2.out
          case measure => simp [intOf]; omega
      | other h1 h2 =>
        obtain rfl : T = false := by rw [← htk]; exact h2
        have z1 : (o.kind == 1) = false := beq_eq_false_iff_ne.2 h1
        have HC : Hid (Calls Tryz.prog 56 #[.pointer (some ⟨w.heap.size, 0, none⟩), .agg (opC o), .int .i64 0] w1 fun e w' => e = .returned (.tuple #[]) ∧ ∃ v, TrM w.heap.size w.heap.size v (.slice pm M cm) (cs ++ [(o, 0)]) ms w' ∧ Below w.heap.size w1 w') := trAdd_any _ _ _ _ _ _ o 0 w1 HTr1.out (Nat.le_refl _) (by rw [HLc.out]; omega)
        unfold opC at HC
        clear h1 h2 htk
        go_wp2_with fail
        refine HC.out.mono ?_
        rintro e w2 ⟨rfl, v, t2, b2⟩
        have HI2 : Hid (TmI w w2 (S (k + 1))) := by show TmI _ _ _; rw [HSk'.out]; exact ⟨⟨v, _, t2⟩, HB1.out.trans b2⟩
        clear t2 b2
        go_wp2_with fail
        go_roundw
        case rel => exact HRe.out _ HI2.out
        case measure => simp [intOf]; omega
    · obtain rfl : k = n := by omega
      obtain ⟨cv, mv, tr⟩ := HI.out.t
      have HB := hidD HI.out.b
      obtain ⟨pc, cc, gc, hcv, -, -, hpc, -⟩ := orow_src tr.code
      subst hcv
      rcases hsk : S k with ⟨cs, ms⟩
      rw [hsk] at tr hpc
      obtain ⟨hl1, _⟩ := HL.out k hk
      rw [hsk] at hl1
      dsimp only at tr hpc hl1
      obtain ⟨L, hL⟩ : ∃ L, cs.length = L := ⟨_, rfl⟩
      have HLc := hidD hL
      have HSk := hidD hsk
      rw [hL] at tr hpc hl1
      have HTr := hidD tr
      have Hpc := hidD hpc
      clear tr hsk HI hL hpc HT HL HS
      obtain ⟨r0, _, _⟩ := HTr.out.cells
      have HZ0 : Hid (wr.ownsRow w.heap.size 47 9 (.slice none 0 0) 0 (rowV opC ((cs.map Prod.fst).take 0)) ∧ TrM w.heap.size w.heap.size (.slice pc L cc) mv cs ms wr ∧ Below w.heap.size w wr) := ⟨orow_nil _ _ _ _, HTr.out, HB.out⟩
      clear HTr HB
      go_wp2_with fail
      go_loopw [6, 54] (fun sv i wx => ∃ j : Nat, j ≤ L ∧ i = .int .i64 j ∧ Hid (wx.ownsRow w.heap.size 47 9 sv j (rowV opC ((cs.map Prod.fst).take j)) ∧ TrM w.heap.size w.heap.size (.slice pc L cc) mv cs ms wx ∧ Below w.heap.size w wx)) (fun _ i _ => L - (intOf i).toNat)
      case atStart => exact ⟨0, Nat.zero_le _, rfl, HZ0⟩
      case round =>
        clear HZ0 r0
        obtain ⟨j, hj, rfl, HJ⟩ := hrel
        obtain ⟨ps, cq, gs, hsv, -⟩ := orow_src HJ.out.1
        subst hsv
        by_cases hlt : j < L
        · obtain ⟨pc', cc', gc', hcv', _, _, hpc', _, hbk, hcl, _⟩ := orow_src HJ.out.2.1.code
          rw [HLc.out] at hcv' hpc' hcl
          injection hcv' with e1 _ e3
          obtain rfl := hpc' (by omega)
          subst e1 e3
          have hgl : gc' < wr.heap.size := (hbk _ rfl).2.2
          have hgn := Nat.ne_of_lt hgl
          have hx : ∀ t < 10, wr.cell? ⟨gc', j * 10 + t, none⟩ = (keC (cs.getD j (opr0, 0)))[t]? := fun t ht => by
            rw [hcl _ (by omega), rowV_get keC_size (opr0, 0) cs j t (by rw [HLc.out]; exact hlt) ht]
          have c0 := hx 0 (by decide)
          have c1 := hx 1 (by decide)
          have c2 := hx 2 (by decide)
          have c3 := hx 3 (by decide)
          have c4 := hx 4 (by decide)
          have c5 := hx 5 (by decide)
          have c6 := hx 6 (by decide)
          have c7 := hx 7 (by decide)
          have c8 := hx 8 (by decide)
          have c9 := hx 9 (by decide)
          have HTk : Hid ((cs.map Prod.fst).take (j + 1) = (cs.map Prod.fst).take j ++ [(cs.getD j (opr0, 0)).1]) := by
            show _ = _
            rw [take_more _ opr0 j (by rw [List.length_map, HLc.out]; exact hlt)]
            congr 2
            simp [List.getD]
            cases cs[j]? <;> rfl
          generalize cs.getD j (opr0, 0) = oy at c0 c1 c2 c3 c4 c5 c6 c7 c8 c9 HTk
          obtain ⟨o, y⟩ := oy
          simp only [keC, Nat.add_zero] at c0 c1 c2 c3 c4 c5 c6 c7 c8 c9
          have HLt : Hid (((cs.map Prod.fst).take j).length = j) := by show _ = _; rw [List.length_take, List.length_map, HLc.out]; omega
          clear hx hcl hbk hpc'
          have i1 : (j : Int) < (L : Int) := by omega
          have HW : Hid (Below wr.heap.size wr ((wr.alloc (.cells #[.int .i64 o.kind, .float .f64 o.x, .float .f64 o.y, .int .i64 o.day, .int .i64 o.to, .int .i64 o.cur, .int .i64 o.count, .int .i64 o.n, .int .i64 o.months, .int .i64 y] 122)).alloc (.cells #[.int .i64 o.kind, .float .f64 o.x, .float .f64 o.y, .int .i64 o.day, .int .i64 o.to, .int .i64 o.cur, .int .i64 o.count, .int .i64 o.n, .int .i64 o.months] 47))) := ((Below.refl _ _).alloc (Nat.le_refl _) _).alloc (by simp) _
          have HJ1 : Hid (((wr.alloc (.cells #[.int .i64 o.kind, .float .f64 o.x, .float .f64 o.y, .int .i64 o.day, .int .i64 o.to, .int .i64 o.cur, .int .i64 o.count, .int .i64 o.n, .int .i64 o.months, .int .i64 y] 122)).alloc (.cells #[.int .i64 o.kind, .float .f64 o.x, .float .f64 o.y, .int .i64 o.day, .int .i64 o.to, .int .i64 o.cur, .int .i64 o.count, .int .i64 o.n, .int .i64 o.months] 47)).ownsRow w.heap.size 47 9 (.slice ps j cq) j (rowV opC ((cs.map Prod.fst).take j)) ∧ TrM w.heap.size w.heap.size (.slice (some ⟨gc', 0, none⟩) L cc) mv cs ms ((wr.alloc (.cells #[.int .i64 o.kind, .float .f64 o.x, .float .f64 o.y, .int .i64 o.day, .int .i64 o.to, .int .i64 o.cur, .int .i64 o.count, .int .i64 o.n, .int .i64 o.months, .int .i64 y] 122)).alloc (.cells #[.int .i64 o.kind, .float .f64 o.x, .float .f64 o.y, .int .i64 o.day, .int .i64 o.to, .int .i64 o.cur, .int .i64 o.count, .int .i64 o.n, .int .i64 o.months] 47)) ∧ Below w.heap.size w ((wr.alloc (.cells #[.int .i64 o.kind, .float .f64 o.x, .float .f64 o.y, .int .i64 o.day, .int .i64 o.to, .int .i64 o.cur, .int .i64 o.count, .int .i64 o.n, .int .i64 o.months, .int .i64 y] 122)).alloc (.cells #[.int .i64 o.kind, .float .f64 o.x, .float .f64 o.y, .int .i64 o.day, .int .i64 o.to, .int .i64 o.cur, .int .i64 o.count, .int .i64 o.n, .int .i64 o.months] 47))) := ⟨orow_below HJ.out.1 HW.out, HJ.out.2.1.below HW.out, HJ.out.2.2.trans (HW.out.mono HJ.out.2.2.size)⟩
          have HC4 : Hid (∀ i u, (rowV opC [o])[i]? = some u → ((wr.alloc (.cells #[.int .i64 o.kind, .float .f64 o.x, .float .f64 o.y, .int .i64 o.day, .int .i64 o.to, .int .i64 o.cur, .int .i64 o.count, .int .i64 o.n, .int .i64 o.months, .int .i64 y] 122)).alloc (.cells #[.int .i64 o.kind, .float .f64 o.x, .float .f64 o.y, .int .i64 o.day, .int .i64 o.to, .int .i64 o.cur, .int .i64 o.count, .int .i64 o.n, .int .i64 o.months] 47)).cell? ⟨wr.heap.size + 1, i, none⟩ = some u) := fun i u hj => by
            have := new_cells (wr.alloc (.cells #[.int .i64 o.kind, .float .f64 o.x, .float .f64 o.y, .int .i64 o.day, .int .i64 o.to, .int .i64 o.cur, .int .i64 o.count, .int .i64 o.n, .int .i64 o.months, .int .i64 y] 122)) (opC o) 47 i u (by simpa [rowV] using hj)
            rw [sz_al] at this
            exact this
          clear HJ HW
          go_wp2_with (at_builtin; refine wpList_append_g _ Tryz.underlying24 info_opC rfl (by decide) rfl (.tmp 58) (.tmp 61) rfl w.heap.size (.slice ps j cq) j (rowV opC ((cs.map Prod.fst).take j)) rfl HJ1.out.1 HJ1.out.2.2.size (wr.heap.size + 1) 1 1 (rowV opC [o]) rfl rfl HC4.out (rowV_one opC_one _) (by omega) (by omega) ?_; intro v5 w5 ho5 hg5; have HE5 : Hid (w5.ownsRow w.heap.size 47 9 v5 (j + 1) (rowV opC ((cs.map Prod.fst).take (j + 1))) ∧ TrM w.heap.size w.heap.size (.slice (some ⟨gc', 0, none⟩) L cc) mv cs ms w5 ∧ Below w.heap.size w w5) := tr_loop HJ1.out.2.2.size HJ1.out HTk.out ho5 hg5; clear ho5 hg5)
          go_roundw
          case rel => exact ⟨j + 1, hlt, by simp, HE5⟩
          case measure => simp [intOf]; omega
        · obtain rfl : j = L := by omega
          have HF : Hid (wr.ownsRow w.heap.size 47 9 (.slice ps j cq) j (rowV opC (cs.map Prod.fst)) ∧ Below w.heap.size w wr) := by
            have h1 := HJ.out.1
            rw [List.take_of_length_le (by rw [List.length_map, HLc.out]; exact Nat.le_refl _)] at h1
            exact ⟨h1, HJ.out.2.2⟩
          clear HJ
          go_wp2_with fail
          go_ret
          exact ⟨_, rfl, by rw [HSk.out]; dsimp only; rw [HLc.out]; exact HF.out.1, HF.out.2⟩
end Go.Proofs.YtienedhaogjahaaGreatDoor
namespace Go.Proofs.YtienedhaogjahaaGreatDoor
open Go.RowKit

set_option maxRecDepth 20000 in
theorem cTrim_go {l : List Opr} {m : Int} (hm : MeaR l m 0 0) (n : Nat) (p : Option Addr) (b0 off c : Nat) (hn : l.length = n) (hn2 : n ≤ 90000) (hu : ∀ i < n, OpU (l.getD i opr0)) (S : Nat → List (Opr × Int) × List Int) (hS0 : S 0 = ([], []))
    (hS : ∀ k < n, TStep (l.getD k opr0) (S k).1 (S k).2 (S (k + 1))) (hl : ∀ k ≤ n, (S k).1.length ≤ 90000 ∧ (S k).2.length ≤ 90000) (w : World) (hs : OSrc w p b0 off l) :
    Calls Tryz.prog 17 #[.slice p n c] w fun e w' => ∃ v, e = .returned (.tuple #[v, .int .i64 0]) ∧ w'.ownsRow w.heap.size 47 9 v (S n).1.length (rowV opC ((S n).1.map Prod.fst)) ∧ Below w.heap.size w w' := by
  have H1 := hidD (cCheck_is hm n p b0 off c w hs hn hu (by omega))
  have H2 : Hid (∀ w1, Below w.heap.size w w1 → Calls Tryz.prog 33 #[.slice p n c] w1 fun e w' => ∃ v, e = .returned v ∧ w'.ownsRow w.heap.size 47 9 v (S n).1.length (rowV opC ((S n).1.map Prod.fst)) ∧ Below w.heap.size w w') := fun w1 hb => (trimmed_go l n p b0 off c hn hn2 S hS0 hS hl w1 (hs.below hb)).mono fun e w' ⟨v, he, ho, hb'⟩ => ⟨v, he, orow_lower ho hb.size, hb.trans (hb'.mono hb.size)⟩
  clear hm hn hn2 hu hS0 hS hl hs
  go_enter Tryz.func17, Tryz.ntmps17
  go_wp2_with fail
  refine H1.out.mono ?_
  rintro e w1 ⟨rfl, hb⟩
  have HT := hidD (H2.out w1 hb)
  clear hb
  go_wp2_with fail
  refine HT.out.mono ?_
  rintro e w2 ⟨v, rfl, ho, hb⟩
  have HE := hidD (And.intro ho hb)
  clear ho hb
  go_wp2_with fail
  go_ret2
  exact ⟨_, rfl, HE.out.1, HE.out.2⟩
def tr18 : Nat → List (Opr × Int) × List Int
  | 0 => ([], [])
  | 1 => ([(markO, 0)], [0])
  | 2 => ([(markO, 0), (markO, 0)], [0, 1])
  | 3 => ([(markO, 0), (markO, 0), (opT (tmP 3), 0)], [0, 1])
  | 4 => ([(markO, 0), (markO, 0), (opT (tmP 3), 0), (opT (giveT 0), 2)], [0])
  | _ => ([(opT (tmP 3), 0)], [])
theorem tr18_step (k : Nat) (hk : k < 5) : TStep (code18.getD k opr0) (tr18 k).1 (tr18 k).2 (tr18 (k + 1)) := by
  rcases (show k = 0 ∨ k = 1 ∨ k = 2 ∨ k = 3 ∨ k = 4 by omega) with rfl | rfl | rfl | rfl | rfl
  · exact .mark (by decide)
  · exact .mark (by decide)
  · exact .other (by decide) (by decide)
  · refine .take _ _ (by decide) fun B b cv mv w t hb => ?_
    refine (trTake_any B b 2 1 1 cv mv [(markO, 0), (markO, 0)] (opT (tmP 3), 0) [0] (opT (giveT 0)) w t hb rfl rfl (by decide) (by decide) (by decide) (by decide) (by decide) (fun h => absurd h (by decide)) (by decide) (by decide)).mono ?_
    rintro e w' ⟨he, v, v', t', b'⟩
    rw [if_neg (by decide)] at t'
    exact ⟨he, v, v', t', b'⟩
  · refine .take _ _ (by decide) fun B b cv mv w t hb => ?_
    refine (trTake_any B b 3 0 0 cv mv [(markO, 0), (markO, 0), (opT (tmP 3), 0)] (opT (giveT 0), 2) [] (opT (giveT 1)) w t hb rfl rfl (by decide) (by decide) (by decide) (by decide) (by decide) (fun _ => by decide) (by decide) (by decide)).mono ?_
    rintro e w' ⟨he, v, v', t', b'⟩
    rw [if_pos (by decide)] at t'
    exact ⟨he, v, v', t', b'⟩
theorem cTrim18 (p : Option Addr) (b off c : Nat) (w : World) (hs : OSrc w p b off code18) : Calls Tryz.prog 17 #[.slice p 5 c] w fun e w' => ∃ v, e = .returned (.tuple #[v, .int .i64 0]) ∧ w'.ownsRow w.heap.size 47 9 v 1 (rowV opC [opT (tmP 3)]) ∧ Below w.heap.size w w' :=
  cTrim_go mea18 5 p b off c rfl (by decide) opu18 tr18 rfl tr18_step (fun k hk => by
    rcases (show k = 0 ∨ k = 1 ∨ k = 2 ∨ k = 3 ∨ k = 4 ∨ k = 5 by omega) with rfl | rfl | rfl | rfl | rfl | rfl <;> exact ⟨by decide, by decide⟩) w hs
end Go.Proofs.YtienedhaogjahaaGreatDoor
namespace Go.Proofs.YtienedhaogjahaaGreatDoor
open Go.RowKit

set_option maxRecDepth 20000 in
set_option maxHeartbeats 12800000 in
theorem awake18 (w : World) {bp op cp : Nat} (hp : PfT 6 5 9 bp op cp w) :
    Calls Tryz.prog 7 #[] w fun e w' => e = .returned (.bool true) ∧ Below w.heap.size w w' := by
  have HP := hidD (parse18 w hp)
  clear hp
  go_enter Tryz.func7, Tryz.ntmps7
  go_wp2_with fail
  refine HP.out.mono ?_
  rintro e w1 ⟨v, rfl, ht, hb⟩
  obtain ⟨g, c, rfl⟩ := ht.full (by simp)
  have hr : TmR w1 g tree18 := ht.read
  have HB1 := hidD hb
  have HC := hidD (cCompile18 g c w1 hr)
  clear ht hb hr
  go_wp2_with fail
  refine HC.out.mono ?_
  rintro e w2 ⟨v2, rfl, ho, hb⟩
  have HB2 := hidD (HB1.out.trans (hb.mono HB1.out.size))
  obtain ⟨p2, c2, _, rfl, -⟩ := orow_src ho
  obtain ⟨g2, hs2⟩ := osrc_of ho rfl
  have HS2 := hidD hs2
  have HT := hidD (cTrim18 p2 g2 0 c2 w2 hs2)
  clear ho hb hs2
  go_wp2_with fail
  refine HT.out.mono ?_
  rintro e w3 ⟨v3, rfl, ho, hb⟩
  have HB3 := hidD (HB2.out.trans (hb.mono HB2.out.size))
  obtain ⟨p3, c3, _, rfl, -⟩ := orow_src ho
  have HM := hidD (cMarks18 p2 g2 0 c2 w3 (HS2.out.below hb))
  clear ho hb
  go_wp2_with fail
  refine HM.out.mono ?_
  rintro e w4 ⟨rfl, hb⟩
  have HB4 := hidD (HB3.out.trans (hb.mono HB3.out.size))
  have HK := hidD (cBack_nil w4)
  clear hb
  go_wp2_with fail
  refine HK.out.mono ?_
  rintro e w5 ⟨v5, rfl, ht, hb⟩
  have HB5 := hidD (HB4.out.trans (hb.mono HB4.out.size))
  obtain ⟨g5, c5, rfl⟩ := ht.full (by simp)
  have z0 : w5.cell? ⟨g5, 0, none⟩ = some (.int .i64 1) := ht.read.c0 0 (by decide)
  clear ht hb
  go_wp2_with fail
  go_ret
  exact ⟨rfl, HB5.out⟩
end Go.Proofs.YtienedhaogjahaaGreatDoor
namespace Go.Proofs.YtienedhaogjahaaGreatDoor
open Go.RowKit

structure BlM (B b : Nat) (tv pv : Value) (ts : List Trm) (ps : List Int) (w : World) : Prop where
  box : w.heap[b]? = some (.cells #[tv, pv] 108)
  terms : w.ownsRow B 50 11 tv ts.length (rowV trC ts)
  pieces : w.ownsRow B 3 1 pv ps.length (rowV inC ps)
theorem BlM.below {B b : Nat} {tv pv : Value} {ts : List Trm} {ps : List Int} {w w' : World} (h : BlM B b tv pv ts ps w) (hb : Below w.heap.size w w') : BlM B b tv pv ts ps w' :=
  ⟨(hb.block _ (lt_of_blk h.box)).trans h.box, orow_below h.terms hb, orow_below h.pieces hb⟩
theorem BlM.cells {B b : Nat} {tv pv : Value} {ts : List Trm} {ps : List Int} {w : World} (h : BlM B b tv pv ts ps w) : w.cell? ⟨b, 0, none⟩ = some tv ∧ w.cell? ⟨b, 1, none⟩ = some pv ∧ ∀ i, w.frozen? ⟨b, i, none⟩ = false := by
  have h := h.box
  refine ⟨?_, ?_, fun i => by simp [World.frozen?, h]⟩ <;>
  · simp only [World.cell?, h, Option.isSome_none, Bool.false_eq_true, if_false]; rfl
end Go.Proofs.YtienedhaogjahaaGreatDoor
namespace Go.Proofs.YtienedhaogjahaaGreatDoor
open Go.RowKit

end Go.Proofs.YtienedhaogjahaaGreatDoor
namespace Go.Proofs.YtienedhaogjahaaGreatDoor
open Go.RowKit

def trnO (o : Opr) : Bool := (o.kind == 5 && (FloatKind.f64.format.order o.x 4607182418800017408 == some .eq)) || (o.kind == 7 && o.n == 1)
end Go.Proofs.YtienedhaogjahaaGreatDoor
namespace Go.Proofs.YtienedhaogjahaaGreatDoor
open Go.RowKit

end Go.Proofs.YtienedhaogjahaaGreatDoor
namespace Go.Proofs.YtienedhaogjahaaGreatDoor
open Go.RowKit

def trS (o : Opr) (cs : List (Opr × Int)) (ms : List Int) : List (Opr × Int) × List Int :=
  if takO o = true then
    (if (ms.getLastD 0).toNat + 1 = cs.length ∨ trnO o = true then cs.take (ms.getLastD 0).toNat ++ cs.drop ((ms.getLastD 0).toNat + 1)
      else if (o.kind == 4 && gabO (cs.getLastD (opr0, 0)) ((cs.length : Int) - 1) (ms.getLastD 0)) = true then drop3 cs.dropLast (ms.getLastD 0).toNat
      else cs ++ [(o, (cs.length : Int) - ms.getLastD 0)], ms.dropLast)
  else if o.kind = 1 then (cs ++ [(o, 0)], ms ++ [(cs.length : Int)]) else (cs ++ [(o, 0)], ms)
theorem snoc_of {α : Type} {l : List α} (h : l ≠ []) : ∃ r x, l = r ++ [x] := ⟨l.dropLast, l.getLast h, (List.dropLast_concat_getLast h).symm⟩
end Go.Proofs.YtienedhaogjahaaGreatDoor
namespace Go.Proofs.YtienedhaogjahaaGreatDoor

def runT (l : List Opr) (st : List (Opr × Int) × List Int) : List (Opr × Int) × List Int := l.foldl (fun s o => trS o s.1 s.2) st
theorem runT_append (a b : List Opr) (st : List (Opr × Int) × List Int) : runT (a ++ b) st = runT b (runT a st) := List.foldl_append
inductive WN : Nat → List (Opr × Int) → Prop
  | nil {h : Nat} : WN h []
  | other {h : Nat} {s : List (Opr × Int)} {o : Opr} : WN h s → o.kind ≠ 1 → takO o = false → fitO o = true → WN h (s ++ [(o, 0)])
  | blk {h : Nat} {s r : List (Opr × Int)} {q o : Opr} {x : Opr × Int} : WN (h + 1) s → WN h (r ++ [x]) → q.kind = 1 → takO o = true → trnO o = false → ¬ (o.kind = 4 ∧ x.1.kind = 4 ∧ x.2 = (r.length : Int)) → fitO q = true → fitO o = true → WN (h + 1) (s ++ ((q, 0) :: (r ++ [x])) ++ [(o, (r.length : Int) + 2)])
theorem WN.append {h : Nat} {s t : List (Opr × Int)} (hs : WN h s) (ht : WN h t) : WN h (s ++ t) := by
  induction ht with
  | nil => rw [List.append_nil]; exact hs
  | other _ h1 h2 h3 ih => rw [← List.append_assoc]; exact .other (ih hs) h1 h2 h3
  | blk _ h2 h3 h4 h5 h6 h7 h8 ih _ => rw [← List.append_assoc, ← List.append_assoc]; exact .blk (ih hs) h2 h3 h4 h5 h6 h7 h8
theorem WN.up {h : Nat} {s : List (Opr × Int)} (hs : WN h s) : WN (h + 1) s := by
  induction hs with
  | nil => exact .nil
  | other _ h1 h2 h3 ih => exact .other ih h1 h2 h3
  | blk _ h2 h3 h4 h5 h6 h7 h8 ih1 ih2 => exact .blk ih1 ih2 h3 h4 h5 h6 h7 h8
theorem mark_not_takes {q : Opr} (h : q.kind = 1) : takO q = false := by unfold takO; rw [h]; rfl
theorem WN.run {n : Nat} {s : List (Opr × Int)} (h : WN n s) : ∀ cs ms, runT (s.map Prod.fst) (cs, ms) = (cs ++ s, ms) := by
  induction h with
  | nil => intro cs ms; rw [List.append_nil]; rfl
  | other _ h1 h2 _ ih =>
    intro cs ms
    rw [List.map_append, runT_append, ih cs ms]
    show trS _ _ _ = _
    unfold trS
    rw [if_neg (by rw [h2]; decide), if_neg h1, List.append_assoc]
  | @blk n s r q o x _ _ h3 h4 h5 h6 _ _ ih1 ih2 =>
    intro cs ms
    have e1 : runT [q] (cs ++ s, ms) = (cs ++ s ++ [(q, 0)], ms ++ [((cs ++ s).length : Int)]) := by
      show trS _ _ _ = _
      unfold trS
      rw [if_neg (by rw [mark_not_takes h3]; decide), if_pos h3]
    have e2 : (s ++ ((q, 0) :: (r ++ [x])) ++ [(o, (r.length : Int) + 2)]).map Prod.fst = s.map Prod.fst ++ ([q] ++ ((r ++ [x]).map Prod.fst ++ [o])) := by simp
    rw [e2, runT_append, ih1 cs ms, runT_append, e1, runT_append, ih2]
    show trS o _ _ = _
    generalize hA : cs ++ s = A
    have hl : (A ++ [(q, 0)] ++ (r ++ [x])).length = A.length + r.length + 2 := by simp; omega
    unfold trS
    rw [if_pos h4]
    simp only [List.getLastD_concat, List.dropLast_concat, Int.toNat_natCast]
    rw [if_neg (by rw [hl, h5]; intro h; rcases h with h | h; omega; cases h)]
    have eL : (A ++ [(q, 0)] ++ (r ++ [x])).getLastD (opr0, 0) = x := by rw [← List.append_assoc]; exact List.getLastD_concat
    rw [eL, if_neg]
    · rw [hl]
      congr 1
      rw [← hA]
      simp only [List.append_assoc, List.cons_append, List.nil_append]
      congr 5
      rw [show (((cs ++ s).length + r.length + 2 : Nat) : Int) - ((cs ++ s).length : Int) = (r.length : Int) + 2 by omega]
    · intro h
      rw [Bool.and_eq_true, beq_iff_eq] at h
      obtain ⟨h7, h8⟩ := h
      unfold gabO at h8
      rw [Bool.and_eq_true, beq_iff_eq, beq_iff_eq, hl] at h8
      exact h6 ⟨h7, h8.1, by omega⟩
end Go.Proofs.YtienedhaogjahaaGreatDoor
namespace Go.Proofs.YtienedhaogjahaaGreatDoor

inductive SI : List (Opr × Int) → List Int → Prop
  | base {s : List (Opr × Int)} : WN 63 s → SI s []
  | more {h : Nat} {cs s : List (Opr × Int)} {ms : List Int} {q : Opr} : SI cs ms → q.kind = 1 → fitO q = true → ms.length + 1 + h = 63 → WN h s → SI (cs ++ ((q, 0) :: s)) (ms ++ [(cs.length : Int)])
theorem SI.lift {n : Nat} {cs s : List (Opr × Int)} {ms : List Int} (h : SI cs ms) (hs : WN n s) (hn : ms.length + n = 63) : SI (cs ++ s) ms := by
  cases h with
  | base h =>
    obtain rfl : n = 63 := by simpa using hn
    exact .base (h.append hs)
  | @more n' cs' s' ms' q h hq hf hn' ht =>
    obtain rfl : n = n' := by rw [List.length_append, List.length_singleton] at hn; omega
    rw [List.append_assoc, List.cons_append]
    exact .more h hq hf hn' (ht.append hs)
theorem WN.give {n : Nat} {r : List (Opr × Int)} {x : Opr × Int} (h : WN n (r ++ [x])) (h4 : x.1.kind = 4) (hl : x.2 = (r.length : Int)) : ∃ q t, r = (q, 0) :: t ∧ WN n t := by
  generalize e : r ++ [x] = l at h
  cases h with
  | nil => simp at e
  | @other _ s o _ h1 h2 =>
    obtain ⟨rfl, e2⟩ := List.append_inj' e rfl
    obtain rfl : x = (o, 0) := by simpa using e2
    unfold takO at h2
    rw [show o.kind = 4 from h4] at h2
    exact absurd h2 (by decide)
  | @blk _ s r' q o x' _ h2 =>
    obtain ⟨rfl, e2⟩ := List.append_inj' e rfl
    obtain rfl : x = (o, (r'.length : Int) + 2) := by simpa using e2
    have hs : s = [] := by
      apply List.length_eq_zero_iff.1
      simp at hl
      omega
    subst hs
    exact ⟨q, r' ++ [x'], rfl, h2.up⟩
theorem SI.step {o : Opr} {cs : List (Opr × Int)} {ms : List Int} (h : SI cs ms) (hne : takO o = true → ms ≠ []) (hf : fitO o = true) (h63 : ms.length ≤ 63) (h62 : o.kind = 1 → ms.length ≤ 62) : SI (trS o cs ms).1 (trS o cs ms).2 := by
  unfold trS
  by_cases ht : takO o = true
  · rw [if_pos ht]
    cases h with
    | base h => exact absurd rfl (hne ht)
    | @more n A s ms0 q hA hq hfq hn hs =>
      have e1 : (A ++ (q, 0) :: s).take A.length = A := by simp
      have e2 : (A ++ (q, 0) :: s).drop (A.length + 1) = s := by
        rw [show A ++ (q, (0 : Int)) :: s = (A ++ [(q, 0)]) ++ s by simp]
        exact List.drop_left' (by simp)
      simp only [List.getLastD_concat, List.dropLast_concat, Int.toNat_natCast]
      rw [e1, e2]
      by_cases hd : A.length + 1 = (A ++ (q, (0 : Int)) :: s).length ∨ trnO o = true
      · rw [if_pos hd]
        exact hA.lift hs.up (by omega)
      · rw [if_neg hd]
        have htn : trnO o = false := by
          cases e : trnO o
          · rfl
          · exact absurd (.inr e) hd
        have hn : s ≠ [] := fun e => hd (.inl (by rw [e]; simp))
        obtain ⟨r, x, rfl⟩ := snoc_of hn
        have eb : A ++ (q, (0 : Int)) :: (r ++ [x]) = (A ++ (q, 0) :: r) ++ [x] := by simp
        have el : (A ++ (q, (0 : Int)) :: (r ++ [x])).length = A.length + r.length + 2 := by simp; omega
        rw [el, eb, List.getLastD_concat, List.dropLast_concat]
        by_cases hg : (o.kind == 4 && gabO x (((A.length + r.length + 2 : Nat) : Int) - 1) (A.length : Int)) = true
        · rw [if_pos hg]
          rw [Bool.and_eq_true] at hg
          have g2 := hg.2
          unfold gabO at g2
          rw [Bool.and_eq_true, beq_iff_eq, beq_iff_eq] at g2
          obtain ⟨q', t, rfl, hw⟩ := hs.give g2.1 (by omega)
          have ed : drop3 (A ++ (q, (0 : Int)) :: (q', 0) :: t) A.length = A ++ t := by
            unfold drop3
            have f1 : (A ++ (q, (0 : Int)) :: (q', 0) :: t).drop (A.length + 1 + 1) = t := by
              rw [show A ++ (q, (0 : Int)) :: (q', 0) :: t = (A ++ [(q, 0), (q', 0)]) ++ t by simp]
              exact List.drop_left' (by simp)
            have f2 : (A ++ (q, (0 : Int)) :: (q', 0) :: t).take (A.length + 1) = A ++ [(q, 0)] := by
              rw [show A ++ (q, (0 : Int)) :: (q', 0) :: t = (A ++ [(q, 0)]) ++ ((q', 0) :: t) by simp]
              exact List.take_left' (by simp)
            rw [f1, f2]
            have f3 : (A ++ [(q, (0 : Int))] ++ t).take A.length = A := by rw [List.append_assoc]; exact List.take_left' rfl
            have f4 : (A ++ [(q, (0 : Int))] ++ t).drop (A.length + 1) = t := List.drop_left' (by simp)
            rw [f3, f4]
          rw [ed]
          exact hA.lift hw.up (by omega)
        · rw [if_neg hg, ← eb]
          have := hA.lift (WN.blk .nil hs hq ht htn (fun hh => hg (by
            rw [Bool.and_eq_true]
            refine ⟨by rw [hh.1]; rfl, ?_⟩
            unfold gabO
            rw [Bool.and_eq_true, beq_iff_eq, beq_iff_eq]
            exact ⟨hh.2.1, by have := hh.2.2; omega⟩)) hfq hf) (by omega)
          rw [show ((A.length + r.length + 2 : Nat) : Int) - (A.length : Int) = (r.length : Int) + 2 by omega]
          rw [List.nil_append, ← List.append_assoc] at this
          exact this
  · rw [if_neg ht]
    by_cases h1 : o.kind = 1
    · rw [if_pos h1]
      exact .more (h := 63 - (ms.length + 1)) h h1 hf (by have := h62 h1; omega) .nil
    · rw [if_neg h1]
      exact h.lift (n := 63 - ms.length) (WN.other .nil h1 (by simpa using ht) hf) (by omega)
end Go.Proofs.YtienedhaogjahaaGreatDoor
namespace Go.Proofs.YtienedhaogjahaaGreatDoor

def stM (d : Int) (o : Opr) : Int := if o.kind = 1 then d + 1 else if takO o then d - 1 else d
def mkL (l : List Opr) (d : Int) : Int := l.foldl stM d
theorem mkL_append (a b : List Opr) (d : Int) : mkL (a ++ b) d = mkL b (mkL a d) := List.foldl_append
theorem mkN_L (l : List Opr) : ∀ k, k ≤ l.length → mkN l k = mkL (l.take k) 0
  | 0, _ => rfl
  | k + 1, hk => by
    rw [take_more l opr0 k (by omega), mkL_append, ← mkN_L l k (by omega)]
    rfl
def allOk : List Opr → Int → Prop
  | [], _ => True
  | o :: t, d => badO o d = 0 ∧ allOk t (stM d o)
theorem allOk_append : ∀ (a b : List Opr) (d : Int), allOk a d → allOk b (mkL a d) → allOk (a ++ b) d
  | [], _, _, _, h => h
  | _ :: t, b, _, h1, h => ⟨h1.1, allOk_append t b _ h1.2 h⟩
theorem bad_fit {o : Opr} {d : Int} (hf : fitO o = true) (h1 : takO o = true → d ≠ 0) (h2 : o.kind = 1 → d ≠ 63) : badO o d = 0 := by
  unfold badO
  rw [if_neg (by rintro (h | h); rw [hf] at h; cases h; exact h1 h.1 h.2), if_neg (fun h => h2 h.1 h.2)]
theorem WN.ok {n : Nat} {s : List (Opr × Int)} (h : WN n s) : ∀ d : Int, 0 ≤ d → d + n ≤ 63 → allOk (s.map Prod.fst) d ∧ mkL (s.map Prod.fst) d = d := by
  induction h with
  | nil => exact fun d _ _ => ⟨trivial, rfl⟩
  | @other n s o _ h1 h2 h3 ih =>
    intro d h0 hd
    obtain ⟨g1, g2⟩ := ih d h0 hd
    rw [List.map_append, mkL_append, g2]
    refine ⟨allOk_append _ _ _ g1 ?_, ?_⟩
    · rw [g2]
      exact ⟨bad_fit h3 (fun h => by rw [h2] at h; cases h) (fun h => absurd h h1), trivial⟩
    · show stM d o = d
      unfold stM
      rw [if_neg h1, h2]
      rfl
  | @blk n s r q o x _ _ h3 h4 h5 h6 h7 h8 ih1 ih2 =>
    intro d h0 hd
    obtain ⟨g1, g2⟩ := ih1 d h0 hd
    obtain ⟨k1, k2⟩ := ih2 (d + 1) (by omega) (by omega)
    have eq : stM d q = d + 1 := by unfold stM; rw [if_pos h3]
    have ho1 : o.kind ≠ 1 := fun e => by rw [mark_not_takes e] at h4; cases h4
    have eo : stM (d + 1) o = d := by unfold stM; rw [if_neg ho1, if_pos h4]; omega
    have e2 : (s ++ ((q, 0) :: (r ++ [x])) ++ [(o, (r.length : Int) + 2)]).map Prod.fst = s.map Prod.fst ++ ([q] ++ ((r ++ [x]).map Prod.fst ++ [o])) := by simp
    have m1 : mkL [q] d = d + 1 := eq
    have m2 : mkL [o] (d + 1) = d := eo
    rw [e2]
    refine ⟨allOk_append _ _ _ g1 ?_, ?_⟩
    · rw [g2]
      refine allOk_append _ _ _ ⟨bad_fit h7 (fun h => by rw [mark_not_takes h3] at h; cases h) (fun _ => by omega), trivial⟩ ?_
      rw [m1]
      refine allOk_append _ _ _ k1 ?_
      rw [k2]
      exact ⟨bad_fit h8 (fun _ => by omega) (fun h => absurd h ho1), trivial⟩
    · rw [mkL_append, g2, mkL_append, m1, mkL_append, k2, m2]
end Go.Proofs.YtienedhaogjahaaGreatDoor
namespace Go.Proofs.YtienedhaogjahaaGreatDoor

theorem MeaR.zero {l : List Opr} {M E A : Int} (h : MeaR l M E A) (hE : E = 0) : A = 0 := by
  cases h with
  | long => cases hE
  | bad k E h hk hp he h0 => exact absurd hE h0
  | left => cases hE
  | fine => rfl
end Go.Proofs.YtienedhaogjahaaGreatDoor
namespace Go.Proofs.YtienedhaogjahaaGreatDoor

structure OkL (l : List Opr) : Prop where
  len : l.length ≤ 8192
  ok : ∀ i < l.length, badO (l.getD i opr0) (mkN l i) = 0
def addS (o : Opr) (st : List (Opr × Int) × List Int) : List (Opr × Int) × List Int :=
  if takO o = true then (st.1 ++ [(o, (st.1.length : Int) - st.2.getLastD 0)], st.2.dropLast)
  else if o.kind = 1 then (st.1 ++ [(o, 0)], st.2 ++ [(st.1.length : Int)]) else (st.1 ++ [(o, 0)], st.2)
def fulF (l : List Opr) : Nat → List (Opr × Int) × List Int
  | 0 => ([], [])
  | k + 1 => addS (l.getD k opr0) (fulF l k)
def mat (l : List Opr) (i : Nat) : Int := if takO (l.getD i opr0) = true then (fulF l i).2.getLastD 0 else -1
theorem SI.ok {cs : List (Opr × Int)} {ms : List Int} (h : SI cs ms) : allOk (cs.map Prod.fst) 0 ∧ mkL (cs.map Prod.fst) 0 = (ms.length : Int) := by
  induction h with
  | base h => exact h.ok 0 (by omega) (by omega)
  | @more n cs s ms q _ hq hf hn hs ih =>
    obtain ⟨i1, i2⟩ := ih
    have e : stM (ms.length : Int) q = (ms.length : Int) + 1 := by unfold stM; rw [if_pos hq]
    obtain ⟨w1, w2⟩ := hs.ok ((ms.length : Int) + 1) (by omega) (by omega)
    rw [List.map_append]
    refine ⟨allOk_append _ _ _ i1 ?_, ?_⟩
    · rw [i2]
      refine ⟨bad_fit hf (fun ht => by rw [mark_not_takes hq] at ht; cases ht) (fun _ => by omega), ?_⟩
      rw [e]; exact w1
    · rw [mkL_append, i2]
      show mkL (s.map Prod.fst) (stM _ q) = _
      rw [e, w2]
      simp
theorem allOk_of : ∀ (l : List Opr) (d : Int), (∀ i < l.length, badO (l.getD i opr0) (mkL (l.take i) d) = 0) → allOk l d
  | [], _, _ => trivial
  | o :: t, d, h => ⟨h 0 (by simp), allOk_of t _ fun i hi => by
    have := h (i + 1) (by simpa using hi)
    simpa [mkL] using this⟩
theorem OkL.all {l : List Opr} (h : OkL l) : allOk l 0 := allOk_of l 0 fun i hi => by rw [← mkN_L l i (by omega)]; exact h.ok i hi
end Go.Proofs.YtienedhaogjahaaGreatDoor
namespace Go.Proofs.YtienedhaogjahaaGreatDoor
open Go.RowKit

end Go.Proofs.YtienedhaogjahaaGreatDoor
namespace Go.Proofs.YtienedhaogjahaaGreatDoor
open Go.RowKit

theorem CodR.unique {ts : List Trm} {i K K' : Nat} {l l' : List Opr} (h : CodR ts i l K) (h' : CodR ts i l' K') : l = l' ∧ K = K' := by
  induction h generalizing l' K' with
  | zero i hi hk =>
    cases h' with
    | zero => exact ⟨rfl, rfl⟩
    | leaf _ _ h => omega
    | both _ _ _ _ _ _ _ _ h => omega
    | one _ _ _ _ _ h => omega
  | leaf i hi hk =>
    cases h' with
    | zero _ _ h => omega
    | leaf => exact ⟨rfl, rfl⟩
    | both _ _ _ _ _ _ _ _ h => omega
    | one _ _ _ _ _ h => omega
  | both i a b la lb ka kb hi hk ha hb h1 h2 _ _ iha ihb =>
    cases h' with
    | zero _ _ h => omega
    | leaf _ _ h => omega
    | both _ a' b' la' lb' ka' kb' _ _ ha' hb' _ _ ca' cb' =>
      obtain rfl : a = a' := by omega
      obtain rfl : b = b' := by omega
      obtain ⟨e1, e2⟩ := iha ca'
      obtain ⟨e3, e4⟩ := ihb cb'
      rw [e1, e2, e3, e4]; exact ⟨rfl, rfl⟩
    | one _ _ _ _ _ h => omega
  | one i a la ka hi hk ha h1 _ iha =>
    cases h' with
    | zero _ _ h => omega
    | leaf _ _ h => omega
    | both _ _ _ _ _ _ _ _ h => omega
    | one _ a' la' ka' _ _ ha' _ ca' =>
      obtain rfl : a = a' := by omega
      obtain ⟨e1, e2⟩ := iha ca'
      rw [e1, e2]; exact ⟨rfl, rfl⟩
theorem getT_app {ts us : List Trm} {i : Nat} (h : i < ts.length) : (ts ++ us).getD i trm0 = ts.getD i trm0 := by
  simp [List.getD, List.getElem?_append_left h]
theorem CodR.more {ts : List Trm} {i K : Nat} {l : List Opr} (h : CodR ts i l K) (us : List Trm) : CodR (ts ++ us) i l K := by
  have hl : ∀ {i}, i < ts.length → i < (ts ++ us).length := fun h => by rw [List.length_append]; omega
  induction h with
  | zero i hi hk => exact .zero i (hl hi) (by rw [getT_app hi]; exact hk)
  | leaf i hi hk =>
    have := CodR.leaf (ts := ts ++ us) i (hl hi) (by rw [getT_app hi]; exact hk)
    rw [getT_app hi] at this; exact this
  | both i a b la lb ka kb hi hk ha hb h1 h2 _ _ iha ihb => exact .both i a b la lb ka kb (hl hi) (by rw [getT_app hi]; exact hk) (by rw [getT_app hi]; exact ha) (by rw [getT_app hi]; exact hb) h1 h2 iha ihb
  | one i a la ka hi hk ha h1 _ iha =>
    have := CodR.one (ts := ts ++ us) i a la ka (hl hi) (by rw [getT_app hi]; exact hk) (by rw [getT_app hi]; exact ha) h1 iha
    rw [getT_app hi] at this; exact this
def Pc (ts : List Trm) (x : Int) (c : List Opr) : Prop := (x = -1 ∧ c = []) ∨ ∃ (p K : Nat), x = (p : Int) ∧ CodR ts p c K
theorem Pc.more {ts : List Trm} {x : Int} {c : List Opr} (h : Pc ts x c) (us : List Trm) : Pc (ts ++ us) x c := by
  rcases h with h | ⟨p, K, h1, h2⟩
  · exact .inl h
  · exact .inr ⟨p, K, h1, h2.more us⟩
inductive PcR (ts : List Trm) : List Int → List Opr → Prop
  | one (x : Int) (c : List Opr) : Pc ts x c → PcR ts [x] c
  | more (ps : List Int) (c : List Opr) (x : Int) (c' : List Opr) : PcR ts ps c → Pc ts x c' → PcR ts (ps ++ [x]) (c ++ markO :: c')
theorem PcR.ext {ts : List Trm} {ps : List Int} {c : List Opr} (h : PcR ts ps c) (us : List Trm) : PcR (ts ++ us) ps c := by
  induction h with
  | one x c h => exact .one x c (h.more us)
  | more ps c x c' _ h ih => exact .more ps c x c' ih (h.more us)
theorem PcR.last {ts : List Trm} {ms : List Int} {x : Int} {c : List Opr} (h : PcR ts (ms ++ [x]) c) : ∃ c0 c1, c = c0 ++ c1 ∧ Pc ts x c1 ∧ (∀ us y c2, Pc (ts ++ us) y c2 → PcR (ts ++ us) (ms ++ [y]) (c0 ++ c2)) ∧ (∀ ms' y, ms = ms' ++ [y] → ∃ d, c0 = d ++ [markO] ∧ PcR ts ms d) := by
  generalize hps : ms ++ [x] = ps at h
  cases h with
  | one x' c hp =>
    obtain ⟨rfl, rfl⟩ : ms = [] ∧ x = x' := by
      have hl := congrArg List.length hps
      simp at hl
      subst hl
      exact ⟨rfl, by simpa using hps⟩
    exact ⟨[], c, rfl, hp, fun us y c2 h => .one y c2 h, fun ms' y e => by simp at e⟩
  | more ps' c' x' c'' hr hp =>
    obtain ⟨rfl, rfl⟩ : ms = ps' ∧ x = x' := by simpa using List.append_inj' hps rfl
    refine ⟨c' ++ [markO], c'', by simp, hp, fun us y c2 h => ?_, fun ms' y e => ⟨c', rfl, hr⟩⟩
    have := PcR.more ms c' y c2 (hr.ext us) h
    simpa using this
theorem takO_iff {o : Opr} : takO o = true ↔ 4 ≤ o.kind ∧ o.kind ≤ 7 := by
  unfold takO
  rw [Bool.and_eq_true, decide_eq_true_iff, decide_eq_true_iff]
theorem Pc.lt {ts : List Trm} {x : Int} {c : List Opr} (h : Pc ts x c) : ∀ p : Nat, x = (p : Int) → p < ts.length := by
  intro p hp
  rcases h with ⟨rfl, _⟩ | ⟨q, K, rfl, hc⟩
  · omega
  · have hq : q < ts.length := by cases hc <;> assumption
    omega
end Go.Proofs.YtienedhaogjahaaGreatDoor
