/- The document's Back, of code that may be. The document's Back: of code that may be, and of code that may not. The walk of CodeChecks. -/
import Derived.Test.YtienedhaogjahaaGreatDoorHbq
import Derived.Test.YtienedhaogjahaaGreatDoorHbi
import Derived.Test.YtienedhaogjahaaGreatDoorHbp
import Derived.Test.YtienedhaogjahaaGreatDoorHbk
import Derived.Test.YtienedhaogjahaaGreatDoorHbe
namespace Go.Proofs.YtienedhaogjahaaGreatDoor
open Go.RowKit

theorem fieldP0 (p : Option Addr) (n c : Nat) (b : Bool) (w : World) : (Instr.field 70 (.agg #[.slice p n c, .bool b]) 0).run Tryz.prog w = .ok (.slice p n c) w := by kernel_rfl
inductive BkD (B : Nat) (T : List Trm) (E : Int) (w' : World) : Ending → Prop
  | yes (v : Value) : E = 0 → w'.ownsRow B 64 11 v T.length (rowV trD T) → BkD B T E w' (.returned (.tuple #[v, .int .i64 0]))
  | no : E ≠ 0 → BkD B T E w' (.returned (.tuple #[.slice none 0 0, .int .i64 E]))
set_option maxRecDepth 20000 in
set_option maxHeartbeats 51200000 in
theorem r18Back_ok {l : List Opr} {M : Int} (hm : MeaR l M 0 0) {E : Int} (N : Nat) (p : Option Addr) (b0 off c : Nat) (w : World) (hs : DSrc w p b0 off l) (hN : l.length = N) (hN3 : N ≤ 300) (hu : ∀ i < l.length, OpU (l.getD i opr0))
    (HK : Hid (∀ w1 q g cq, TDS w1 q g 0 (bkT l) → Calls Tryz.prog 23 #[.slice q (bkT l).length cq] w1 fun e w' => (∃ A, e = .returned (.tuple #[.int .i64 E, .int .i64 A])) ∧ Below w1.heap.size w1 w')) :
    Calls Tryz.prog 13 #[.slice p N c] w fun e w' => BkD w.heap.size (bkT l) E w' e ∧ Below w.heap.size w w' := by
  obtain ⟨hok, hz⟩ := mea_ok hm
  have HC : Hid (Calls Tryz.prog 27 #[.slice p N c] w fun e w' => (∃ A, e = .returned (.tuple #[.int .i64 0, .int .i64 A])) ∧ Below w.heap.size w w') := (r18Check_any l N p b0 off c w hs hN (by rw [← hN]; exact hu) (by omega)).mono fun e w' ⟨M', E', A', he, hm', hb⟩ => by
    obtain ⟨rfl, rfl, rfl⟩ := hm.unique hm'
    exact ⟨⟨_, he⟩, hb⟩
  have HS := hidD (And.intro hs (And.intro hN hok))
  have HD : Hid (∃ x, docF l l.length = [x] ∧ whP x = bkT l ∧ (∀ T, x = some T → 1 ≤ T.length)) := by
    obtain ⟨x, h1, h2⟩ := bk_doc hok hz
    exact ⟨x, h1, h2, fun T hT => (docF_gd l l.length T (by rw [h1, hT]; simp)).1⟩
  have HLb : Hid ((bkT l).length ≤ 901) := by have := bk_len hok; show _ ≤ _; omega
  have H0 := hidD (Below.refl w.heap.size w)
  clear hm hs hN hok hz hu
  go_enter Tryz.func13, Tryz.ntmps13
  go_wp2_with fail
  refine HC.out.mono ?_
  rintro e w1 ⟨⟨A, rfl⟩, hb1⟩
  have H1 := hidD hb1
  have HB1 : Hid (Below w.heap.size w (w1.alloc (.cells #[.slice none 0 0, .bool false] 70))) := hb1.alloc hb1.size _
  have HS1 : Hid (StM w.heap.size (docF l 0) (.slice (some ⟨w1.heap.size, 0, none⟩) 1 1) (w1.alloc (.cells #[.slice none 0 0, .bool false] 70))) := by
    refine ⟨[(.slice none 0 0, false)], ⟨⟨rfl, rfl⟩, trivial⟩, rfl, .inr ⟨w1.heap.size, 1, #[.slice none 0 0, .bool false], rfl, hb1.size, ?_, Nat.le_refl _, by decide, rfl, rfl⟩⟩
    rw [al_at, if_pos rfl]
  clear hb1 HC
  go_wp2_with fail
  go_loopw [6, 7] (fun sv i wr => ∃ (k : Nat), k ≤ N ∧ i = .int .i64 k ∧ Hid (StM w.heap.size (docF l k) sv wr) ∧ Hid (Below w.heap.size w wr)) (fun _ i _ => N - (intOf i).toNat)
  case atStart => exact ⟨0, Nat.zero_le _, rfl, HS1.out, HB1.out⟩
  case round =>
    clear HS1 HB1 H1
    obtain ⟨k, hk, rfl, HSt, HB⟩ := hrel
    by_cases hlt : k < N
    · have hlt' : k < l.length := by rw [HS.out.2.1]; exact hlt
      have HSr := HS.out.1.below HB.out
      obtain rfl := HSr.at_ (by omega)
      have HD0 : Hid (∀ wx, Below w.heap.size w wx → wx.cell? ⟨b0, off + k * 9, none⟩ = some (.int .i64 (l.getD k opr0).kind) ∧ wx.cell? ⟨b0, off + k * 9 + 1, none⟩ = some (.int .u64 (l.getD k opr0).x) ∧ wx.cell? ⟨b0, off + k * 9 + 2, none⟩ = some (.int .u64 (l.getD k opr0).y) ∧ wx.cell? ⟨b0, off + k * 9 + 3, none⟩ = some (.int .i64 (l.getD k opr0).day) ∧ wx.cell? ⟨b0, off + k * 9 + 4, none⟩ = some (.int .i64 (l.getD k opr0).to) ∧ wx.cell? ⟨b0, off + k * 9 + 5, none⟩ = some (.int .i64 (l.getD k opr0).cur) ∧ wx.cell? ⟨b0, off + k * 9 + 6, none⟩ = some (.int .i64 (l.getD k opr0).count) ∧ wx.cell? ⟨b0, off + k * 9 + 7, none⟩ = some (.int .i64 (l.getD k opr0).n) ∧ wx.cell? ⟨b0, off + k * 9 + 8, none⟩ = some (.int .i64 (l.getD k opr0).months)) := fun wx hb => by
        have h := HS.out.1.below hb
        exact ⟨h.c0 k hlt', h.c1 k hlt', h.c2 k hlt', h.c3 k hlt', h.c4 k hlt', h.c5 k hlt', h.c6 k hlt', h.c7 k hlt', h.c8 k hlt'⟩
      have HGd := hidD (docF_gd l k)
      have HLe : Hid (∀ T, some T ∈ docF l k → T.length ≤ 900) := fun T hT => by have := docF_len HS.out.2.2 (k := k) (by omega) hT; omega
      have HLe2 : Hid (∀ T, some T ∈ docF l (k + 1) → T.length ≤ 903) := fun T hT => by have := docF_len HS.out.2.2 (k := k + 1) (by omega) hT; omega
      have hdl := (bld_doc HS.out.2.2 k (by omega)).2.1
      have hmk := mk_range l k (fun i hi => HS.out.2.2.ok i (by omega))
      have hbd := HS.out.2.2.ok k hlt'
      have HNx : Hid (docF l (k + 1) = docS (l.getD k opr0) (docF l k)) := rfl
      have HTm : Hid (∀ w1, Calls Tryz.prog 28 #[.agg (opD (l.getD k opr0))] w1 fun e w' => e = .returned (.agg (trD (tmO (l.getD k opr0)))) ∧ Below w1.heap.size w1 w') := fun w1 => r18Term_any _ w1
      have HTk : Hid (∀ w1, Calls Tryz.prog 29 #[.agg (opD (l.getD k opr0))] w1 fun e w' => e = .returned (.bool (takO (l.getD k opr0))) ∧ Below w1.heap.size w1 w') := fun w1 => r18Takes_any _ w1
      generalize hox : l.getD k opr0 = o at *
      generalize docF l k = ps at *
      unfold opD at HTm HTk
      unfold trD tmO at HTm
      dsimp only at HTm
      have i1 : (k : Int) < (N : Int) := by omega
      have i2 : (0 : Int) ≤ (k : Int) := by omega
      have HTk2 : Hid (takO o = true → mkN l k ≠ 0) := fun ht e => by rw [e] at hbd; exact absurd hbd (bad_take ht)
      have HTk1 : Hid (takO o = true → o.kind ≠ 1) := fun ht e => by unfold takO at ht; rw [e] at ht; exact absurd ht (by decide)
      clear hbd hox HSr
      obtain ⟨qs, x, rfl⟩ := list_last ps (by omega)
      obtain ⟨g, cs, vx, hx, rfl, hBg, hgw, hc1, hc2, hpx, hpop, hcc, hst⟩ := HSt.out.last
      have HX := hidD (And.intro hBg (And.intro hpx (And.intro hpop hst)))
      have Hc := hidD hcc
      have hql : (qs.length : Int) = mkN l k := by rw [List.length_append, List.length_singleton] at hdl; omega
      obtain ⟨m, hmq⟩ : ∃ m, qs.length = m := ⟨_, rfl⟩
      rw [hmq] at HX Hc hc1 hql HSt ⊢
      have HMq := hidD hmq
      have hm63 : m ≤ 63 := by omega
      have iL : ((m + 1 : Nat) : Int) - 1 = (m : Int) := by omega
      have i3 : (0 : Int) ≤ (m : Int) := by omega
      have i4 : (m : Int) < ((m + 1 : Nat) : Int) := by omega
      have i4b : ¬ (m : Int) + 1 ≤ (m : Int) := by omega
      have HBw : Hid (w.heap.size ≤ wr.heap.size) := HB.out.size
      have hxq : ∀ T, x = some T → 1 ≤ T.length ∧ AbT T := fun T hT => HGd.out T (by rw [hT]; simp)
      have hxl : ∀ T, x = some T → T.length ≤ 900 := fun T hT => HLe.out T (by rw [hT]; simp)
      have HXq := hidD (And.intro hxq hxl)
      have HQg : Hid ((∀ T, some T ∈ qs → 1 ≤ T.length ∧ AbT T) ∧ (∀ T, some T ∈ qs → T.length ≤ 900)) := ⟨fun T hT => HGd.out T (List.mem_append_left _ hT), fun T hT => HLe.out T (List.mem_append_left _ hT)⟩
      obtain ⟨d0, d1, d2, d3, d4, d5, d6, d7, d8⟩ := HD0.out wr HB.out
      have HMk := hidD hql
      clear hxq hxl hBg hpx hpop hcc hst hmq HGd HLe hdl hmk hql hlt' hgw
      have e1 : (qs ++ [x]).getLastD none = x := by simp
      have e2 : (qs ++ [x]).dropLast = qs := by simp
      unfold docS at HNx
      rw [e1, e2] at HNx
      clear e1 e2
      by_cases h1 : o.kind = 1
      · have z1 : (o.kind == 1) = true := beq_iff_eq.2 h1
        have HN1 : Hid (docF l (k + 1) = qs ++ [x] ++ [none]) := by show _ = _; rw [HNx.out, if_pos h1]
        obtain ⟨vs, hav, hov⟩ := HSt.out
        have HV := hidD (And.intro hav hov)
        have hvl : (qs ++ [x]).length = m + 1 := by rw [List.length_append, List.length_singleton, HMq.out]
        have HVl := hidD hvl
        rw [hvl] at hov
        clear hav hvl h1 HNx HX Hc
        have HWa := hidD (al_bel wr (.cells #[.slice none 0 0, .bool false] 70))
        have HOa := hidD (orow_below hov HWa.out)
        have HCa : Hid (∀ j u, (rowV pcC [(.slice none 0 0, false)])[j]? = some u → (wr.alloc (.cells #[.slice none 0 0, .bool false] 70)).cell? ⟨wr.heap.size, j, none⟩ = some u) := fun j u hj => new_cells wr (pcC (.slice none 0 0, false)) 70 j u (by simpa [rowV] using hj)
        have HBa : Hid (Below w.heap.size w (wr.alloc (.cells #[.slice none 0 0, .bool false] 70))) := HB.out.trans (HWa.out.mono HBw.out)
        have HOn : Hid (∀ u ∈ rowV pcC [(Value.slice none 0 0, false)], u.oneCell' = true) := fun u hu => by
          simp only [rowV, pcC, List.append_nil, List.mem_cons, List.not_mem_nil, or_false] at hu
          rcases hu with rfl | rfl <;> rfl
        have HSa : Hid (∀ sv' w', w'.ownsRow w.heap.size 70 2 sv' (m + 1 + 1) (rowV pcC vs ++ rowV pcC [(.slice none 0 0, false)]) → (wr.alloc (.cells #[.slice none 0 0, .bool false] 70)).grownBy w' (Value.slice (some ⟨g, 0, none⟩) (m + 1) cs).ownBlock → StM w.heap.size (docF l (k + 1)) sv' w' ∧ Below w.heap.size w w') := fun sv' w' ho' hg' => by
          rw [HN1.out]
          refine ⟨StM.push (ps := qs ++ [x]) (AllP.over (fun p v hh mm => mm.below HWa.out) _ _ HV.out.1) (sv := .slice (some ⟨g, 0, none⟩) (m + 1) cs) ?_ ?_ hg', HBa.out.trans (orow_grown HOa.out hg' (Nat.le_trans HBw.out HWa.out.size))⟩
          · rw [HVl.out]; exact HOa.out
          · rw [HVl.out]; exact ho'
        have hm1 : m + 1 + 1 ≤ 70 := by omega
        clear hov HV HN1 d1 d2 d3 d4 d5 d6 d7 d8 HTm HTk
        go_wp2_with (at_builtin; refine wpList_append_g _ Tryz.underlying71 info_pc rfl (by decide) rfl (.tmp 40) (.tmp 42) rfl w.heap.size (.slice (some ⟨g, 0, none⟩) (m + 1) cs) (m + 1) (rowV pcC vs) rfl HOa.out (Nat.le_trans HBw.out HWa.out.size) wr.heap.size 1 1 (rowV pcC [(.slice none 0 0, false)]) rfl rfl HCa.out HOn.out (by omega) (by omega) ?_; intro v5 w5 ho5 hg5; have H5 := hidD (HSa.out _ _ ho5 hg5); clear ho5 hg5)
        go_wp2_with fail
        go_roundw
        case rel => exact ⟨k + 1, by omega, by go_num, H5.out.1, H5.out.2⟩
        case measure => simp [intOf]; omega
      · have z1 : (o.kind == 1) = false := beq_eq_false_iff_ne.2 h1
        rw [if_neg h1] at HNx
        go_wp2_with fail
        refine (HTm.out _).mono ?_
        rintro e w2 ⟨rfl, hb2⟩
        have HB2 : Hid (Below wr.heap.size wr w2 ∧ Below w.heap.size w w2) := ⟨hb2, HB.out.trans (hb2.mono HBw.out)⟩
        clear hb2 d0 d1 d2 d3 d4 d5 d6 d7 d8
        obtain ⟨W3, hW3⟩ : ∃ W3, w2.alloc (.cells #[.int .i64 (oTm o.kind), .int .i64 0, .int .i64 0, .int .u64 o.x, .int .u64 o.y, .int .i64 o.day, .int .i64 o.to, .int .i64 o.cur, .int .i64 o.count, .int .i64 o.n, .int .i64 o.months] 64) = W3 := ⟨_, rfl⟩
        have HX3 : Hid (W3.heap[w2.heap.size]? = some (.cells #[.int .i64 (oTm o.kind), .int .i64 0, .int .i64 0, .int .u64 o.x, .int .u64 o.y, .int .i64 o.day, .int .i64 o.to, .int .i64 o.cur, .int .i64 o.count, .int .i64 o.n, .int .i64 o.months] 64)) := by show _ = _; rw [← hW3]; exact heap_alloc_new _ _
        have HB3 : Hid (Below wr.heap.size wr W3 ∧ Below w.heap.size w W3) := by rw [← hW3]; exact ⟨HB2.out.1.alloc HB2.out.1.size _, HB2.out.2.alloc HB2.out.2.size _⟩
        obtain ⟨t, ht2⟩ : ∃ t, w2.heap.size = t := ⟨_, rfl⟩
        rw [ht2] at HX3
        have HTw : Hid (wr.heap.size ≤ t) := by show _ ≤ _; rw [← ht2]; exact HB2.out.1.size
        clear HB2
        obtain ⟨d0, d1, d2, d3, d4, d5, d6, d7, d8⟩ := HD0.out W3 HB3.out.2
        go_wp2_with fail
        refine (HTk.out _).mono ?_
        rintro e w4 ⟨rfl, hb4⟩
        have HX4 : Hid (w4.heap[t]? = some (.cells #[.int .i64 (oTm o.kind), .int .i64 0, .int .i64 0, .int .u64 o.x, .int .u64 o.y, .int .i64 o.day, .int .i64 o.to, .int .i64 o.cur, .int .i64 o.count, .int .i64 o.n, .int .i64 o.months] 64)) := (hb4.block t (lt_of_blk HX3.out)).trans HX3.out
        have HB4 : Hid (Below wr.heap.size wr w4 ∧ Below w.heap.size w w4) := ⟨HB3.out.1.trans (hb4.mono HB3.out.1.size), HB3.out.2.trans (hb4.mono HB3.out.2.size)⟩
        have HT4 : Hid (t < w4.heap.size) := lt_of_blk HX4.out
        clear hb4 d0 d1 d2 d3 d4 d5 d6 d7 d8 HX3 HB3 hW3
        cases htk : takO o
        · have HN2 : Hid (docF l (k + 1) = qs ++ [some (jnP x [tmO o])]) := by
            show _ = _
            rw [HNx.out, htk]; rfl
          obtain ⟨L', hL'⟩ : ∃ L', (jnP x [tmO o]).length = L' := ⟨_, rfl⟩
          have hL2 : L' ≤ 903 := by rw [← hL']; exact HLe2.out _ (by rw [HN2.out]; simp)
          have HJ : Hid (∀ w5 nb, Below wr.heap.size wr w5 → w5.heap[nb]? = some (.cells #[.int .i64 (oTm o.kind), .int .i64 0, .int .i64 0, .int .u64 o.x, .int .u64 o.y, .int .i64 o.day, .int .i64 o.to, .int .i64 o.cur, .int .i64 o.count, .int .i64 o.n, .int .i64 o.months] 64) → wr.heap.size ≤ nb → Calls Tryz.prog 30 #[.agg #[vx, .bool hx], .agg #[.slice (some ⟨nb, 0, none⟩) 1 1, .bool true]] w5 fun e w6 => (∃ p' c', e = .returned (.agg #[.slice p' L' c', .bool true]) ∧ (∀ i, w6.frozen? ⟨g, i, none⟩ = false) ∧ w6.cell? ⟨g, m * 2, none⟩ = some vx ∧ w6.cell? ⟨g, m * 2 + 1, none⟩ = some (.bool hx) ∧ StM w.heap.size (docF l (k + 1)) (.slice (some ⟨g, 0, none⟩) (m + 1) cs) (put2 w6 g m (.slice p' L' c') (.bool true)) ∧ Below w.heap.size w (put2 w6 g m (.slice p' L' c') (.bool true)) ∧ (put2 w6 g m (.slice p' L' c') (.bool true)).cell? ⟨g, m * 2, none⟩ = some (.slice p' L' c')) ∧ Below w5.heap.size w5 w6) := fun w5 nb hb5 hn5 hnb => by
            have hrow : w5.ownsRow w.heap.size 64 11 (.slice (some ⟨nb, 0, none⟩) 1 1) [tmO o].length (rowV trD [tmO o]) := ⟨rfl, .inr ⟨nb, 1, #[.int .i64 (oTm o.kind), .int .i64 0, .int .i64 0, .int .u64 o.x, .int .u64 o.y, .int .i64 o.day, .int .i64 o.to, .int .i64 o.cur, .int .i64 o.count, .int .i64 o.n, .int .i64 o.months], rfl, Nat.le_trans HBw.out hnb, hn5, Nat.le_refl _, by decide, rfl, rfl⟩⟩
            refine (r18Join_any w.heap.size x [tmO o] vx _ hx w5 ?_ hrow (Nat.le_trans HBw.out hb5.size) abT_one (fun T hT => ⟨(HXq.out.1 T hT).1, Nat.le_trans (HXq.out.2 T hT) (by decide)⟩) (Nat.le_refl 1) (by show 1 ≤ 30000; decide)).mono ?_
            · exact HX.out.2.1.below hb5
            rintro e w6 ⟨⟨v', rfl, ho⟩, hb6⟩
            rw [hL'] at ho
            obtain ⟨p', c', g', rfl, _⟩ := orow_src ho
            have hb := hb5.trans (hb6.mono hb5.size)
            obtain ⟨y1, y2, y3, _⟩ := HX.out.2.2.2 w6 hb (some (jnP x [tmO o])) (.slice p' L' c') true ⟨rfl, by rw [hL']; exact ho⟩
            refine ⟨⟨p', c', rfl, y1, (Hc.out w6 hb).1, (Hc.out w6 hb).2, by rw [HN2.out]; exact y2, (HB.out.trans (hb.mono HBw.out)).trans y3, ?_⟩, hb6⟩
            exact put2_cell (Hc.out w6 hb).1
          have HBr : Hid (Below wr.heap.size wr (w4.alloc (.cells #[.int .i64 (oTm o.kind), .int .i64 0, .int .i64 0, .int .u64 o.x, .int .u64 o.y, .int .i64 o.day, .int .i64 o.to, .int .i64 o.cur, .int .i64 o.count, .int .i64 o.n, .int .i64 o.months] 64)).drew) := (HB4.out.1.alloc HB4.out.1.size _).drew
          have HNr : Hid ((w4.alloc (.cells #[.int .i64 (oTm o.kind), .int .i64 0, .int .i64 0, .int .u64 o.x, .int .u64 o.y, .int .i64 o.day, .int .i64 o.to, .int .i64 o.cur, .int .i64 o.count, .int .i64 o.n, .int .i64 o.months] 64)).drew.heap[w4.heap.size]? = some (.cells #[.int .i64 (oTm o.kind), .int .i64 0, .int .i64 0, .int .u64 o.x, .int .u64 o.y, .int .i64 o.day, .int .i64 o.to, .int .i64 o.cur, .int .i64 o.count, .int .i64 o.n, .int .i64 o.months] 64)) := heap_alloc_new _ _
          have HW4 : Hid (wr.heap.size ≤ w4.heap.size) := HB4.out.1.size
          have HS0 : Hid (SBk g t m vx hx #[.int .i64 (oTm o.kind), .int .i64 0, .int .i64 0, .int .u64 o.x, .int .u64 o.y, .int .i64 o.day, .int .i64 o.to, .int .i64 o.cur, .int .i64 o.count, .int .i64 o.n, .int .i64 o.months] w4.drew ∧ SBk g t m vx hx #[.int .i64 (oTm o.kind), .int .i64 0, .int .i64 0, .int .u64 o.x, .int .u64 o.y, .int .i64 o.day, .int .i64 o.to, .int .i64 o.cur, .int .i64 o.count, .int .i64 o.n, .int .i64 o.months] (w4.alloc (.cells #[.int .i64 (oTm o.kind), .int .i64 0, .int .i64 0, .int .u64 o.x, .int .u64 o.y, .int .i64 o.day, .int .i64 o.to, .int .i64 o.cur, .int .i64 o.count, .int .i64 o.n, .int .i64 o.months] 64)).drew) := ⟨⟨HX4.out, Hc.out w4 HB4.out.1⟩, ⟨((al_bel w4 _).block _ HT4.out).trans HX4.out, Hc.out _ HBr.out⟩⟩
          have i5 : ¬ (2048 : Int) < (L' : Int) := by omega
          clear hL' HLe2 HNx HX HN2 HTm HTk HQg
          go_wp2_with fail
          refine wp_region_late (SBk g t m vx hx #[.int .i64 (oTm o.kind), .int .i64 0, .int .i64 0, .int .u64 o.x, .int .u64 o.y, .int .i64 o.day, .int .i64 o.to, .int .i64 o.cur, .int .i64 o.count, .int .i64 o.n, .int .i64 o.months]) (fun i => i == 11) (by kernel_rfl) ?_
          refine anyL_take 0 (.slice (some ⟨g, 0, none⟩) (m + 1) cs) rfl (by kernel_rfl) (by kernel_rfl) (by kernel_rfl) (by kernel_rfl) (by kernel_rfl) (fun _ _ _ h => h) (by rfl) HS0.out.1 (fun wx hS => by obtain ⟨x0, x1, x2⟩ := hS; obtain ⟨t0, t1, t2, t3, t4, t5, t6, t7, t8, t9, t10⟩ := cells11 x0; go_simp) ?_
          simp only [Act.put, List.setIfInBounds_toArray]
          refine anyL_take 1 (.int .i64 m) rfl (by kernel_rfl) (by kernel_rfl) (by kernel_rfl) (by kernel_rfl) (by kernel_rfl) (fun _ _ _ h => h) (by rfl) HS0.out.1 (fun wx hS => by obtain ⟨x0, x1, x2⟩ := hS; obtain ⟨t0, t1, t2, t3, t4, t5, t6, t7, t8, t9, t10⟩ := cells11 x0; go_simp) ?_
          simp only [Act.put]
          refine anyL_take 2 (.slice (some ⟨g, 0, none⟩) (m + 1) cs) rfl (by kernel_rfl) (by kernel_rfl) (by kernel_rfl) (by kernel_rfl) (by kernel_rfl) (fun _ _ _ h => h) (by rfl) HS0.out.1 (fun wx hS => by obtain ⟨x0, x1, x2⟩ := hS; obtain ⟨t0, t1, t2, t3, t4, t5, t6, t7, t8, t9, t10⟩ := cells11 x0; go_simp) ?_
          simp only [Act.put]
          refine anyL_take 3 (.int .i64 m) rfl (by kernel_rfl) (by kernel_rfl) (by kernel_rfl) (by kernel_rfl) (by kernel_rfl) (fun _ _ _ h => h) (by rfl) HS0.out.1 (fun wx hS => by obtain ⟨x0, x1, x2⟩ := hS; obtain ⟨t0, t1, t2, t3, t4, t5, t6, t7, t8, t9, t10⟩ := cells11 x0; go_simp) ?_
          simp only [Act.put]
          refine anyL_take 4 (.pointer (some ⟨g, m * 2, none⟩)) rfl (by kernel_rfl) (by kernel_rfl) (by kernel_rfl) (by kernel_rfl) (by kernel_rfl) (fun _ _ _ h => h) (by rfl) HS0.out.1 (fun wx hS => by obtain ⟨x0, x1, x2⟩ := hS; obtain ⟨t0, t1, t2, t3, t4, t5, t6, t7, t8, t9, t10⟩ := cells11 x0; go_simp) ?_
          simp only [Act.put]
          refine anyL_take 5 (.agg #[vx, .bool hx]) rfl (by kernel_rfl) (by kernel_rfl) (by kernel_rfl) (by kernel_rfl) (by kernel_rfl) (fun _ _ _ h => h) (by rfl) HS0.out.1 (fun wx hS => by obtain ⟨x0, x1, x2⟩ := hS; obtain ⟨t0, t1, t2, t3, t4, t5, t6, t7, t8, t9, t10⟩ := cells11 x0; go_simp) ?_
          simp only [Act.put]
          refine anyL_take 6 (.agg #[.int .i64 (oTm o.kind), .int .i64 0, .int .i64 0, .int .u64 o.x, .int .u64 o.y, .int .i64 o.day, .int .i64 o.to, .int .i64 o.cur, .int .i64 o.count, .int .i64 o.n, .int .i64 o.months]) rfl (by kernel_rfl) (by kernel_rfl) (by kernel_rfl) (by kernel_rfl) (by kernel_rfl) (fun _ _ _ h => h) (by rfl) HS0.out.1 (fun wx hS => by obtain ⟨x0, x1, x2⟩ := hS; obtain ⟨t0, t1, t2, t3, t4, t5, t6, t7, t8, t9, t10⟩ := cells11 x0; go_simp) ?_
          simp only [Act.put]
          refine anyL_one (i := 7) (by kernel_rfl) ?_
          refine wpOp_step rfl (fun K1 hK1 => ?_)
          go_simp
          refine hK1 _ _ ⟨fun _ => HS0.out.2, ?_⟩
          refine anyL_one (i := 8) (by kernel_rfl) ?_
          refine wpOp_step rfl (fun K2 hK2 => ?_)
          go_simp
          refine hK2 _ _ ⟨fun _ => HS0.out.2, ?_⟩
          refine anyL_one (i := 9) (by kernel_rfl) ?_
          refine wpOp_step rfl (fun K3 hK3 => ?_)
          go_simp
          refine (HJ.out _ _ HBr.out HNr.out HW4.out).mono ?_
          rintro e w6 ⟨⟨p', c', rfl, yf, y0, y1, y2, y3, y4⟩, hb6⟩
          have H7 := hidD (And.intro y2 y3)
          obtain ⟨w7, hw7⟩ : ∃ w7, put2 w6 g m (.slice p' L' c') (.bool true) = w7 := ⟨_, rfl⟩
          rw [hw7] at H7 y4
          have f0 := yf (m * 2)
          have f1 := yf (m * 2 + 1)
          unfold put2 at hw7
          clear y2 y3 yf
          have HS6 : Hid (SBk g t m vx hx #[.int .i64 (oTm o.kind), .int .i64 0, .int .i64 0, .int .u64 o.x, .int .u64 o.y, .int .i64 o.day, .int .i64 o.to, .int .i64 o.cur, .int .i64 o.count, .int .i64 o.n, .int .i64 o.months] w6) := ⟨(hb6.block t (lt_of_blk HS0.out.2.1)).trans HS0.out.2.1, y0, y1⟩
          clear hb6
          refine hK3 _ _ ⟨fun _ => HS6.out, ?_⟩
          refine anyL_one (i := 10) (by kernel_rfl) ?_
          refine wpOp_step rfl (fun K4 hK4 => ?_)
          go_simp
          refine hK4 _ _ ⟨fun _ => HS6.out, ?_⟩
          refine anyL_one (i := 11) (by kernel_rfl) ?_
          refine wpOp_step rfl (fun K5 hK5 => ?_)
          go_simp
          refine hK5 _ _ ⟨fun h => absurd h (by decide), ?_⟩
          refine anyL_done (by kernel_rfl) ?_
          go_wp2_with fail
          go_roundw
          case rel => exact ⟨k + 1, by omega, by go_num, H7.out.1, H7.out.2⟩
          case measure => simp [intOf]; omega
        · have hm0 := HTk2.out htk
          obtain ⟨n', hn'⟩ : ∃ n', m = n' + 1 := ⟨m - 1, by have := HMk.out; omega⟩
          obtain ⟨ms, y, rfl⟩ := list_last qs (by have := HMq.out; omega)
          have hml : ms.length = n' := by have := HMq.out; rw [List.length_append, List.length_singleton] at this; omega
          have hSt2 := HX.out.2.2.1
          obtain ⟨g2, c2, vy, hy, hsl, _, _, _, _, hpy, _, hcc2, hst2⟩ := hSt2.last
          obtain ⟨rfl, rfl⟩ : g = g2 ∧ cs = c2 := by
            injection hsl with e1 e2 e3
            injection e1 with e1
            injection e1 with e1
            exact ⟨e1, e3⟩
          rw [hml] at hcc2 hst2
          have HY := hidD (And.intro hpy hst2)
          have Hc2 := hidD hcc2
          have HN2 : Hid (docF l (k + 1) = ms ++ [some (jnP y (whP x ++ [{ tmO o with a := ((whP x).length : Int) - 1 }]))]) := by
            show _ = _
            rw [HNx.out, htk, if_pos rfl]
            have e3 : (ms ++ [y]).getLastD none = y := by simp
            have e4 : (ms ++ [y]).dropLast = ms := by simp
            rw [e3, e4]
          obtain ⟨hw1, hw2⟩ := abT_wh HXq.out.1
          have hw3 : (whP x).length ≤ 900 := by
            cases x with
            | none => show 1 ≤ 900; decide
            | some T => exact HXq.out.2 T rfl
          have HWt := hidD (abT_add o hw1 hw2)
          obtain ⟨L', hL'⟩ : ∃ L', (jnP y (whP x ++ [{ tmO o with a := ((whP x).length : Int) - 1 }])).length = L' := ⟨_, rfl⟩
          have hL2 : L' ≤ 903 := by rw [← hL']; exact HLe2.out _ (by rw [HN2.out]; simp)
          have HWh : Hid (Calls Tryz.prog 31 #[.agg #[vx, .bool hx]] w4 fun e w5 => (∃ pw cw, e = .returned (.agg #[.slice pw (whP x).length cw, .bool true]) ∧ w5.ownsRow w.heap.size 64 11 (.slice pw (whP x).length cw) (whP x).length (rowV trD (whP x)) ∧ ∀ g, (Value.slice pw (whP x).length cw).ownBlock = some g → g ≠ t) ∧ Below w4.heap.size w4 w5) :=
            (r18Whole_gen w.heap.size t x vx hx w4 (HX.out.2.1.below HB4.out.1) (Nat.le_trans HBw.out HB4.out.1.size) HT4.out (fun g hg => by have := HX.out.2.1.lt g hg; have := HTw.out; omega)).mono fun e w5 ⟨⟨v', he, ho, hv⟩, hb⟩ => by
              obtain ⟨pw, cw, _, rfl, _⟩ := orow_src ho
              exact ⟨⟨pw, cw, he, ho, hv⟩, hb⟩
          obtain ⟨nW, hnW⟩ : ∃ nW, (whP x).length = nW := ⟨_, rfl⟩
          have HJ : Hid (∀ w5 p10 c10, Below wr.heap.size wr w5 → w5.ownsRow w.heap.size 64 11 (.slice p10 (nW + 1) c10) (nW + 1) (rowV trD (whP x) ++ rowV trD [{ tmO o with a := (nW : Int) - 1 }]) → Calls Tryz.prog 30 #[.agg #[vy, .bool hy], .agg #[.slice p10 (nW + 1) c10, .bool true]] w5 fun e w6 => (∃ p' c', e = .returned (.agg #[.slice p' L' c', .bool true]) ∧ (∀ i, w6.frozen? ⟨g, i, none⟩ = false) ∧ w6.cell? ⟨g, n' * 2, none⟩ = some vy ∧ w6.cell? ⟨g, n' * 2 + 1, none⟩ = some (.bool hy) ∧ StM w.heap.size (docF l (k + 1)) (.slice (some ⟨g, 0, none⟩) m cs) (put2 w6 g n' (.slice p' L' c') (.bool true)) ∧ Below w.heap.size w (put2 w6 g n' (.slice p' L' c') (.bool true)) ∧ (put2 w6 g n' (.slice p' L' c') (.bool true)).cell? ⟨g, n' * 2, none⟩ = some (.slice p' L' c')) ∧ Below w5.heap.size w5 w6) := fun w5 p10 c10 hb5 hrow => by
            rw [← hnW, ← rowV_append] at hrow
            have hl1 : (whP x ++ [({ tmO o with a := ((whP x).length : Int) - 1 } : Trm)]).length = (whP x).length + 1 := by simp
            rw [← hl1] at hrow
            rw [← hnW, ← hl1]
            refine (r18Join_any w.heap.size y _ vy _ hy w5 ?_ hrow (Nat.le_trans HBw.out hb5.size) HWt.out (fun T hT => ⟨(HQg.out.1 T (by rw [hT]; simp)).1, Nat.le_trans (HQg.out.2 T (by rw [hT]; simp)) (by decide)⟩) (by rw [hl1]; omega) (by rw [hl1]; omega)).mono ?_
            · exact HY.out.1.below hb5
            rintro e w6 ⟨⟨v', rfl, ho⟩, hb6⟩
            rw [hL'] at ho
            obtain ⟨p', c', g', rfl, _⟩ := orow_src ho
            have hb := hb5.trans (hb6.mono hb5.size)
            obtain ⟨y1, y2, y3, _⟩ := HY.out.2 w6 hb (some (jnP y (whP x ++ [{ tmO o with a := ((whP x).length : Int) - 1 }]))) (.slice p' L' c') true ⟨rfl, by rw [hL']; exact ho⟩
            refine ⟨⟨p', c', rfl, y1, (Hc2.out w6 hb).1, (Hc2.out w6 hb).2, ?_, (HB.out.trans (hb.mono HBw.out)).trans y3, put2_cell (Hc2.out w6 hb).1⟩, hb6⟩
            rw [HN2.out, hn']; exact y2
          rw [hnW] at hw1 hw3 HWh
          have iN : (m : Int) - 1 = (n' : Int) := by omega
          have i5 : ¬ (2048 : Int) < (L' : Int) := by omega
          have i6 : (m : Int) ≤ (cs : Int) := by omega
          have i7 : ¬ (cs : Int) < (m : Int) := by omega
          have i8 : m ≤ cs := by omega
          have i9 : m ≤ m + 1 := by omega
          have iw : IntKind.i64.wrap (m : Int) = (m : Int) := by rw [IntKind.wrap_i64]; omega
          have iw2 : IntKind.i64.wrap (n' : Int) = (n' : Int) := by rw [IntKind.wrap_i64]; omega
          have j0 : (0 : Int) ≤ (n' : Int) := by omega
          have j1 : (n' : Int) < (m : Int) := by omega
          have j2 : ¬ (m : Int) ≤ (n' : Int) := by omega
          obtain ⟨q0, q1⟩ := Hc.out w4 HB4.out.1
          clear hSt2 hsl hpy hcc2 hst2 hn' hml hm0 hw2 hL' HLe2 HNx HX HY HTm HTk HQg HXq HWt HTk2 HTk1 HMk HMq
          go_wp2_with fail
          refine HWh.out.mono ?_
          rintro e w5 ⟨⟨pw, cw, rfl, ho5, hv5⟩, hb5⟩
          have HB5 : Hid (Below wr.heap.size wr w5 ∧ w4.heap.size ≤ w5.heap.size) := ⟨HB4.out.1.trans (hb5.mono HB4.out.1.size), hb5.size⟩
          have HX5 : Hid (w5.heap[t]? = some (.cells #[.int .i64 (oTm o.kind), .int .i64 0, .int .i64 0, .int .u64 o.x, .int .u64 o.y, .int .i64 o.day, .int .i64 o.to, .int .i64 o.cur, .int .i64 o.count, .int .i64 o.n, .int .i64 o.months] 64)) := (hb5.block t HT4.out).trans HX4.out
          have HO5 := hidD (And.intro ho5 hv5)
          clear ho5 hv5 hb5 q0 q1 HWh
          obtain ⟨W6, hW6⟩ : ∃ W6, w5.alloc (.cells #[.slice pw nW cw, .bool true] 70) = W6 := ⟨_, rfl⟩
          obtain ⟨tin, htin⟩ : ∃ tin, w5.heap.size = tin := ⟨_, rfl⟩
          have HTin : Hid (t < tin) := by show _ < _; rw [← htin]; exact lt_of_blk HX5.out
          have HX6 : Hid (W6.heap[tin]? = some (.cells #[.slice pw nW cw, .bool true] 70) ∧ W6.heap[t]? = some (.cells #[.int .i64 (oTm o.kind), .int .i64 0, .int .i64 0, .int .u64 o.x, .int .u64 o.y, .int .i64 o.day, .int .i64 o.to, .int .i64 o.cur, .int .i64 o.count, .int .i64 o.n, .int .i64 o.months] 64)) := by
            rw [← hW6, ← htin]
            exact ⟨heap_alloc_new _ _, ((al_bel w5 _).block t (lt_of_blk HX5.out)).trans HX5.out⟩
          have HB6 : Hid (Below wr.heap.size wr W6) := by show Below _ _ _; rw [← hW6]; exact HB5.out.1.alloc HB5.out.1.size _
          have HO6 : Hid (W6.ownsRow w.heap.size 64 11 (.slice pw nW cw) nW (rowV trD (whP x))) := by show World.ownsRow _ _ _ _ _ _ _; rw [← hW6]; exact orow_below HO5.out.1 (al_bel _ _)
          obtain ⟨W7, hW7⟩ : ∃ W7, W6.setCell ⟨t, 1, none⟩ (.int .i64 ((nW : Int) - 1)) = W7 := ⟨_, rfl⟩
          have HX7 : Hid (W7.heap[tin]? = some (.cells #[.slice pw nW cw, .bool true] 70) ∧ W7.heap[t]? = some (.cells #[.int .i64 (oTm o.kind), .int .i64 ((nW : Int) - 1), .int .i64 0, .int .u64 o.x, .int .u64 o.y, .int .i64 o.day, .int .i64 o.to, .int .i64 o.cur, .int .i64 o.count, .int .i64 o.n, .int .i64 o.months] 64)) := by
            rw [← hW7]
            exact ⟨(blkF_far _ _ _ _ (Nat.ne_of_gt HTin.out)).trans HX6.out.1, (heap_setCell_same W6 t 1 _ _ _ HX6.out.2).trans rfl⟩
          have HB7 : Hid (Below wr.heap.size wr W7) := by show Below _ _ _; rw [← hW7]; exact HB6.out.setCell (p := ⟨t, 1, none⟩) HTw.out _
          have HO7 : Hid (W7.ownsRow w.heap.size 64 11 (.slice pw nW cw) nW (rowV trD (whP x))) := by show World.ownsRow _ _ _ _ _ _ _; rw [← hW7]; exact orow_keep HO6.out fun g hg => blkF_far _ _ _ _ (HO5.out.2 g hg)
          have HO70 := hidD (orow_nil W7.heap.size W7 64 11)
          obtain ⟨u0, u1, _⟩ := cell2_of HX6.out.1
          obtain ⟨z0, z1', _⟩ := cell2_of HX7.out.1
          have v1 := (cells11 HX6.out.2).2.1
          have fr1 : W6.frozen? ⟨t, 1, none⟩ = false := by simp [World.frozen?, HX6.out.2]
          clear HX6 HB6 HO6 HX5 HO5 HB5 HX4 HB4 HT4
          have i10 : nW ≤ 900 := hw3
          go_wp2_with (at_builtin; refine wpList_append_v _ Tryz.underlying31 info_trD rfl (by decide) rfl (.tmp 79) (.tmp 81) rfl W7.heap.size (.slice none 0 0) 0 [] rfl HO70.out (Nat.le_refl _) w.heap.size nW (.slice pw nW cw) (rowV trD (whP x)) rfl HO7.out (rowV_one trD_one _) (by omega) (by omega) ?_; intro v8 w8 ho8 hb8; rw [List.nil_append, Nat.zero_add] at ho8; have H8 := hidD (And.intro ho8 hb8); clear ho8 hb8)
          obtain ⟨p8, c8, g8, hv8, _⟩ := orow_src H8.out.1
          subst hv8
          have HX8 : Hid (w8.heap[t]? = some (.cells #[.int .i64 (oTm o.kind), .int .i64 ((nW : Int) - 1), .int .i64 0, .int .u64 o.x, .int .u64 o.y, .int .i64 o.day, .int .i64 o.to, .int .i64 o.cur, .int .i64 o.count, .int .i64 o.n, .int .i64 o.months] 64)) := (H8.out.2.block t (lt_of_blk HX7.out.2)).trans HX7.out.2
          have HB8 : Hid (Below wr.heap.size wr w8) := HB7.out.trans (H8.out.2.mono HB7.out.size)
          have HT8 : Hid (t < w8.heap.size) := lt_of_blk HX8.out
          have HBr : Hid (Below wr.heap.size wr (w8.alloc (.cells #[.int .i64 (oTm o.kind), .int .i64 ((nW : Int) - 1), .int .i64 0, .int .u64 o.x, .int .u64 o.y, .int .i64 o.day, .int .i64 o.to, .int .i64 o.cur, .int .i64 o.count, .int .i64 o.n, .int .i64 o.months] 64)).drew) := (HB8.out.alloc HB8.out.size _).drew
          have HS0 : Hid (SBk g t n' vy hy #[.int .i64 (oTm o.kind), .int .i64 ((nW : Int) - 1), .int .i64 0, .int .u64 o.x, .int .u64 o.y, .int .i64 o.day, .int .i64 o.to, .int .i64 o.cur, .int .i64 o.count, .int .i64 o.n, .int .i64 o.months] w8.drew ∧ SBk g t n' vy hy #[.int .i64 (oTm o.kind), .int .i64 ((nW : Int) - 1), .int .i64 0, .int .u64 o.x, .int .u64 o.y, .int .i64 o.day, .int .i64 o.to, .int .i64 o.cur, .int .i64 o.count, .int .i64 o.n, .int .i64 o.months] (w8.alloc (.cells #[.int .i64 (oTm o.kind), .int .i64 ((nW : Int) - 1), .int .i64 0, .int .u64 o.x, .int .u64 o.y, .int .i64 o.day, .int .i64 o.to, .int .i64 o.cur, .int .i64 o.count, .int .i64 o.n, .int .i64 o.months] 64)).drew) := ⟨⟨HX8.out, Hc2.out w8 HB8.out⟩, ⟨((al_bel w8 _).block _ HT8.out).trans HX8.out, Hc2.out _ HBr.out⟩⟩
          have HO9 : Hid ((w8.alloc (.cells #[.int .i64 (oTm o.kind), .int .i64 ((nW : Int) - 1), .int .i64 0, .int .u64 o.x, .int .u64 o.y, .int .i64 o.day, .int .i64 o.to, .int .i64 o.cur, .int .i64 o.count, .int .i64 o.n, .int .i64 o.months] 64)).drew.ownsRow W7.heap.size 64 11 (.slice p8 nW c8) nW (rowV trD (whP x))) := orow_below H8.out.1 (al_bel w8 _).drew
          have HC9 : Hid (∀ j u, (rowV trD [({ tmO o with a := (nW : Int) - 1 } : Trm)])[j]? = some u → (w8.alloc (.cells #[.int .i64 (oTm o.kind), .int .i64 ((nW : Int) - 1), .int .i64 0, .int .u64 o.x, .int .u64 o.y, .int .i64 o.day, .int .i64 o.to, .int .i64 o.cur, .int .i64 o.count, .int .i64 o.n, .int .i64 o.months] 64)).drew.cell? ⟨w8.heap.size, j, none⟩ = some u) := fun j u hj => new_cells w8 (trD { tmO o with a := (nW : Int) - 1 }) 64 j u (by rw [rowT_one1] at hj; exact hj)
          have HWg : Hid (W7.heap.size ≤ (w8.alloc (.cells #[.int .i64 (oTm o.kind), .int .i64 ((nW : Int) - 1), .int .i64 0, .int .u64 o.x, .int .u64 o.y, .int .i64 o.day, .int .i64 o.to, .int .i64 o.cur, .int .i64 o.count, .int .i64 o.n, .int .i64 o.months] 64)).drew.heap.size ∧ w.heap.size ≤ W7.heap.size ∧ wr.heap.size ≤ W7.heap.size ∧ t < W7.heap.size) := ⟨Nat.le_trans H8.out.2.size (al_bel w8 _).size, Nat.le_trans HBw.out HB7.out.size, HB7.out.size, lt_of_blk HX7.out.2⟩
          clear u0 u1 z0 z1' v1 fr1 hW6 hW7 HX7 HO7 HO70
          go_wp2_with fail
          refine wp_region_late (SBk g t n' vy hy #[.int .i64 (oTm o.kind), .int .i64 ((nW : Int) - 1), .int .i64 0, .int .u64 o.x, .int .u64 o.y, .int .i64 o.day, .int .i64 o.to, .int .i64 o.cur, .int .i64 o.count, .int .i64 o.n, .int .i64 o.months]) (fun i => i == 15) (by kernel_rfl) ?_
          refine anyL_take 0 (.slice (some ⟨g, 0, none⟩) m cs) rfl (by kernel_rfl) (by kernel_rfl) (by kernel_rfl) (by kernel_rfl) (by kernel_rfl) (fun _ _ _ h => h) (by rfl) HS0.out.1 (fun wx hS => by obtain ⟨x0, x1, x2⟩ := hS; obtain ⟨t0, t1, t2, t3, t4, t5, t6, t7, t8, t9, t10⟩ := cells11 x0; go_simp) ?_
          simp only [Act.put, List.setIfInBounds_toArray]
          refine anyL_take 1 (.int .i64 m) rfl (by kernel_rfl) (by kernel_rfl) (by kernel_rfl) (by kernel_rfl) (by kernel_rfl) (fun _ _ _ h => h) (by rfl) HS0.out.1 (fun wx hS => by obtain ⟨x0, x1, x2⟩ := hS; obtain ⟨t0, t1, t2, t3, t4, t5, t6, t7, t8, t9, t10⟩ := cells11 x0; go_simp) ?_
          simp only [Act.put]
          refine anyL_take 2 (.int .i64 n') rfl (by kernel_rfl) (by kernel_rfl) (by kernel_rfl) (by kernel_rfl) (by kernel_rfl) (fun _ _ _ h => h) (by rfl) HS0.out.1 (fun wx hS => by obtain ⟨x0, x1, x2⟩ := hS; obtain ⟨t0, t1, t2, t3, t4, t5, t6, t7, t8, t9, t10⟩ := cells11 x0; go_simp) ?_
          simp only [Act.put]
          refine anyL_take 3 (.slice (some ⟨g, 0, none⟩) m cs) rfl (by kernel_rfl) (by kernel_rfl) (by kernel_rfl) (by kernel_rfl) (by kernel_rfl) (fun _ _ _ h => h) (by rfl) HS0.out.1 (fun wx hS => by obtain ⟨x0, x1, x2⟩ := hS; obtain ⟨t0, t1, t2, t3, t4, t5, t6, t7, t8, t9, t10⟩ := cells11 x0; go_simp) ?_
          simp only [Act.put]
          refine anyL_take 4 (.int .i64 m) rfl (by kernel_rfl) (by kernel_rfl) (by kernel_rfl) (by kernel_rfl) (by kernel_rfl) (fun _ _ _ h => h) (by rfl) HS0.out.1 (fun wx hS => by obtain ⟨x0, x1, x2⟩ := hS; obtain ⟨t0, t1, t2, t3, t4, t5, t6, t7, t8, t9, t10⟩ := cells11 x0; go_simp) ?_
          simp only [Act.put]
          refine anyL_take 5 (.int .i64 n') rfl (by kernel_rfl) (by kernel_rfl) (by kernel_rfl) (by kernel_rfl) (by kernel_rfl) (fun _ _ _ h => h) (by rfl) HS0.out.1 (fun wx hS => by obtain ⟨x0, x1, x2⟩ := hS; obtain ⟨t0, t1, t2, t3, t4, t5, t6, t7, t8, t9, t10⟩ := cells11 x0; go_simp) ?_
          simp only [Act.put]
          refine anyL_take 6 (.pointer (some ⟨g, n' * 2, none⟩)) rfl (by kernel_rfl) (by kernel_rfl) (by kernel_rfl) (by kernel_rfl) (by kernel_rfl) (fun _ _ _ h => h) (by rfl) HS0.out.1 (fun wx hS => by obtain ⟨x0, x1, x2⟩ := hS; obtain ⟨t0, t1, t2, t3, t4, t5, t6, t7, t8, t9, t10⟩ := cells11 x0; go_simp) ?_
          simp only [Act.put]
          refine anyL_take 7 (.agg #[vy, .bool hy]) rfl (by kernel_rfl) (by kernel_rfl) (by kernel_rfl) (by kernel_rfl) (by kernel_rfl) (fun _ _ _ h => h) (by rfl) HS0.out.1 (fun wx hS => by obtain ⟨x0, x1, x2⟩ := hS; obtain ⟨t0, t1, t2, t3, t4, t5, t6, t7, t8, t9, t10⟩ := cells11 x0; go_simp) ?_
          simp only [Act.put]
          refine anyL_take 8 (.slice p8 nW c8) rfl (by kernel_rfl) (by kernel_rfl) (by kernel_rfl) (by kernel_rfl) (by kernel_rfl) (fun _ _ _ h => h) (by rfl) HS0.out.1 (fun wx hS => by obtain ⟨x0, x1, x2⟩ := hS; obtain ⟨t0, t1, t2, t3, t4, t5, t6, t7, t8, t9, t10⟩ := cells11 x0; go_simp) ?_
          simp only [Act.put]
          refine anyL_take 9 (.agg #[.int .i64 (oTm o.kind), .int .i64 ((nW : Int) - 1), .int .i64 0, .int .u64 o.x, .int .u64 o.y, .int .i64 o.day, .int .i64 o.to, .int .i64 o.cur, .int .i64 o.count, .int .i64 o.n, .int .i64 o.months]) rfl (by kernel_rfl) (by kernel_rfl) (by kernel_rfl) (by kernel_rfl) (by kernel_rfl) (fun _ _ _ h => h) (by rfl) HS0.out.1 (fun wx hS => by obtain ⟨x0, x1, x2⟩ := hS; obtain ⟨t0, t1, t2, t3, t4, t5, t6, t7, t8, t9, t10⟩ := cells11 x0; go_simp) ?_
          simp only [Act.put]
          refine anyL_one (i := 10) (by kernel_rfl) ?_
          refine wpOp_step rfl (fun K1 hK1 => ?_)
          go_simp
          refine hK1 _ _ ⟨fun _ => HS0.out.2, ?_⟩
          refine anyL_one (i := 11) (by kernel_rfl) ?_
          refine wpOp_step rfl (fun K2 hK2 => ?_)
          refine step_append_g Tryz.underlying31 info_trD rfl (by decide) rfl (.tmp 91) (.tmp 93) rfl W7.heap.size (.slice p8 nW c8) nW (rowV trD (whP x)) rfl HO9.out HWg.out.1 w8.heap.size 1 1 (rowV trD [({ tmO o with a := (nW : Int) - 1 } : Trm)]) rfl rfl HC9.out (rowV_one trD_one _) (by omega) (by omega) ?_
          intro v10 w10 ho10 hg10
          have hbb := orow_grown HO9.out hg10 HWg.out.1
          have HB10 : Hid (Below wr.heap.size wr w10) := HBr.out.trans (hbb.mono HWg.out.2.2.1)
          have HS10 : Hid (SBk g t n' vy hy #[.int .i64 (oTm o.kind), .int .i64 ((nW : Int) - 1), .int .i64 0, .int .u64 o.x, .int .u64 o.y, .int .i64 o.day, .int .i64 o.to, .int .i64 o.cur, .int .i64 o.count, .int .i64 o.n, .int .i64 o.months] w10) := ⟨(hbb.block t HWg.out.2.2.2).trans HS0.out.2.1, Hc2.out w10 HB10.out⟩
          have HO10 := hidD (orow_lower ho10 HWg.out.2.1)
          obtain ⟨p10, c10, g10, hv10, _, _, hp10, _⟩ := orow_src ho10
          obtain rfl := hp10 (by omega)
          subst hv10
          clear ho10 hg10 hbb
          refine hK2 _ _ ⟨fun _ => HS10.out, ?_⟩
          simp only [Act.put]
          refine anyL_one (i := 12) (by kernel_rfl) ?_
          refine wpOp_step rfl (fun K6 hK6 => ?_)
          go_simp
          refine hK6 _ _ ⟨fun _ => HS10.out, ?_⟩
          refine anyL_one (i := 13) (by kernel_rfl) ?_
          refine wpOp_step rfl (fun K3 hK3 => ?_)
          go_simp
          refine (HJ.out w10 _ c10 HB10.out HO10.out).mono ?_
          rintro e w6 ⟨⟨p', c', rfl, yf, y0, y1, y2, y3, y4⟩, hb6⟩
          have H7 := hidD (And.intro y2 y3)
          obtain ⟨w7, hw7⟩ : ∃ w7, put2 w6 g n' (.slice p' L' c') (.bool true) = w7 := ⟨_, rfl⟩
          rw [hw7] at H7 y4
          have f0 := yf (n' * 2)
          have f1 := yf (n' * 2 + 1)
          unfold put2 at hw7
          clear y2 y3 yf
          have HS6 : Hid (SBk g t n' vy hy #[.int .i64 (oTm o.kind), .int .i64 ((nW : Int) - 1), .int .i64 0, .int .u64 o.x, .int .u64 o.y, .int .i64 o.day, .int .i64 o.to, .int .i64 o.cur, .int .i64 o.count, .int .i64 o.n, .int .i64 o.months] w6) := ⟨(hb6.block t (lt_of_blk HS10.out.1)).trans HS10.out.1, y0, y1⟩
          clear hb6
          refine hK3 _ _ ⟨fun _ => HS6.out, ?_⟩
          refine anyL_one (i := 14) (by kernel_rfl) ?_
          refine wpOp_step rfl (fun K4 hK4 => ?_)
          go_simp
          refine hK4 _ _ ⟨fun _ => HS6.out, ?_⟩
          refine anyL_one (i := 15) (by kernel_rfl) ?_
          refine wpOp_step rfl (fun K5 hK5 => ?_)
          go_simp
          refine hK5 _ _ ⟨fun h => absurd h (by decide), ?_⟩
          refine anyL_done (by kernel_rfl) ?_
          go_wp2_with fail
          go_roundw
          case rel => exact ⟨k + 1, by omega, by go_num, H7.out.1, H7.out.2⟩
          case measure => simp [intOf]; omega
    · obtain rfl : k = N := by omega
      have i1 : ¬ (k : Int) < (k : Int) := by omega
      obtain ⟨x, hx1, hx2, _⟩ := HD.out
      rw [HS.out.2.1] at hx1
      have hst := HSt.out
      rw [hx1] at hst
      obtain ⟨g, cs, vx, hx, rfl, _, _, _, _, hpx, _, hcc, _⟩ := StM.last (qs := []) hst
      have q0 : wr.cell? ⟨g, 0, none⟩ = some vx := (hcc wr (Below.refl _ _)).1
      have q1 : wr.cell? ⟨g, 1, none⟩ = some (.bool hx) := (hcc wr (Below.refl _ _)).2
      have HLb2 : (bkT l).length ≤ 901 := HLb.out
      have HK2 : Hid (∀ w1 B q cq, w1.ownsRow B 64 11 (.slice q (bkT l).length cq) (bkT l).length (rowV trD (bkT l)) → Calls Tryz.prog 23 #[.slice q (bkT l).length cq] w1 fun e w' => (∃ A, e = .returned (.tuple #[.int .i64 E, .int .i64 A])) ∧ Below w1.heap.size w1 w') := fun w1 B q cq h => by
        obtain ⟨g', hg'⟩ := tds_of h rfl
        exact HK.out w1 q g' cq hg'
      have HWh : Hid (Calls Tryz.prog 31 #[.agg #[vx, .bool hx]] wr fun e w5 => (∃ pw cw, e = .returned (.agg #[.slice pw (bkT l).length cw, .bool true]) ∧ w5.ownsRow w.heap.size 64 11 (.slice pw (bkT l).length cw) (bkT l).length (rowV trD (bkT l))) ∧ Below wr.heap.size wr w5) :=
        (r18Whole_any w.heap.size x vx hx wr hpx HB.out.size).mono fun e w5 ⟨⟨v', he, ho⟩, hb⟩ => by
          rw [hx2] at ho
          obtain ⟨pw, cw, _, rfl, _⟩ := orow_src ho
          exact ⟨⟨pw, cw, he, ho⟩, hb⟩
      obtain ⟨nT, hnT⟩ : ∃ nT, (bkT l).length = nT := ⟨_, rfl⟩
      have HnT := hidD hnT
      rw [hnT] at HWh HK2 HLb2
      have i5 : ¬ (1024 : Int) < (nT : Int) := by omega
      clear hnT HK HD hcc hpx hst hx1 hx2 HSt HLb HS
      simp only [List.length_nil, Nat.zero_add]
      go_wp2_with fail
      refine HWh.out.mono ?_
      rintro e w5 ⟨⟨pw, cw, rfl, ho⟩, hb⟩
      have H5 := hidD (And.intro ho (HB.out.trans (hb.mono HB.out.size)))
      clear ho hb q0 q1
      have hf0 := fieldP0
      go_wp2_with fail
      refine (HK2.out _ _ _ _ H5.out.1).mono ?_
      rintro e w6 ⟨⟨A', rfl⟩, hb⟩
      have H6 := hidD (And.intro (orow_below H5.out.1 hb) (H5.out.2.trans (hb.mono H5.out.2.size)))
      clear hb
      by_cases hE : E = 0
      · subst hE
        go_wp2_with fail
        go_ret2
        exact ⟨.yes _ rfl (by rw [HnT.out]; exact H6.out.1), H6.out.2⟩
      · have z : (E != 0) = true := bne_iff_ne.2 hE
        have HE := hidD hE
        clear hE
        go_wp2_with fail
        go_ret2
        exact ⟨.no HE.out, H6.out.2⟩
end Go.Proofs.YtienedhaogjahaaGreatDoor
namespace Go.Proofs.YtienedhaogjahaaGreatDoor
open Go.RowKit

set_option maxRecDepth 20000 in
set_option maxHeartbeats 6400000 in
theorem r18Back_bad {l : List Opr} {M E A : Int} (hm : MeaR l M E A) (hE : E ≠ 0) (n : Nat) (p : Option Addr) (b off c : Nat) (w : World) (hs : DSrc w p b off l) (hn : l.length = n) (hu : ∀ i < l.length, OpU (l.getD i opr0)) (hl : n ≤ 9223372036854775807) :
    Calls Tryz.prog 13 #[.slice p n c] w fun e w' => e = .returned (.tuple #[.slice none 0 0, .int .i64 E]) ∧ Below w.heap.size w w' := by
  have HC : Hid (Calls Tryz.prog 27 #[.slice p n c] w fun e w' => e = .returned (.tuple #[.int .i64 E, .int .i64 A]) ∧ Below w.heap.size w w') := (r18Check_any l n p b off c w hs hn (by rw [← hn]; exact hu) hl).mono fun e w' ⟨M', E', A', he, hm', hb⟩ => by
    obtain ⟨rfl, rfl, rfl⟩ := hm.unique hm'
    exact ⟨he, hb⟩
  have z : (E != 0) = true := bne_iff_ne.2 hE
  clear hm hE hs hn hu hl
  go_enter Tryz.func13, Tryz.ntmps13
  go_wp2_with fail
  refine HC.out.mono ?_
  rintro e w1 ⟨rfl, hb⟩
  have HB := hidD hb
  clear hb
  go_wp2_with fail
  go_ret2
  exact ⟨rfl, HB.out⟩
theorem r18Back_is {l : List Opr} {M : Int} (hm : MeaR l M 0 0) {D E A : Int} (ht : MesR (bkT l) D E A) (N : Nat) (p : Option Addr) (b0 off c : Nat) (w : World) (hs : DSrc w p b0 off l) (hN : l.length = N) (hN3 : N ≤ 300) (hu : ∀ i < l.length, OpU (l.getD i opr0)) :
    Calls Tryz.prog 13 #[.slice p N c] w fun e w' => BkD w.heap.size (bkT l) E w' e ∧ Below w.heap.size w w' := by
  have hlen := bk_len (mea_ok hm).1
  exact r18Back_ok hm N p b0 off c w hs hN hN3 hu fun w1 q g cq h => (r17Check_is ht (bkT l).length q g 0 cq w1 h rfl (bk_tru hu) (by omega)).mono fun e w' ⟨he, hb⟩ => ⟨⟨_, he⟩, hb⟩
end Go.Proofs.YtienedhaogjahaaGreatDoor
namespace Go.Proofs.YtienedhaogjahaaGreatDoor
open Go.RowKit

theorem first_not (P : Nat → Prop) : ∀ n, (∀ i < n, P i) ∨ ∃ k, k < n ∧ ¬ P k ∧ ∀ i < k, P i
  | 0 => .inl fun i h => by omega
  | n + 1 => by
    rcases first_not P n with h | ⟨k, hk, h1, h2⟩
    · by_cases hp : P n
      · exact .inl fun i hi => by
          by_cases e : i = n
          · rw [e]; exact hp
          · exact h i (by omega)
      · exact .inr ⟨n, by omega, hp, h⟩
    · exact .inr ⟨k, by omega, h1, h2⟩
theorem meaR_ex (l : List Opr) : ∃ M E A, MeaR l M E A := by
  by_cases hl : 8192 < l.length
  · exact ⟨_, _, _, .long hl⟩
  · rcases first_not (fun i => badO (l.getD i opr0) (mkN l i) = 0) l.length with h | ⟨k, hk, h1, h2⟩
    · by_cases hm : 0 < mkN l l.length
      · exact ⟨_, _, _, .left (by omega) h hm⟩
      · exact ⟨_, _, _, .fine (by omega) h hm⟩
    · exact ⟨_, _, _, .bad k _ (by omega) hk h2 rfl h1⟩
end Go.Proofs.YtienedhaogjahaaGreatDoor
