/- slices.Concat of three rows of ints, slices.Reverse of a row of ints. The contract of sched's Dates. The contract of sched's Dates, back. The contract of sched's Dates, forth. sched's Dates of any schedule. -/
import Derived.Test.YtphnainibdepbaaGreatHao
import Derived.Test.YtphnainibdepbaaGreatSdShelf
namespace Go.Proofs.YtphnainibdepbaaGreat
open Go.RowKit

theorem wpList_append_ints (w : World) {ops : Array Oper} {rest : List Oper} {o : Oper} {a : Act} {Q : Exit → Act → World → Prop} (hgd : o.guard = none) (s x : Operand)
    (ho : o.op = .call { callee := .builtin .append, args := #[s, x], argTypes := #[31, 31] })
    (base : Nat) (v : Value) (n : Nat) (xs : List Int) (hs : a.eval s = v) (hown : w.ownsRow base 3 1 v n (xs.map iV))
    (p : Option Addr) (b off c m : Nat) (ys : List Int) (hx : a.eval x = .slice p m c) (hm : ys.length = m) (hsrc : ISrc w p b off ys) (hnil : p = none → m = 0 ∧ c = 0) (hn : n ≤ 100000) (hm2 : m ≤ 100000) (hbase : base ≤ w.heap.size)
    (h : ∀ v' w', w'.ownsRow base 3 1 v' (n + m) ((xs ++ ys).map iV) → w.grownBy w' v.ownBlock → wpList Tryz.prog ops Q rest (a.put o.dst v') w') : wpList Tryz.prog ops Q (o :: rest) a w := by
  obtain ⟨i0, hi, hz0, hz1, hz2⟩ := info_parts info_int
  cases p with
  | none =>
    obtain ⟨rfl, rfl⟩ := hnil rfl
    refine wpList_append_own_none hgd s x 31 ho base 3 i0 1 Tryz.underlying31 hi v n (xs.map iV) hs hown hx (h v w ?_ ⟨rfl, rfl, rfl, Nat.le_refl _, fun _ _ _ => rfl⟩)
    rw [List.length_eq_zero_iff.1 hm, List.append_nil]; exact hown
  | some ad =>
    refine wpList_append_own w hgd s x 31 ho base 3 i0 (.int .i64 0) 1 8 Tryz.underlying31 hi hz0 hz1 hz2 rfl (by decide) v n (xs.map iV) hs hown ad m c (ys.map iV) hx (by rw [List.length_map, hm, Nat.mul_one]) ?_ (fun u hu => by obtain ⟨z, _, rfl⟩ := List.mem_map.1 hu; rfl) (by unfold maxLen; omega) (by omega) hbase ?_
    · intro j u hj
      have hj1 : j < ys.length := by
        have := (List.getElem?_eq_some_iff.1 hj).1
        simpa using this
      have e := hsrc.at_ (by omega)
      obtain rfl := Option.some.inj e
      rw [Addr.add_lit, hsrc.cell j hj1]
      rw [List.getElem?_map, List.getElem?_eq_getElem hj1] at hj
      have hu : iV ys[j] = u := Option.some.inj hj
      rw [← hu, List.getD_eq_getElem?_getD, List.getElem?_eq_getElem hj1]; rfl
    · intro v' w' h1 h2 _
      refine h v' w' ?_ h2
      rw [List.map_append]; exact h1

theorem growI_nil (n : Nat) (w : World) (h0 : 0 < n) (hn : n ≤ 100000) :
    Calls Tryz.prog 87 #[.slice none 0 0, .int .i64 n] w fun e w' => ∃ v', e = .returned v' ∧ w'.ownsRow w.heap.size 3 1 v' 0 (([] : List Int).map iV) ∧ Below w.heap.size w w' := by
  obtain ⟨i0, hi, hz0, hz1, hz2⟩ := info_parts info_int
  have hg := Any8.slices_Grow_grow Tryz.growI i0 (.int .i64 0) hi hz0 (by rw [hz1]; decide) none 0 0 n [] w (Nat.le_refl _) (by omega) (by rw [hz2]; omega) (by omega) (by simp) (fun _ => rfl) (fun a ha => by cases ha)
  refine Calls.mono hg ?_
  rintro e w' ⟨rfl, rfl⟩
  refine ⟨_, rfl, ⟨by simp, .inr ⟨w.heap.size, _, _, rfl, Nat.le_refl _, heap_alloc_new w.drew _, ?_, ?_, ?_, ?_⟩⟩, ?_⟩
  · exact Nat.zero_le _
  · exact grownCap_le_maxLen w _ _ _ (by unfold maxLen; omega)
  · have := grownCap_ge w (0 + n) 0 (Tryz.growI_ren.t 25)
    simp only [Array.size_append, List.size_toArray, size_zeroCells, List.length_nil, show (Value.int IntKind.i64 0).cells.size = 1 from rfl, Nat.mul_one]
    omega
  · rw [Nat.zero_mul, List.take_zero]; rfl
  · exact (Below.refl w.heap.size w).drew.alloc (Nat.le_refl _) _

structure ConcS (B gA p1 p3 g : Nat) (q : Option Addr) (C c : Nat) (x z : Int) (L : List Int) (w : World) : Prop where
  a0 : w.cell? ⟨gA, 0, none⟩ = some (.slice (some ⟨p1, 0, none⟩) 1 1)
  a1 : w.cell? ⟨gA, 1, none⟩ = some (.slice q C c)
  a2 : w.cell? ⟨gA, 2, none⟩ = some (.slice (some ⟨p3, 0, none⟩) 1 1)
  b1 : w.cell? ⟨p1, 0, none⟩ = some (.int .i64 x)
  b3 : w.cell? ⟨p3, 0, none⟩ = some (.int .i64 z)
  src : ISrc w q g 0 L
  la : gA < B
  l1 : p1 < B
  l3 : p3 < B
  lg : 0 < L.length → g < B
theorem ConcS.step {B gA p1 p3 g : Nat} {q : Option Addr} {C c : Nat} {x z : Int} {L : List Int} {w w' : World} (h : ConcS B gA p1 p3 g q C c x z L w) (hb : Below B w w') : ConcS B gA p1 p3 g q C c x z L w' :=
  ⟨(hb.cell (p := ⟨gA, 0, none⟩) h.la).trans h.a0, (hb.cell (p := ⟨gA, 1, none⟩) h.la).trans h.a1, (hb.cell (p := ⟨gA, 2, none⟩) h.la).trans h.a2, (hb.cell (p := ⟨p1, 0, none⟩) h.l1).trans h.b1, (hb.cell (p := ⟨p3, 0, none⟩) h.l3).trans h.b3, h.src.stay hb h.lg, h.la, h.l1, h.l3, h.lg⟩
theorem one_src {w : World} {p : Nat} {x : Int} (h : w.cell? ⟨p, 0, none⟩ = some (.int .i64 x)) (hl : p < w.heap.size) : ISrc w (some ⟨p, 0, none⟩) p 0 [x] :=
  ⟨fun _ => rfl, fun _ => hl, fun j hj => by
    obtain rfl : j = 0 := by simpa using hj
    exact h⟩

set_option maxRecDepth 10000 in
set_option maxHeartbeats 6400000 in
theorem concat_three (gA p1 p3 g : Nat) (q : Option Addr) (C c : Nat) (x z : Int) (L : List Int) (w : World) (h : ConcS w.heap.size gA p1 p3 g q C c x z L w) (hL : L.length = C) (hnil : q = none → C = 0 ∧ c = 0) (hC : C ≤ 5000) :
    Calls Tryz.prog 62 #[.slice (some ⟨gA, 0, none⟩) 3 3] w fun e w' => (∃ v, e = .returned v ∧ w'.ownsRow w.heap.size 3 1 v (C + 2) ((x :: (L ++ [z])).map iV)) ∧ Below w.heap.size w w' := by
  have HC := hideS h
  have HGr := hideS (fun wx => growI_nil (C + 2) wx (by omega) (by omega))
  have HLn := hideS hL
  have HNl := hideS hnil
  clear h hL hnil
  have HE : Hid ((([] : List Int) ++ [x]) = [x] ∧ [x] ++ L = x :: L ∧ (x :: L) ++ [z] = x :: (L ++ [z])) := ⟨rfl, rfl, rfl⟩
  obtain ⟨a0, a1, a2, _, _, _, _, _, _, _⟩ := HC.out
  go_enter Tryz.func62, Tryz.ntmps62
  go_wp2_with fail
  go_loopw [3, 11] (fun sz i wr => ∃ (I S : Int), i = .int .i64 I ∧ sz = .int .i64 S ∧ Hid ((I = 0 ∧ S = 0) ∨ (I = 1 ∧ S = 1) ∨ (I = 2 ∧ S = (C : Int) + 1) ∨ (I = 3 ∧ S = (C : Int) + 2)) ∧ wr = w) (fun _ i _ => (3 - intOf i).toNat)
  case atStart => exact ⟨0, 0, rfl, rfl, Or.inl ⟨rfl, rfl⟩, rfl⟩
  case round =>
    obtain ⟨I, S, rfl, rfl, HIS, hw⟩ := hrel
    have hw' := hw.symm
    subst hw'
    rcases HIS.out with ⟨rfl, rfl⟩ | ⟨rfl, rfl⟩ | ⟨rfl, rfl⟩ | ⟨rfl, rfl⟩
    · go_wp2_with fail
      go_roundw
      case rel => exact ⟨1, 1, rfl, rfl, Or.inr (Or.inl ⟨rfl, rfl⟩), by first | trivial | rfl⟩
      case measure => simp [intOf]
    · go_wp2_with fail
      go_roundw
      case rel => exact ⟨2, _, rfl, rfl, Or.inr (Or.inr (Or.inl ⟨rfl, by omega⟩)), by first | trivial | rfl⟩
      case measure => simp [intOf]
    · go_wp2_with fail
      go_roundw
      case rel => exact ⟨3, _, rfl, rfl, Or.inr (Or.inr (Or.inr ⟨rfl, by omega⟩)), by first | trivial | rfl⟩
      case measure => simp [intOf]
    · have e2 : (C : Int) + 2 = ((C + 2 : Nat) : Int) := by omega
      rw [← e2] at HGr
      clear e2
      go_wp2_with (go_at_call 87; refine (HGr.out _).mono ?_; rintro e w1 ⟨v1, rfl, ho1, hb1⟩)
      have HO1 := hideS ho1
      have HC1 := hideS (HC.out.step hb1)
      have HB1 := hideS hb1
      clear ho1 hb1 a0 a1 a2
      go_loopw [6, 27] (fun vn i wx => ∃ (I : Int) (n : Nat) (xs : List Int), i = .int .i64 I ∧ n ≤ 6000 ∧ Hid ((I = 0 ∧ n = 0 ∧ xs = []) ∨ (I = 1 ∧ n = 1 ∧ xs = [x]) ∨ (I = 2 ∧ n = 1 + C ∧ xs = x :: L) ∨ (I = 3 ∧ n = C + 2 ∧ xs = x :: (L ++ [z]))) ∧ Hid (wx.ownsRow w.heap.size 3 1 vn n (xs.map iV)) ∧ Hid (ConcS w.heap.size gA p1 p3 g q C c x z L wx) ∧ Hid (Below w.heap.size w wx)) (fun _ i _ => (3 - intOf i).toNat)
      case atStart => exact ⟨0, 0, [], rfl, by omega, Or.inl ⟨rfl, rfl, rfl⟩, HO1, HC1, HB1⟩
      case round =>
        clear HO1 HC1 HB1
        obtain ⟨I, n, xs, rfl, hn, HX, HO, HC2, HB⟩ := hrel
        obtain ⟨a0, a1, a2, b1, b3, src, la, l1, l3, lg⟩ := HC2.out
        have HSr := hideS src
        have hsz := HB.out.size
        have HZ := hideS hsz
        clear src lg
        rcases HX.out with ⟨rfl, rfl, rfl⟩ | ⟨rfl, rfl, rfl⟩ | ⟨rfl, rfl, rfl⟩ | ⟨rfl, rfl, rfl⟩
        · go_wp2_with (at_builtin; refine wpList_append_ints _ rfl (.tmp 31) (.tmp 32) rfl w.heap.size _ 0 [] rfl HO.out (some ⟨p1, 0, none⟩) p1 0 1 1 [x] rfl rfl (one_src b1 (by omega)) (fun e => by cases e) (by omega) (by omega) HZ.out ?_; intro v5 w5 ho5 hg5; have hbl := igrown_below HO.out hg5 HZ.out; have HC5 := hideS (HC2.out.step hbl); have HB5 := hideS (HB.out.trans hbl); have HO5 := hideS ho5; clear ho5 hg5 hbl)
          go_roundw
          case rel => exact ⟨1, 1, [x], rfl, by omega, Or.inr (Or.inl ⟨rfl, rfl, rfl⟩), HO5, HC5, HB5⟩
          case measure => simp [intOf]
        · go_wp2_with (at_builtin; refine wpList_append_ints _ rfl (.tmp 31) (.tmp 32) rfl w.heap.size _ 1 [x] rfl HO.out q g 0 c C L rfl HLn.out HSr.out HNl.out (by omega) (by omega) HZ.out ?_; intro v5 w5 ho5 hg5; have hbl := igrown_below HO.out hg5 HZ.out; have HC5 := hideS (HC2.out.step hbl); have HB5 := hideS (HB.out.trans hbl); have HO5 := hideS ho5; clear ho5 hg5 hbl)
          go_roundw
          case rel => exact ⟨2, 1 + C, x :: L, rfl, by omega, Or.inr (Or.inr (Or.inl ⟨rfl, rfl, rfl⟩)), HO5, HC5, HB5⟩
          case measure => simp [intOf]
        · go_wp2_with (at_builtin; refine wpList_append_ints _ rfl (.tmp 31) (.tmp 32) rfl w.heap.size _ (1 + C) (x :: L) rfl HO.out (some ⟨p3, 0, none⟩) p3 0 1 1 [z] rfl rfl (one_src b3 (by omega)) (fun e => by cases e) (by omega) (by omega) HZ.out ?_; intro v5 w5 ho5 hg5; have hbl := igrown_below HO.out hg5 HZ.out; have HC5 := hideS (HC2.out.step hbl); have HB5 := hideS (HB.out.trans hbl); have HO5 := hideS ho5; clear ho5 hg5 hbl)
          go_roundw
          case rel => exact ⟨3, C + 2, x :: (L ++ [z]), rfl, by omega, Or.inr (Or.inr (Or.inr ⟨rfl, rfl, rfl⟩)), by have := HO5.out; rw [show 1 + C + 1 = C + 2 by omega] at this; exact this, HC5, HB5⟩
          case measure => simp [intOf]
        · go_wp2_with fail
          go_ret
          refine ⟨⟨_, rfl, ?_⟩, HB.out⟩
          have := HO.out
          rw [List.map_cons, List.map_append] at this
          exact this

theorem reverse_nil (c : Nat) (w : World) : Calls Tryz.prog 61 #[.slice none 0 c] w fun e w' => e = .returned (.tuple #[]) ∧ w' = w := by
  go_enter Tryz.func61, Tryz.ntmps61
  go_wp2_with fail
  go_loopw [2, 3] (fun a b wr => a = .int .i64 0 ∧ b = .int .i64 (-1) ∧ wr = w) (fun _ _ _ => 0)
  case atStart => exact ⟨rfl, rfl, rfl⟩
  case round =>
    obtain ⟨rfl, rfl, hw⟩ := hrel
    have hw' := hw.symm
    subst hw'
    go_wp2_with fail
    go_end0
    exact ⟨rfl, rfl⟩

theorem oneCell_i : OneCell iV := fun _ => rfl
theorem reverse_row (g c B : Nat) (xs : List Int) (w : World) (hB : B ≤ g) (hg : xs.length ≤ 100000) (hb : ∃ cur, w.heap[g]? = some (.cells cur 3 (0, 0)) ∧ xs.length ≤ cur.size ∧ ∀ j, j < xs.length → cur[j]? = some (iV (xs.getD j 0))) :
    Calls Tryz.prog 61 #[.slice (some ⟨g, 0, none⟩) xs.length c] w fun e w' => e = .returned (.tuple #[]) ∧ ISrc w' (some ⟨g, 0, none⟩) g 0 xs.reverse ∧ Below B w w' := by
  obtain ⟨cur, hh, hl, hc⟩ := hb
  have hgs : g < w.heap.size := (Array.getElem?_eq_some_iff.1 hh).1
  have hcell : ∀ j, j < xs.length → w.cell? ⟨g, 0 + j, none⟩ = some (iV (xs.getD j 0)) := fun j hj => by
    rw [Nat.zero_add]
    simp only [World.cell?, hh, Option.isSome_none, Bool.false_eq_true, if_false]
    exact hc j hj
  have hH : Go.Sort.Holds iV w g 0 xs.toArray := by
    intro j hj
    have hj' : j < xs.length := by simpa using hj
    refine ⟨?_, by simp [World.frozen?, hh]⟩
    rw [hcell j hj']
    congr 2
    simp [List.getD, hj']
  refine Calls.mono (AnyE.slices_Reverse Tryz.revL iV oneCell_i g 0 c xs w hH (by omega)) ?_
  rintro e w' ⟨rfl, n, rfl⟩
  have hnew : (Go.Sort.putRow iV (Go.Sort.ahead w n) g 0 xs.reverse.toArray).heap[g]? = some (.cells (Go.Sort.putCells iV 0 xs.reverse.toArray cur) 3 (0, 0)) := by
    simp [Go.Sort.putRow, Go.Sort.mapBlock, Go.Sort.ahead, Array.getElem?_modify, hh, Go.Sort.onCells]
  refine ⟨rfl, ⟨fun _ => rfl, fun _ => (Array.getElem?_eq_some_iff.1 hnew).1, fun j hj => ?_⟩, ?_⟩
  · have hj' : j < xs.length := by simpa using hj
    rw [Nat.zero_add]
    simp only [World.cell?, hnew, Option.isSome_none, Bool.false_eq_true, if_false]
    simp [Go.Sort.putCells, hj', show j < cur.size by omega, iV, List.getD]
  · have hgr : w.grownBy (Go.Sort.putRow iV (Go.Sort.ahead w n) g 0 xs.reverse.toArray) (some g) := by
      refine ⟨rfl, rfl, rfl, by simp [Go.Sort.putRow, Go.Sort.mapBlock, Go.Sort.ahead], fun k hk hne => ?_⟩
      have : g ≠ k := fun e => hne (by rw [e])
      simp [Go.Sort.putRow, Go.Sort.mapBlock, Go.Sort.ahead, Array.getElem?_modify, this]
    by_cases hBs : B ≤ w.heap.size
    · exact (Below.refl B w).grown hgr hBs (fun k hk => by rw [← Option.some.inj hk]; exact hB)
    · omega
end Go.Proofs.YtphnainibdepbaaGreat
namespace Go.Proofs.YtphnainibdepbaaGreat
open Go.RowKit

def RowR (w : World) (g : Nat) (xs : List Int) : Prop := ∃ cur, w.heap[g]? = some (.cells cur 3 (0, 0)) ∧ xs.length ≤ cur.size ∧ ∀ j, j < xs.length → cur[j]? = some (iV (xs.getD j 0))
theorem RowR.stay {w w' : World} {g B : Nat} {xs : List Int} (h : RowR w g xs) (hb : Below B w w') (hg : g < B) : RowR w' g xs := by
  obtain ⟨cur, h1, h2⟩ := h
  exact ⟨cur, by rw [hb.block g hg]; exact h1, h2⟩
theorem RowR.src {w : World} {g : Nat} {xs : List Int} (h : RowR w g xs) : ISrc w (some ⟨g, 0, none⟩) g 0 xs := by
  obtain ⟨cur, hh, hl, hc⟩ := h
  refine ⟨fun _ => rfl, fun _ => (Array.getElem?_eq_some_iff.1 hh).1, fun j hj => ?_⟩
  rw [Nat.zero_add]
  simp only [World.cell?, hh, Option.isSome_none, Bool.false_eq_true, if_false]
  exact hc j hj
theorem RowR.pre {w : World} {g : Nat} {xs ys : List Int} (h : RowR w g xs) (hl : ys.length ≤ xs.length) (he : ∀ j, j < ys.length → ys.getD j 0 = xs.getD j 0) : RowR w g ys := by
  obtain ⟨cur, h1, h2, h3⟩ := h
  exact ⟨cur, h1, Nat.le_trans hl h2, fun j hj => by rw [he j hj]; exact h3 j (Nat.lt_of_lt_of_le hj hl)⟩
theorem iown_kinds {w : World} {base K c : Nat} {q : Option Addr} {xs : List Int} (h : w.ownsRow base 3 1 (.slice q K c) K (xs.map iV)) (hx : xs.length = K) :
    (q = none ∧ K = 0 ∧ c = 0) ∨ ∃ g, q = some ⟨g, 0, none⟩ ∧ base ≤ g ∧ g < w.heap.size ∧ K ≤ c ∧ c ≤ 9223372036854775807 ∧ RowR w g xs := by
  rcases h.2 with ⟨hv, h0⟩ | ⟨g, cap, cur, hv, hg, hh, hnc, hcm, hsz, htk⟩
  · injection hv with e1 e2 e3
    exact Or.inl ⟨e1, e2, e3⟩
  · injection hv with e1 e2 e3
    subst e3
    refine Or.inr ⟨g, e1, hg, (Array.getElem?_eq_some_iff.1 hh).1, hnc, by unfold maxLen at hcm; omega, cur, hh, by omega, fun j hj => ?_⟩
    have hj2 : j < K * 1 := by omega
    have := congrArg (fun l => l[j]?) htk
    simp only [List.getElem?_map, List.getElem?_eq_getElem hj, List.getElem?_take_of_lt hj2] at this
    rw [List.getD_eq_getElem?_getD, List.getElem?_eq_getElem hj]
    rw [← Array.getElem?_toList]
    exact this

theorem heap_size_alloc1 (w : World) (o : Obj) : (w.alloc o).heap.size = w.heap.size + 1 := by simp
theorem concS_new (w : World) (st en : Int) (q : Option Addr) (g C c : Nat) (L : List Int) (h : ISrc w q g 0 L) :
    ConcS (((w.alloc (.cells #[.int .i64 st] 3)).alloc (.cells #[.int .i64 en] 3)).alloc (.cells #[.slice (some ⟨w.heap.size, 0, none⟩) 1 1, .slice q C c, .slice (some ⟨w.heap.size + 1, 0, none⟩) 1 1] 31)).heap.size (w.heap.size + 2) w.heap.size (w.heap.size + 1) g q C c st en L (((w.alloc (.cells #[.int .i64 st] 3)).alloc (.cells #[.int .i64 en] 3)).alloc (.cells #[.slice (some ⟨w.heap.size, 0, none⟩) 1 1, .slice q C c, .slice (some ⟨w.heap.size + 1, 0, none⟩) 1 1] 31)) := by
  have hb : Below w.heap.size w (((w.alloc (.cells #[.int .i64 st] 3)).alloc (.cells #[.int .i64 en] 3)).alloc (.cells #[.slice (some ⟨w.heap.size, 0, none⟩) 1 1, .slice q C c, .slice (some ⟨w.heap.size + 1, 0, none⟩) 1 1] 31)) :=
    (((Below.refl w.heap.size w).alloc (Nat.le_refl _) _).alloc (by rw [heap_size_alloc1]; omega) _).alloc (by rw [heap_size_alloc1, heap_size_alloc1]; omega) _
  have e1 : (w.alloc (.cells #[.int .i64 st] 3)).heap.size = w.heap.size + 1 := by simp
  have e2 : ((w.alloc (.cells #[.int .i64 st] 3)).alloc (.cells #[.int .i64 en] 3)).heap.size = w.heap.size + 2 := by simp
  have n1 : ∀ k, (w.alloc (.cells #[.int .i64 st] 3)).cell? ⟨w.heap.size, k, none⟩ = (#[.int .i64 st] : Array Value)[k]? := fun k => new_cell0 w _ _ k
  have n2 : ∀ k, ((w.alloc (.cells #[.int .i64 st] 3)).alloc (.cells #[.int .i64 en] 3)).cell? ⟨w.heap.size + 1, k, none⟩ = (#[.int .i64 en] : Array Value)[k]? := fun k => by
    have := new_cell0 (w.alloc (.cells #[.int .i64 st] 3)) #[.int .i64 en] 3 k
    rw [e1] at this; exact this
  have n3 : ∀ k, (((w.alloc (.cells #[.int .i64 st] 3)).alloc (.cells #[.int .i64 en] 3)).alloc (.cells #[.slice (some ⟨w.heap.size, 0, none⟩) 1 1, .slice q C c, .slice (some ⟨w.heap.size + 1, 0, none⟩) 1 1] 31)).cell? ⟨w.heap.size + 2, k, none⟩ = (#[.slice (some ⟨w.heap.size, 0, none⟩) 1 1, .slice q C c, .slice (some ⟨w.heap.size + 1, 0, none⟩) 1 1] : Array Value)[k]? := fun k => by
    have := new_cell0 ((w.alloc (.cells #[.int .i64 st] 3)).alloc (.cells #[.int .i64 en] 3)) #[.slice (some ⟨w.heap.size, 0, none⟩) 1 1, .slice q C c, .slice (some ⟨w.heap.size + 1, 0, none⟩) 1 1] 31 k
    rw [e2] at this; exact this
  have e3 : (((w.alloc (.cells #[.int .i64 st] 3)).alloc (.cells #[.int .i64 en] 3)).alloc (.cells #[.slice (some ⟨w.heap.size, 0, none⟩) 1 1, .slice q C c, .slice (some ⟨w.heap.size + 1, 0, none⟩) 1 1] 31)).heap.size = w.heap.size + 3 := by simp
  refine ⟨n3 0, n3 1, n3 2, ?_, ?_, h.below hb, by omega, by omega, by omega, fun hx => by have := h.lt hx; omega⟩
  · rw [old_cell _ _ (by rw [e2]; show w.heap.size < _; omega), old_cell _ _ (by rw [e1]; show w.heap.size < _; omega)]; exact n1 0
  · rw [old_cell _ _ (by rw [e2]; show w.heap.size + 1 < _; omega)]; exact n2 0
theorem three_belowS (w : World) (a b c : Obj) : Below w.heap.size w (((w.alloc a).alloc b).alloc c) :=
  (((Below.refl w.heap.size w).alloc (Nat.le_refl _) _).alloc (by rw [heap_size_alloc1]; omega) _).alloc (by rw [heap_size_alloc1, heap_size_alloc1]; omega) _

structure DatP (s : Spc) (W : Int) (v : Value) (K C : Nat) (il : Nat → List Int) (ev bk : Bool) (L : List Int) (w : World) : Prop where
  chk : ∀ wx, Below w.heap.size w wx → Calls Tryz.prog 58 #[.agg #[.int .i64 s.st, .int .i64 s.en, .int .i64 s.n, .int .i64 s.unit, .int .i64 s.stub, .int .i64 s.roll, .int .i64 s.conv, .int .i64 s.lag, .int .i64 W, v]] wx fun e w' => e = .returned (.int .i64 0) ∧ Below wx.heap.size wx w'
  bet : ∀ wx, Calls Tryz.prog 59 #[.agg #[.int .i64 s.st, .int .i64 s.en, .int .i64 s.n, .int .i64 s.unit, .int .i64 s.stub, .int .i64 s.roll, .int .i64 s.conv, .int .i64 s.lag, .int .i64 W, v]] wx fun e w' => BetG il ev K wx e w' ∧ Below wx.heap.size wx w'
  stf : ∀ wx, Calls Tryz.prog 60 #[.agg #[.int .i64 s.st, .int .i64 s.en, .int .i64 s.n, .int .i64 s.unit, .int .i64 s.stub, .int .i64 s.roll, .int .i64 s.conv, .int .i64 s.lag, .int .i64 W, v]] wx fun e w' => e = .returned (.bool bk) ∧ Below wx.heap.size wx w'
  len : ∀ k, (il k).length = k
  pre : C ≤ K → ∀ j, j < C → (il C).getD j 0 = (il K).getD j 0
  lst : L = if bk then (il C).reverse else il C
def DatQ (st en : Int) (K C : Nat) (L : List Int) (w : World) (e : Ending) (w' : World) : Prop :=
  (1200 ≤ K ∧ e = .returned (.tuple #[.slice none 0 0, .int .i64 81])) ∨ (K < 1200 ∧ ∃ u, e = .returned (.tuple #[u, .int .i64 0]) ∧ w'.ownsRow w.heap.size 3 1 u (C + 2) ((st :: (L ++ [en])).map iV))

set_option maxHeartbeats 3200000 in
theorem schDates_many (s : Spc) (W : Int) (v : Value) (K C : Nat) (il : Nat → List Int) (ev bk : Bool) (L : List Int) (w : World) (H : Hid (DatP s W v K C il ev bk L w)) (hK : 1200 ≤ K) :
    Calls Tryz.prog 42 #[.agg #[.int .i64 s.st, .int .i64 s.en, .int .i64 s.n, .int .i64 s.unit, .int .i64 s.stub, .int .i64 s.roll, .int .i64 s.conv, .int .i64 s.lag, .int .i64 W, v]] w fun e w' => DatQ s.st s.en K C L w e w' ∧ Below w.heap.size w w' := by
  have HB0 := hideS (SBox.zero w s W v)
  have HCh := hideS H.out.chk
  have HBt : Hid (∀ wx, Calls Tryz.prog 59 #[.agg #[.int .i64 s.st, .int .i64 s.en, .int .i64 s.n, .int .i64 s.unit, .int .i64 s.stub, .int .i64 s.roll, .int .i64 s.conv, .int .i64 s.lag, .int .i64 W, v]] wx fun e w' => e = .returned (.tuple #[.slice none 0 0, .bool false, .int .i64 81]) ∧ Below wx.heap.size wx w') := fun wx => (H.out.bet wx).mono fun e w' ⟨a, b⟩ => ⟨by rcases a with ⟨_, a⟩ | ⟨a, _⟩; exact a; omega, b⟩
  clear H
  obtain ⟨st, en, n, unit, stub, roll, conv, lag⟩ := s
  dsimp only at *
  go_enter Tryz.func42, Tryz.ntmps42
  go_wp2_with fail
  refine (HCh.out _ HB0.out.below).mono ?_
  rintro e w1 ⟨rfl, hb1⟩
  have HB1 := hideS (HB0.out.step hb1)
  clear hb1
  obtain ⟨c0, c1, c2, c3, c4, c5, c6, c7, c8, c9⟩ := HB1.out.cells
  go_wp2_with (go_at_call 59; refine (HBt.out _).mono ?_; rintro e w2 ⟨rfl, hb2⟩)
  go_ret2
  exact ⟨Or.inl ⟨hK, rfl⟩, (HB1.out.step hb2).below⟩
end Go.Proofs.YtphnainibdepbaaGreat
namespace Go.Proofs.YtphnainibdepbaaGreat
open Go.RowKit

set_option maxRecDepth 10000 in
set_option maxHeartbeats 16000000 in
theorem schDates_back (s : Spc) (W : Int) (v : Value) (K C : Nat) (il : Nat → List Int) (ev : Bool) (L : List Int) (w : World) (H : Hid (DatP s W v K C il ev true L w)) (hK : K < 1200)
    (hst : (s.stub = 1 ∧ C = K) ∨ (s.stub = 2 ∧ ev = true ∧ C = K) ∨ (s.stub = 2 ∧ ev = false ∧ K = 0 ∧ C = K) ∨ (s.stub = 2 ∧ ev = false ∧ 0 < K ∧ K = C + 1)) :
    Calls Tryz.prog 42 #[.agg #[.int .i64 s.st, .int .i64 s.en, .int .i64 s.n, .int .i64 s.unit, .int .i64 s.stub, .int .i64 s.roll, .int .i64 s.conv, .int .i64 s.lag, .int .i64 W, v]] w fun e w' => DatQ s.st s.en K C L w e w' ∧ Below w.heap.size w w' := by
  have HB0 := hideS (SBox.zero w s W v)
  have HCh := hideS H.out.chk
  have HBt : Hid (∀ wx, Calls Tryz.prog 59 #[.agg #[.int .i64 s.st, .int .i64 s.en, .int .i64 s.n, .int .i64 s.unit, .int .i64 s.stub, .int .i64 s.roll, .int .i64 s.conv, .int .i64 s.lag, .int .i64 W, v]] wx fun e w' => (∃ q c, e = .returned (.tuple #[.slice q K c, .bool ev, .int .i64 0]) ∧ w'.ownsRow (wx.heap.size + 1) 3 1 (.slice q K c) K ((il K).map iV)) ∧ Below wx.heap.size wx w') := fun wx => (H.out.bet wx).mono fun e w' ⟨a, b⟩ => ⟨by rcases a with ⟨a, _⟩ | ⟨_, a⟩; omega; exact a, b⟩
  have HSF := hideS H.out.stf
  have HLn := hideS H.out.len
  have hCK : C ≤ K := by omega
  have HPre := hideS (H.out.pre hCK)
  have HLs := hideS H.out.lst
  have HLL : Hid (L.length = C) := by
    show _ = _
    rw [HLs.out]
    simp [HLn.out C]
  have HKl := hideS hK
  clear H
  obtain ⟨st, en, n, unit, stub, roll, conv, lag⟩ := s
  dsimp only at *
  have HTail : Hid (∀ (wE : World) (b0 : Nat) (u : Value), wE.ownsRow b0 3 1 u (C + 2) ((st :: (L ++ [en])).map iV) → w.heap.size ≤ b0 → DatQ st en K C L w (.returned (.tuple #[u, .int .i64 0])) wE) := fun wE b0 u ho hb => Or.inr ⟨HKl.out, u, rfl, iown_mono ho hb⟩
  rcases hst with ⟨rfl, hC⟩ | ⟨rfl, rfl, hC⟩ | ⟨rfl, rfl, hK0, hC⟩ | ⟨rfl, rfl, hK0, hC⟩
  all_goals
    first | (have hC' := hC.symm; clear hC; subst hC') | subst hC
    go_enter Tryz.func42, Tryz.ntmps42
    go_wp2_with fail
    refine (HCh.out _ HB0.out.below).mono ?_
    rintro e w1 ⟨rfl, hb1⟩
    have HB1 := hideS (HB0.out.step hb1)
    clear hb1
    obtain ⟨c0, c1, c2, c3, c4, c5, c6, c7, c8, c9⟩ := HB1.out.cells
    go_wp2_with fail
    refine (HBt.out _).mono ?_
    rintro e w2 ⟨⟨q, c, rfl, ho⟩, hb2⟩
    have HB2 := hideS (HB1.out.step hb2)
    have hs1 : w.heap.size + 1 ≤ w1.heap.size := by have := Below.size HB1.out; simp at this; omega
    clear hb2 c0 c1 c2 c3 c4 c5 c6 c7 c8 c9
    have hk := iown_kinds ho (HLn.out _)
    clear ho HB1 HB0
    obtain ⟨c0, c1, c2, c3, c4, c5, c6, c7, c8, c9⟩ := HB2.out.cells
    rcases hk with ⟨rfl, hk0, rfl⟩ | ⟨g, rfl, hg0, hg1, hKc, hc, hrow⟩
    all_goals first | (exfalso; omega) | skip
  · subst hk0
    go_wp2_with fail
    refine (HSF.out _).mono ?_
    rintro e w3 ⟨rfl, hb3⟩
    have HB3 := hideS (HB2.out.step hb3)
    have hz2 := HB2.out.below.size
    have hz3 := Below.size HB3.out
    have hlt3 : w.heap.size < w3.heap.size := by simp at hz3; omega
    have hne3 : w.heap.size ≠ w3.heap.size := Nat.ne_of_lt hlt3
    clear hz3 hb3 c0 c1 c2 c3 c4 c5 c6 c7 c8 c9
    obtain ⟨c0, c1, c2, c3, c4, c5, c6, c7, c8, c9⟩ := HB3.out.cells
    go_wp2_with fail
    refine (reverse_nil _ _).mono ?_
    rintro e w4 ⟨rfl, hw4⟩
    have hw5 := hw4.symm
    subst hw5
    have HSr : Hid (ISrc w3 none 0 0 L) := ⟨fun h => by have := HLL.out; omega, fun h => by have := HLL.out; omega, fun j hj => by have := HLL.out; omega⟩
    have HW4 := hideS HB3.out
    go_wp2_with fail
    refine (concat_three _ _ _ 0 none 0 0 st en L _ (concS_new w3 st en none 0 0 0 L HSr.out) HLL.out (fun _ => ⟨rfl, rfl⟩) (by omega)).mono ?_
    rintro e w5 ⟨⟨u, rfl, ho5⟩, hb5⟩
    have HO5 := hideS ho5
    have HB5 : Hid (Below w.heap.size w w5) := ((HW4.out.step (three_belowS _ _ _ _)).step hb5).below
    clear ho5 hb5 c0 c1 c2 c3 c4 c5 c6 c7 c8 c9
    go_wp2_with fail
    go_ret2
    exact ⟨HTail.out _ _ _ HO5.out (by simp; omega), HB5.out⟩
  · go_wp2_with fail
    refine (HSF.out _).mono ?_
    rintro e w3 ⟨rfl, hb3⟩
    have HB3 := hideS (HB2.out.step hb3)
    have HR3 : Hid (RowR w3 g (il K)) := hrow.stay hb3 hg1
    have hz2 := HB2.out.below.size
    have hz3 := Below.size HB3.out
    have hlt3 : w.heap.size < w3.heap.size := by simp at hz3; omega
    have hne3 : w.heap.size ≠ w3.heap.size := Nat.ne_of_lt hlt3
    clear hz3 hb3 c0 c1 c2 c3 c4 c5 c6 c7 c8 c9
    clear hrow
    obtain ⟨c0, c1, c2, c3, c4, c5, c6, c7, c8, c9⟩ := HB3.out.cells
    have HRv : Hid (∀ wx, RowR wx g (il K) → Calls Tryz.prog 61 #[.slice (some ⟨g, 0, none⟩) K c] wx fun e w' => e = .returned (.tuple #[]) ∧ ISrc w' (some ⟨g, 0, none⟩) g 0 (il K).reverse ∧ Below (w.heap.size + 1) wx w') := fun wx hr => by
      have hrv := reverse_row g c (w.heap.size + 1) (il K) wx (by omega) (by have := HLn.out K; omega) hr
      rw [HLn.out K] at hrv
      exact hrv
    go_wp2_with fail
    refine (HRv.out _ HR3.out).mono ?_
    rintro e w4 ⟨rfl, hs4, hb4⟩
    have HSr : Hid (ISrc w4 (some ⟨g, 0, none⟩) g 0 L) := by show ISrc _ _ _ _ _; rw [HLs.out]; exact hs4
    have HW4 := hideS (HB3.out.stay hb4 (Nat.le_refl _))
    have hz4 := Below.size HW4.out
    have hlt4 : w.heap.size < w4.heap.size := by simp at hz4; omega
    have hne4 : w.heap.size ≠ w4.heap.size := Nat.ne_of_lt hlt4
    clear hz4 hs4 hb4 c0 c1 c2 c3 c4 c5 c6 c7 c8 c9
    obtain ⟨c0, c1, c2, c3, c4, c5, c6, c7, c8, c9⟩ := HW4.out.cells
    go_wp2_with fail
    refine (concat_three _ _ _ g (some ⟨g, 0, none⟩) K c st en L _ (concS_new w4 st en (some ⟨g, 0, none⟩) g K c L HSr.out) HLL.out (fun e => by cases e) (by omega)).mono ?_
    rintro e w5 ⟨⟨u, rfl, ho5⟩, hb5⟩
    have HO5 := hideS ho5
    have HB5 : Hid (Below w.heap.size w w5) := ((HW4.out.step (three_belowS _ _ _ _)).step hb5).below
    clear ho5 hb5 c0 c1 c2 c3 c4 c5 c6 c7 c8 c9
    go_wp2_with fail
    go_ret2
    exact ⟨HTail.out _ _ _ HO5.out (by simp; omega), HB5.out⟩
  · subst hk0
    go_wp2_with fail
    refine (HSF.out _).mono ?_
    rintro e w3 ⟨rfl, hb3⟩
    have HB3 := hideS (HB2.out.step hb3)
    have hz2 := HB2.out.below.size
    have hz3 := Below.size HB3.out
    have hlt3 : w.heap.size < w3.heap.size := by simp at hz3; omega
    have hne3 : w.heap.size ≠ w3.heap.size := Nat.ne_of_lt hlt3
    clear hz3 hb3 c0 c1 c2 c3 c4 c5 c6 c7 c8 c9
    obtain ⟨c0, c1, c2, c3, c4, c5, c6, c7, c8, c9⟩ := HB3.out.cells
    go_wp2_with fail
    refine (reverse_nil _ _).mono ?_
    rintro e w4 ⟨rfl, hw4⟩
    have hw5 := hw4.symm
    subst hw5
    have HSr : Hid (ISrc w3 none 0 0 L) := ⟨fun h => by have := HLL.out; omega, fun h => by have := HLL.out; omega, fun j hj => by have := HLL.out; omega⟩
    have HW4 := hideS HB3.out
    go_wp2_with fail
    refine (concat_three _ _ _ 0 none 0 0 st en L _ (concS_new w3 st en none 0 0 0 L HSr.out) HLL.out (fun _ => ⟨rfl, rfl⟩) (by omega)).mono ?_
    rintro e w5 ⟨⟨u, rfl, ho5⟩, hb5⟩
    have HO5 := hideS ho5
    have HB5 : Hid (Below w.heap.size w w5) := ((HW4.out.step (three_belowS _ _ _ _)).step hb5).below
    clear ho5 hb5 c0 c1 c2 c3 c4 c5 c6 c7 c8 c9
    go_wp2_with fail
    go_ret2
    exact ⟨HTail.out _ _ _ HO5.out (by simp; omega), HB5.out⟩
  · go_wp2_with fail
    refine (HSF.out _).mono ?_
    rintro e w3 ⟨rfl, hb3⟩
    have HB3 := hideS (HB2.out.step hb3)
    have HR3 : Hid (RowR w3 g (il K)) := hrow.stay hb3 hg1
    have hz2 := HB2.out.below.size
    have hz3 := Below.size HB3.out
    have hlt3 : w.heap.size < w3.heap.size := by simp at hz3; omega
    have hne3 : w.heap.size ≠ w3.heap.size := Nat.ne_of_lt hlt3
    clear hz3 hb3 c0 c1 c2 c3 c4 c5 c6 c7 c8 c9
    clear hrow
    obtain ⟨c0, c1, c2, c3, c4, c5, c6, c7, c8, c9⟩ := HB3.out.cells
    have HRv : Hid (∀ wx, RowR wx g (il K) → Calls Tryz.prog 61 #[.slice (some ⟨g, 0, none⟩) K c] wx fun e w' => e = .returned (.tuple #[]) ∧ ISrc w' (some ⟨g, 0, none⟩) g 0 (il K).reverse ∧ Below (w.heap.size + 1) wx w') := fun wx hr => by
      have hrv := reverse_row g c (w.heap.size + 1) (il K) wx (by omega) (by have := HLn.out K; omega) hr
      rw [HLn.out K] at hrv
      exact hrv
    go_wp2_with fail
    refine (HRv.out _ HR3.out).mono ?_
    rintro e w4 ⟨rfl, hs4, hb4⟩
    have HSr : Hid (ISrc w4 (some ⟨g, 0, none⟩) g 0 L) := by show ISrc _ _ _ _ _; rw [HLs.out]; exact hs4
    have HW4 := hideS (HB3.out.stay hb4 (Nat.le_refl _))
    have hz4 := Below.size HW4.out
    have hlt4 : w.heap.size < w4.heap.size := by simp at hz4; omega
    have hne4 : w.heap.size ≠ w4.heap.size := Nat.ne_of_lt hlt4
    clear hz4 hs4 hb4 c0 c1 c2 c3 c4 c5 c6 c7 c8 c9
    obtain ⟨c0, c1, c2, c3, c4, c5, c6, c7, c8, c9⟩ := HW4.out.cells
    go_wp2_with fail
    refine (concat_three _ _ _ g (some ⟨g, 0, none⟩) K c st en L _ (concS_new w4 st en (some ⟨g, 0, none⟩) g K c L HSr.out) HLL.out (fun e => by cases e) (by omega)).mono ?_
    rintro e w5 ⟨⟨u, rfl, ho5⟩, hb5⟩
    have HO5 := hideS ho5
    have HB5 : Hid (Below w.heap.size w w5) := ((HW4.out.step (three_belowS _ _ _ _)).step hb5).below
    clear ho5 hb5 c0 c1 c2 c3 c4 c5 c6 c7 c8 c9
    go_wp2_with fail
    go_ret2
    exact ⟨HTail.out _ _ _ HO5.out (by simp; omega), HB5.out⟩
  · subst hk0
    go_wp2_with fail
    refine (HSF.out _).mono ?_
    rintro e w3 ⟨rfl, hb3⟩
    have HB3 := hideS (HB2.out.step hb3)
    have hz2 := HB2.out.below.size
    have hz3 := Below.size HB3.out
    have hlt3 : w.heap.size < w3.heap.size := by simp at hz3; omega
    have hne3 : w.heap.size ≠ w3.heap.size := Nat.ne_of_lt hlt3
    clear hz3 hb3 c0 c1 c2 c3 c4 c5 c6 c7 c8 c9
    obtain ⟨c0, c1, c2, c3, c4, c5, c6, c7, c8, c9⟩ := HB3.out.cells
    go_wp2_with fail
    refine (reverse_nil _ _).mono ?_
    rintro e w4 ⟨rfl, hw4⟩
    have hw5 := hw4.symm
    subst hw5
    have HSr : Hid (ISrc w3 none 0 0 L) := ⟨fun h => by have := HLL.out; omega, fun h => by have := HLL.out; omega, fun j hj => by have := HLL.out; omega⟩
    have HW4 := hideS HB3.out
    go_wp2_with fail
    refine (concat_three _ _ _ 0 none 0 0 st en L _ (concS_new w3 st en none 0 0 0 L HSr.out) HLL.out (fun _ => ⟨rfl, rfl⟩) (by omega)).mono ?_
    rintro e w5 ⟨⟨u, rfl, ho5⟩, hb5⟩
    have HO5 := hideS ho5
    have HB5 : Hid (Below w.heap.size w w5) := ((HW4.out.step (three_belowS _ _ _ _)).step hb5).below
    clear ho5 hb5 c0 c1 c2 c3 c4 c5 c6 c7 c8 c9
    go_wp2_with fail
    go_ret2
    exact ⟨HTail.out _ _ _ HO5.out (by simp; omega), HB5.out⟩
  · subst hK0
    go_wp2_with fail
    refine (HSF.out _).mono ?_
    rintro e w3 ⟨rfl, hb3⟩
    have HB3 := hideS (HB2.out.step hb3)
    have HR3 : Hid (RowR w3 g (il 0)) := hrow.stay hb3 hg1
    have hz2 := HB2.out.below.size
    have hz3 := Below.size HB3.out
    have hlt3 : w.heap.size < w3.heap.size := by simp at hz3; omega
    have hne3 : w.heap.size ≠ w3.heap.size := Nat.ne_of_lt hlt3
    clear hz3 hb3 c0 c1 c2 c3 c4 c5 c6 c7 c8 c9
    clear hrow
    obtain ⟨c0, c1, c2, c3, c4, c5, c6, c7, c8, c9⟩ := HB3.out.cells
    have HRv : Hid (∀ wx, RowR wx g (il 0) → Calls Tryz.prog 61 #[.slice (some ⟨g, 0, none⟩) 0 c] wx fun e w' => e = .returned (.tuple #[]) ∧ ISrc w' (some ⟨g, 0, none⟩) g 0 (il 0).reverse ∧ Below (w.heap.size + 1) wx w') := fun wx hr => by
      have hrv := reverse_row g c (w.heap.size + 1) (il 0) wx (by omega) (by have := HLn.out 0; omega) hr
      rw [HLn.out 0] at hrv
      exact hrv
    go_wp2_with fail
    refine (HRv.out _ HR3.out).mono ?_
    rintro e w4 ⟨rfl, hs4, hb4⟩
    have HSr : Hid (ISrc w4 (some ⟨g, 0, none⟩) g 0 L) := by show ISrc _ _ _ _ _; rw [HLs.out]; exact hs4
    have HW4 := hideS (HB3.out.stay hb4 (Nat.le_refl _))
    have hz4 := Below.size HW4.out
    have hlt4 : w.heap.size < w4.heap.size := by simp at hz4; omega
    have hne4 : w.heap.size ≠ w4.heap.size := Nat.ne_of_lt hlt4
    clear hz4 hs4 hb4 c0 c1 c2 c3 c4 c5 c6 c7 c8 c9
    obtain ⟨c0, c1, c2, c3, c4, c5, c6, c7, c8, c9⟩ := HW4.out.cells
    go_wp2_with fail
    refine (concat_three _ _ _ g (some ⟨g, 0, none⟩) 0 c st en L _ (concS_new w4 st en (some ⟨g, 0, none⟩) g 0 c L HSr.out) HLL.out (fun e => by cases e) (by omega)).mono ?_
    rintro e w5 ⟨⟨u, rfl, ho5⟩, hb5⟩
    have HO5 := hideS ho5
    have HB5 : Hid (Below w.heap.size w w5) := ((HW4.out.step (three_belowS _ _ _ _)).step hb5).below
    clear ho5 hb5 c0 c1 c2 c3 c4 c5 c6 c7 c8 c9
    go_wp2_with fail
    go_ret2
    exact ⟨HTail.out _ _ _ HO5.out (by simp; omega), HB5.out⟩
  · have hpos : decide ((0 : Int) < ((C + 1 : Nat) : Int)) = true := decide_eq_true (by omega)
    go_wp2_with fail
    refine (HSF.out _).mono ?_
    rintro e w3 ⟨rfl, hb3⟩
    have HB3 := hideS (HB2.out.step hb3)
    have HR3 : Hid (RowR w3 g (il C)) := (hrow.pre (by have a1 := HLn.out C; have a2 := HLn.out (C + 1); omega) (fun j hj => HPre.out j (by rw [HLn.out] at hj; exact hj))).stay hb3 hg1
    have hz2 := HB2.out.below.size
    have hz3 := Below.size HB3.out
    have hlt3 : w.heap.size < w3.heap.size := by simp at hz3; omega
    have hne3 : w.heap.size ≠ w3.heap.size := Nat.ne_of_lt hlt3
    clear hz3 hb3 c0 c1 c2 c3 c4 c5 c6 c7 c8 c9
    clear hrow
    obtain ⟨c0, c1, c2, c3, c4, c5, c6, c7, c8, c9⟩ := HB3.out.cells
    have HRv : Hid (∀ wx, RowR wx g (il C) → Calls Tryz.prog 61 #[.slice (some ⟨g, 0, none⟩) C c] wx fun e w' => e = .returned (.tuple #[]) ∧ ISrc w' (some ⟨g, 0, none⟩) g 0 (il C).reverse ∧ Below (w.heap.size + 1) wx w') := fun wx hr => by
      have hrv := reverse_row g c (w.heap.size + 1) (il C) wx (by omega) (by have := HLn.out C; omega) hr
      rw [HLn.out C] at hrv
      exact hrv
    go_wp2_with fail
    refine (HRv.out _ HR3.out).mono ?_
    rintro e w4 ⟨rfl, hs4, hb4⟩
    have HSr : Hid (ISrc w4 (some ⟨g, 0, none⟩) g 0 L) := by show ISrc _ _ _ _ _; rw [HLs.out]; exact hs4
    have HW4 := hideS (HB3.out.stay hb4 (Nat.le_refl _))
    have hz4 := Below.size HW4.out
    have hlt4 : w.heap.size < w4.heap.size := by simp at hz4; omega
    have hne4 : w.heap.size ≠ w4.heap.size := Nat.ne_of_lt hlt4
    clear hz4 hs4 hb4 c0 c1 c2 c3 c4 c5 c6 c7 c8 c9
    obtain ⟨c0, c1, c2, c3, c4, c5, c6, c7, c8, c9⟩ := HW4.out.cells
    go_wp2_with fail
    refine (concat_three _ _ _ g (some ⟨g, 0, none⟩) C c st en L _ (concS_new w4 st en (some ⟨g, 0, none⟩) g C c L HSr.out) HLL.out (fun e => by cases e) (by omega)).mono ?_
    rintro e w5 ⟨⟨u, rfl, ho5⟩, hb5⟩
    have HO5 := hideS ho5
    have HB5 : Hid (Below w.heap.size w w5) := ((HW4.out.step (three_belowS _ _ _ _)).step hb5).below
    clear ho5 hb5 c0 c1 c2 c3 c4 c5 c6 c7 c8 c9
    go_wp2_with fail
    go_ret2
    exact ⟨HTail.out _ _ _ HO5.out (by simp; omega), HB5.out⟩
end Go.Proofs.YtphnainibdepbaaGreat
namespace Go.Proofs.YtphnainibdepbaaGreat
open Go.RowKit

set_option maxRecDepth 10000 in
set_option maxHeartbeats 16000000 in
theorem schDates_fore (s : Spc) (W : Int) (v : Value) (K C : Nat) (il : Nat → List Int) (ev : Bool) (L : List Int) (w : World) (H : Hid (DatP s W v K C il ev false L w)) (hK : K < 1200)
    (hst : (s.stub = 3 ∧ C = K) ∨ (s.stub = 4 ∧ ev = true ∧ C = K) ∨ (s.stub = 4 ∧ ev = false ∧ K = 0 ∧ C = K) ∨ (s.stub = 4 ∧ ev = false ∧ 0 < K ∧ K = C + 1)) :
    Calls Tryz.prog 42 #[.agg #[.int .i64 s.st, .int .i64 s.en, .int .i64 s.n, .int .i64 s.unit, .int .i64 s.stub, .int .i64 s.roll, .int .i64 s.conv, .int .i64 s.lag, .int .i64 W, v]] w fun e w' => DatQ s.st s.en K C L w e w' ∧ Below w.heap.size w w' := by
  have HB0 := hideS (SBox.zero w s W v)
  have HCh := hideS H.out.chk
  have HBt : Hid (∀ wx, Calls Tryz.prog 59 #[.agg #[.int .i64 s.st, .int .i64 s.en, .int .i64 s.n, .int .i64 s.unit, .int .i64 s.stub, .int .i64 s.roll, .int .i64 s.conv, .int .i64 s.lag, .int .i64 W, v]] wx fun e w' => (∃ q c, e = .returned (.tuple #[.slice q K c, .bool ev, .int .i64 0]) ∧ w'.ownsRow (wx.heap.size + 1) 3 1 (.slice q K c) K ((il K).map iV)) ∧ Below wx.heap.size wx w') := fun wx => (H.out.bet wx).mono fun e w' ⟨a, b⟩ => ⟨by rcases a with ⟨a, _⟩ | ⟨_, a⟩; omega; exact a, b⟩
  have HSF := hideS H.out.stf
  have HLn := hideS H.out.len
  have hCK : C ≤ K := by omega
  have HPre := hideS (H.out.pre hCK)
  have HLs := hideS H.out.lst
  have HLL : Hid (L.length = C) := by
    show _ = _
    rw [HLs.out]
    simp [HLn.out C]
  have HKl := hideS hK
  clear H
  obtain ⟨st, en, n, unit, stub, roll, conv, lag⟩ := s
  dsimp only at *
  have HTail : Hid (∀ (wE : World) (b0 : Nat) (u : Value), wE.ownsRow b0 3 1 u (C + 2) ((st :: (L ++ [en])).map iV) → w.heap.size ≤ b0 → DatQ st en K C L w (.returned (.tuple #[u, .int .i64 0])) wE) := fun wE b0 u ho hb => Or.inr ⟨HKl.out, u, rfl, iown_mono ho hb⟩
  rcases hst with ⟨rfl, hC⟩ | ⟨rfl, rfl, hC⟩ | ⟨rfl, rfl, hK0, hC⟩ | ⟨rfl, rfl, hK0, hC⟩
  all_goals
    first | (have hC' := hC.symm; clear hC; subst hC') | subst hC
    go_enter Tryz.func42, Tryz.ntmps42
    go_wp2_with fail
    refine (HCh.out _ HB0.out.below).mono ?_
    rintro e w1 ⟨rfl, hb1⟩
    have HB1 := hideS (HB0.out.step hb1)
    clear hb1
    obtain ⟨c0, c1, c2, c3, c4, c5, c6, c7, c8, c9⟩ := HB1.out.cells
    go_wp2_with fail
    refine (HBt.out _).mono ?_
    rintro e w2 ⟨⟨q, c, rfl, ho⟩, hb2⟩
    have HB2 := hideS (HB1.out.step hb2)
    have hs1 : w.heap.size + 1 ≤ w1.heap.size := by have := Below.size HB1.out; simp at this; omega
    clear hb2 c0 c1 c2 c3 c4 c5 c6 c7 c8 c9
    have hk := iown_kinds ho (HLn.out _)
    clear ho HB1 HB0
    obtain ⟨c0, c1, c2, c3, c4, c5, c6, c7, c8, c9⟩ := HB2.out.cells
    rcases hk with ⟨rfl, hk0, rfl⟩ | ⟨g, rfl, hg0, hg1, hKc, hc, hrow⟩
    all_goals first | (exfalso; omega) | skip
  · subst hk0
    go_wp2_with fail
    refine (HSF.out _).mono ?_
    rintro e w3 ⟨rfl, hb3⟩
    have HB3 := hideS (HB2.out.step hb3)
    have hz2 := HB2.out.below.size
    have hz3 := Below.size HB3.out
    have hlt3 : w.heap.size < w3.heap.size := by simp at hz3; omega
    have hne3 : w.heap.size ≠ w3.heap.size := Nat.ne_of_lt hlt3
    clear hz3 hb3 c0 c1 c2 c3 c4 c5 c6 c7 c8 c9
    obtain ⟨c0, c1, c2, c3, c4, c5, c6, c7, c8, c9⟩ := HB3.out.cells
    have HSr : Hid (ISrc w3 none 0 0 L) := ⟨fun h => by have := HLL.out; omega, fun h => by have := HLL.out; omega, fun j hj => by have := HLL.out; omega⟩
    have HW4 := hideS HB3.out
    go_wp2_with fail
    refine (concat_three _ _ _ 0 none 0 0 st en L _ (concS_new w3 st en none 0 0 0 L HSr.out) HLL.out (fun _ => ⟨rfl, rfl⟩) (by omega)).mono ?_
    rintro e w5 ⟨⟨u, rfl, ho5⟩, hb5⟩
    have HO5 := hideS ho5
    have HB5 : Hid (Below w.heap.size w w5) := ((HW4.out.step (three_belowS _ _ _ _)).step hb5).below
    clear ho5 hb5 c0 c1 c2 c3 c4 c5 c6 c7 c8 c9
    go_wp2_with fail
    go_ret2
    exact ⟨HTail.out _ _ _ HO5.out (by simp; omega), HB5.out⟩
  · go_wp2_with fail
    refine (HSF.out _).mono ?_
    rintro e w3 ⟨rfl, hb3⟩
    have HB3 := hideS (HB2.out.step hb3)
    have HR3 : Hid (RowR w3 g (il K)) := hrow.stay hb3 hg1
    have hz2 := HB2.out.below.size
    have hz3 := Below.size HB3.out
    have hlt3 : w.heap.size < w3.heap.size := by simp at hz3; omega
    have hne3 : w.heap.size ≠ w3.heap.size := Nat.ne_of_lt hlt3
    clear hz3 hb3 c0 c1 c2 c3 c4 c5 c6 c7 c8 c9
    clear hrow
    obtain ⟨c0, c1, c2, c3, c4, c5, c6, c7, c8, c9⟩ := HB3.out.cells
    have HW4 := hideS HB3.out
    have HSr : Hid (ISrc w3 (some ⟨g, 0, none⟩) g 0 L) := by show ISrc _ _ _ _ _; rw [HLs.out]; exact HR3.out.src
    go_wp2_with fail
    refine (concat_three _ _ _ g (some ⟨g, 0, none⟩) K c st en L _ (concS_new w3 st en (some ⟨g, 0, none⟩) g K c L HSr.out) HLL.out (fun e => by cases e) (by omega)).mono ?_
    rintro e w5 ⟨⟨u, rfl, ho5⟩, hb5⟩
    have HO5 := hideS ho5
    have HB5 : Hid (Below w.heap.size w w5) := ((HW4.out.step (three_belowS _ _ _ _)).step hb5).below
    clear ho5 hb5 c0 c1 c2 c3 c4 c5 c6 c7 c8 c9
    go_wp2_with fail
    go_ret2
    exact ⟨HTail.out _ _ _ HO5.out (by simp; omega), HB5.out⟩
  · subst hk0
    go_wp2_with fail
    refine (HSF.out _).mono ?_
    rintro e w3 ⟨rfl, hb3⟩
    have HB3 := hideS (HB2.out.step hb3)
    have hz2 := HB2.out.below.size
    have hz3 := Below.size HB3.out
    have hlt3 : w.heap.size < w3.heap.size := by simp at hz3; omega
    have hne3 : w.heap.size ≠ w3.heap.size := Nat.ne_of_lt hlt3
    clear hz3 hb3 c0 c1 c2 c3 c4 c5 c6 c7 c8 c9
    obtain ⟨c0, c1, c2, c3, c4, c5, c6, c7, c8, c9⟩ := HB3.out.cells
    have HSr : Hid (ISrc w3 none 0 0 L) := ⟨fun h => by have := HLL.out; omega, fun h => by have := HLL.out; omega, fun j hj => by have := HLL.out; omega⟩
    have HW4 := hideS HB3.out
    go_wp2_with fail
    refine (concat_three _ _ _ 0 none 0 0 st en L _ (concS_new w3 st en none 0 0 0 L HSr.out) HLL.out (fun _ => ⟨rfl, rfl⟩) (by omega)).mono ?_
    rintro e w5 ⟨⟨u, rfl, ho5⟩, hb5⟩
    have HO5 := hideS ho5
    have HB5 : Hid (Below w.heap.size w w5) := ((HW4.out.step (three_belowS _ _ _ _)).step hb5).below
    clear ho5 hb5 c0 c1 c2 c3 c4 c5 c6 c7 c8 c9
    go_wp2_with fail
    go_ret2
    exact ⟨HTail.out _ _ _ HO5.out (by simp; omega), HB5.out⟩
  · go_wp2_with fail
    refine (HSF.out _).mono ?_
    rintro e w3 ⟨rfl, hb3⟩
    have HB3 := hideS (HB2.out.step hb3)
    have HR3 : Hid (RowR w3 g (il K)) := hrow.stay hb3 hg1
    have hz2 := HB2.out.below.size
    have hz3 := Below.size HB3.out
    have hlt3 : w.heap.size < w3.heap.size := by simp at hz3; omega
    have hne3 : w.heap.size ≠ w3.heap.size := Nat.ne_of_lt hlt3
    clear hz3 hb3 c0 c1 c2 c3 c4 c5 c6 c7 c8 c9
    clear hrow
    obtain ⟨c0, c1, c2, c3, c4, c5, c6, c7, c8, c9⟩ := HB3.out.cells
    have HW4 := hideS HB3.out
    have HSr : Hid (ISrc w3 (some ⟨g, 0, none⟩) g 0 L) := by show ISrc _ _ _ _ _; rw [HLs.out]; exact HR3.out.src
    go_wp2_with fail
    refine (concat_three _ _ _ g (some ⟨g, 0, none⟩) K c st en L _ (concS_new w3 st en (some ⟨g, 0, none⟩) g K c L HSr.out) HLL.out (fun e => by cases e) (by omega)).mono ?_
    rintro e w5 ⟨⟨u, rfl, ho5⟩, hb5⟩
    have HO5 := hideS ho5
    have HB5 : Hid (Below w.heap.size w w5) := ((HW4.out.step (three_belowS _ _ _ _)).step hb5).below
    clear ho5 hb5 c0 c1 c2 c3 c4 c5 c6 c7 c8 c9
    go_wp2_with fail
    go_ret2
    exact ⟨HTail.out _ _ _ HO5.out (by simp; omega), HB5.out⟩
  · subst hk0
    go_wp2_with fail
    refine (HSF.out _).mono ?_
    rintro e w3 ⟨rfl, hb3⟩
    have HB3 := hideS (HB2.out.step hb3)
    have hz2 := HB2.out.below.size
    have hz3 := Below.size HB3.out
    have hlt3 : w.heap.size < w3.heap.size := by simp at hz3; omega
    have hne3 : w.heap.size ≠ w3.heap.size := Nat.ne_of_lt hlt3
    clear hz3 hb3 c0 c1 c2 c3 c4 c5 c6 c7 c8 c9
    obtain ⟨c0, c1, c2, c3, c4, c5, c6, c7, c8, c9⟩ := HB3.out.cells
    have HSr : Hid (ISrc w3 none 0 0 L) := ⟨fun h => by have := HLL.out; omega, fun h => by have := HLL.out; omega, fun j hj => by have := HLL.out; omega⟩
    have HW4 := hideS HB3.out
    go_wp2_with fail
    refine (concat_three _ _ _ 0 none 0 0 st en L _ (concS_new w3 st en none 0 0 0 L HSr.out) HLL.out (fun _ => ⟨rfl, rfl⟩) (by omega)).mono ?_
    rintro e w5 ⟨⟨u, rfl, ho5⟩, hb5⟩
    have HO5 := hideS ho5
    have HB5 : Hid (Below w.heap.size w w5) := ((HW4.out.step (three_belowS _ _ _ _)).step hb5).below
    clear ho5 hb5 c0 c1 c2 c3 c4 c5 c6 c7 c8 c9
    go_wp2_with fail
    go_ret2
    exact ⟨HTail.out _ _ _ HO5.out (by simp; omega), HB5.out⟩
  · subst hK0
    go_wp2_with fail
    refine (HSF.out _).mono ?_
    rintro e w3 ⟨rfl, hb3⟩
    have HB3 := hideS (HB2.out.step hb3)
    have HR3 : Hid (RowR w3 g (il 0)) := hrow.stay hb3 hg1
    have hz2 := HB2.out.below.size
    have hz3 := Below.size HB3.out
    have hlt3 : w.heap.size < w3.heap.size := by simp at hz3; omega
    have hne3 : w.heap.size ≠ w3.heap.size := Nat.ne_of_lt hlt3
    clear hz3 hb3 c0 c1 c2 c3 c4 c5 c6 c7 c8 c9
    clear hrow
    obtain ⟨c0, c1, c2, c3, c4, c5, c6, c7, c8, c9⟩ := HB3.out.cells
    have HW4 := hideS HB3.out
    have HSr : Hid (ISrc w3 (some ⟨g, 0, none⟩) g 0 L) := by show ISrc _ _ _ _ _; rw [HLs.out]; exact HR3.out.src
    go_wp2_with fail
    refine (concat_three _ _ _ g (some ⟨g, 0, none⟩) 0 c st en L _ (concS_new w3 st en (some ⟨g, 0, none⟩) g 0 c L HSr.out) HLL.out (fun e => by cases e) (by omega)).mono ?_
    rintro e w5 ⟨⟨u, rfl, ho5⟩, hb5⟩
    have HO5 := hideS ho5
    have HB5 : Hid (Below w.heap.size w w5) := ((HW4.out.step (three_belowS _ _ _ _)).step hb5).below
    clear ho5 hb5 c0 c1 c2 c3 c4 c5 c6 c7 c8 c9
    go_wp2_with fail
    go_ret2
    exact ⟨HTail.out _ _ _ HO5.out (by simp; omega), HB5.out⟩
  · have hpos : decide ((0 : Int) < ((C + 1 : Nat) : Int)) = true := decide_eq_true (by omega)
    go_wp2_with fail
    refine (HSF.out _).mono ?_
    rintro e w3 ⟨rfl, hb3⟩
    have HB3 := hideS (HB2.out.step hb3)
    have HR3 : Hid (RowR w3 g (il C)) := (hrow.pre (by have a1 := HLn.out C; have a2 := HLn.out (C + 1); omega) (fun j hj => HPre.out j (by rw [HLn.out] at hj; exact hj))).stay hb3 hg1
    have hz2 := HB2.out.below.size
    have hz3 := Below.size HB3.out
    have hlt3 : w.heap.size < w3.heap.size := by simp at hz3; omega
    have hne3 : w.heap.size ≠ w3.heap.size := Nat.ne_of_lt hlt3
    clear hz3 hb3 c0 c1 c2 c3 c4 c5 c6 c7 c8 c9
    clear hrow
    obtain ⟨c0, c1, c2, c3, c4, c5, c6, c7, c8, c9⟩ := HB3.out.cells
    have HW4 := hideS HB3.out
    have HSr : Hid (ISrc w3 (some ⟨g, 0, none⟩) g 0 L) := by show ISrc _ _ _ _ _; rw [HLs.out]; exact HR3.out.src
    go_wp2_with fail
    refine (concat_three _ _ _ g (some ⟨g, 0, none⟩) C c st en L _ (concS_new w3 st en (some ⟨g, 0, none⟩) g C c L HSr.out) HLL.out (fun e => by cases e) (by omega)).mono ?_
    rintro e w5 ⟨⟨u, rfl, ho5⟩, hb5⟩
    have HO5 := hideS ho5
    have HB5 : Hid (Below w.heap.size w w5) := ((HW4.out.step (three_belowS _ _ _ _)).step hb5).below
    clear ho5 hb5 c0 c1 c2 c3 c4 c5 c6 c7 c8 c9
    go_wp2_with fail
    go_ret2
    exact ⟨HTail.out _ _ _ HO5.out (by simp; omega), HB5.out⟩
end Go.Proofs.YtphnainibdepbaaGreat
namespace Go.Proofs.YtphnainibdepbaaGreat
open Go.RowKit

theorem cut_fore {s : Spc} (h : ¬ s.stub ≤ 2) (C : Nat) : (List.range C).map (cutI s C) = innL s C := by
  unfold innL
  refine List.map_congr_left fun i _ => ?_
  unfold cutI
  rw [if_neg h]
theorem cut_back {s : Spc} (h : s.stub ≤ 2) (C : Nat) : (List.range C).map (cutI s C) = (innL s C).reverse := by
  refine List.ext_getElem (by simp [inn_len]) fun i h1 h2 => ?_
  have hi : i < C := by simpa using h1
  have e := inn_cut (s := s) (Nat.le_refl C) hi
  rw [if_pos h] at e
  rw [List.getElem_map, List.getElem_range, ← e, List.getElem_reverse, List.getD_eq_getElem?_getD]
  have hl := inn_len s C
  rw [List.getElem?_eq_getElem (by omega)]
  simp [hl]

theorem schDates_yes (s : Spc) (W : Int) (K : Nat) (p : Option Addr) (b off c : Nat) (rs : List Rul) (w : World) (h : SpcOk s) (hC : OkC W rs) (hK : DatR s K) (hs : RSrc w p b off rs) :
    Calls Tryz.prog 42 #[.agg #[.int .i64 s.st, .int .i64 s.en, .int .i64 s.n, .int .i64 s.unit, .int .i64 s.stub, .int .i64 s.roll, .int .i64 s.conv, .int .i64 s.lag, .int .i64 W, .slice p rs.length c]] w fun e w' => DatO s K w e w' ∧ Below w.heap.size w w' := by
  have hq : ∀ e w', DatQ s.st s.en K (cutN s K) ((List.range (cutN s K)).map (cutI s (cutN s K))) w e w' ∧ Below w.heap.size w w' → DatO s K w e w' ∧ Below w.heap.size w w' := fun e w' ⟨a, b⟩ => ⟨by
    rcases a with a | ⟨a, u, e1, e2⟩
    · exact Or.inl a
    · exact Or.inr ⟨a, u, e1, e2⟩, b⟩
  have H : ∀ bk, bk = decide (s.stub ≤ 2) → DatP s W (.slice p rs.length c) K (cutN s K) (innL s) (evenB s K) bk ((List.range (cutN s K)).map (cutI s (cutN s K))) w := fun bk hbk =>
    ⟨fun wx hb => schCheck_any s W 0 0 0 p b off c rs wx (.ok hC) (.cal h) (hs.below hb) (by have := hC.len; omega), fun wx => schBet_any s W _ K wx h hK, fun wx => by rw [hbk]; exact stubF_any s W _ wx h.t1 h.t2, inn_len s,
      fun hCK j hj => by rw [inn_get hj, inn_get (by omega)], by
        rw [hbk]
        by_cases e : s.stub ≤ 2
        · rw [decide_eq_true e, if_pos rfl]; exact cut_back e _
        · rw [decide_eq_false e, if_neg (by decide)]; exact cut_fore e _⟩
  by_cases hm : 1200 ≤ K
  · exact (schDates_many s W _ K _ _ _ _ _ w (H _ rfl) hm).mono hq
  · obtain ⟨C, hC', hCK, _, hst⟩ := tail_cases hK h.t1 h.t2
    by_cases e : s.stub ≤ 2
    · refine (schDates_back s W _ K _ _ _ _ w (H true (decide_eq_true e).symm) (by omega) ?_).mono hq
      rw [hC']
      rcases hst with ⟨a, a2⟩ | ⟨a, a2, a3⟩ | ⟨a, a2, a3, a4⟩ | ⟨a, a2, a3, a4⟩
      · exact Or.inl ⟨by omega, a2⟩
      · exact Or.inr (Or.inl ⟨by omega, a2, a3⟩)
      · exact Or.inr (Or.inr (Or.inl ⟨by omega, a2, a3, by omega⟩))
      · exact Or.inr (Or.inr (Or.inr ⟨by omega, a2, a3, by omega⟩))
    · refine (schDates_fore s W _ K _ _ _ _ w (H false (decide_eq_false e).symm) (by omega) ?_).mono hq
      rw [hC']
      rcases hst with ⟨a, a2⟩ | ⟨a, a2, a3⟩ | ⟨a, a2, a3, a4⟩ | ⟨a, a2, a3, a4⟩
      · exact Or.inl ⟨by omega, a2⟩
      · exact Or.inr (Or.inl ⟨by omega, a2, a3⟩)
      · exact Or.inr (Or.inr (Or.inl ⟨by omega, a2, a3, by omega⟩))
      · exact Or.inr (Or.inr (Or.inr ⟨by omega, a2, a3, by omega⟩))

end Go.Proofs.YtphnainibdepbaaGreat
