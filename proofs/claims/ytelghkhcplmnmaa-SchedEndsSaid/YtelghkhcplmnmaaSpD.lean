/- slices.Concat of three rows of ints, slices.Reverse of a row of ints. -/
import Derived.Test.YtelghkhcplmnmaaHam
import Derived.Test.YtelghkhcplmnmaaHan
import Derived.Test.YtelghkhcplmnmaaSdShelf
namespace Go.Proofs.Ytelghkhcplmnmaa
open Go.RowKit

/-- An append of a slice of ints to a row of one's own. -/
theorem wpList_append_ints (w : World) {ops : Array Oper} {rest : List Oper} {o : Oper} {a : Act} {Q : Exit → Act → World → Prop} (hgd : o.guard = none) (s x : Operand)
    (ho : o.op = .call { callee := .builtin .append, args := #[s, x], argTypes := #[29, 29] })
    (base : Nat) (v : Value) (n : Nat) (xs : List Int) (hs : a.eval s = v) (hown : w.ownsRow base 3 1 v n (xs.map iV))
    (p : Option Addr) (b off c m : Nat) (ys : List Int) (hx : a.eval x = .slice p m c) (hm : ys.length = m) (hsrc : ISrc w p b off ys) (hnil : p = none → m = 0 ∧ c = 0) (hn : n ≤ 100000) (hm2 : m ≤ 100000) (hbase : base ≤ w.heap.size)
    (h : ∀ v' w', w'.ownsRow base 3 1 v' (n + m) ((xs ++ ys).map iV) → w.grownBy w' v.ownBlock → wpList Try.prog ops Q rest (a.put o.dst v') w') : wpList Try.prog ops Q (o :: rest) a w := by
  obtain ⟨i0, hi, hz0, hz1, hz2⟩ := info_parts info_int
  cases p with
  | none =>
    obtain ⟨rfl, rfl⟩ := hnil rfl
    refine wpList_append_own_none hgd s x 29 ho base 3 i0 1 Try.underlying29 hi v n (xs.map iV) hs hown hx (h v w ?_ ⟨rfl, rfl, rfl, Nat.le_refl _, fun _ _ _ => rfl⟩)
    rw [List.length_eq_zero_iff.1 hm, List.append_nil]; exact hown
  | some ad =>
    refine wpList_append_own w hgd s x 29 ho base 3 i0 (.int .i64 0) 1 8 Try.underlying29 hi hz0 hz1 hz2 rfl (by decide) v n (xs.map iV) hs hown ad m c (ys.map iV) hx (by rw [List.length_map, hm, Nat.mul_one]) ?_ (fun u hu => by obtain ⟨z, _, rfl⟩ := List.mem_map.1 hu; rfl) (by unfold maxLen; omega) (by omega) hbase ?_
    · intro j u hj
      have hj1 : j < ys.length := by
        have := (List.getElem?_eq_some_iff.1 hj).1
        simpa using this
      have e := hsrc.at_ (by omega)
      obtain rfl := Option.some.inj e
      rw [Addr.add_lit, hsrc.cell j hj1]
      rw [List.getElem?_map, List.getElem?_eq_getElem hj1] at hj
      have hu : iV ys[j] = u := Option.some.inj hj
      rw [← hu, List.getD_eq_getElem?_getD, List.getElem?_eq_getElem hj1]; rfl
    · intro v' w' h1 h2 _
      refine h v' w' ?_ h2
      rw [List.map_append]; exact h1

/-- slices.Grow of nothing. -/
theorem growI_nil (n : Nat) (w : World) (h0 : 0 < n) (hn : n ≤ 100000) :
    Calls Try.prog 31 #[.slice none 0 0, .int .i64 n] w fun e w' => ∃ v', e = .returned v' ∧ w'.ownsRow w.heap.size 3 1 v' 0 (([] : List Int).map iV) ∧ Below w.heap.size w w' := by
  obtain ⟨i0, hi, hz0, hz1, hz2⟩ := info_parts info_int
  have hg := Any8.slices_Grow_grow Try.growL i0 (.int .i64 0) hi hz0 (by rw [hz1]; decide) none 0 0 n [] w (Nat.le_refl _) (by omega) (by rw [hz2]; omega) (by omega) (by simp) (fun _ => rfl) (fun a ha => by cases ha)
  refine Calls.mono hg ?_
  rintro e w' ⟨rfl, rfl⟩
  refine ⟨_, rfl, ⟨by simp, .inr ⟨w.heap.size, _, _, rfl, Nat.le_refl _, heap_alloc_new w.drew _, ?_, ?_, ?_, ?_⟩⟩, ?_⟩
  · exact Nat.zero_le _
  · exact grownCap_le_maxLen w _ _ _ (by unfold maxLen; omega)
  · have := grownCap_ge w (0 + n) 0 (Try.growL_ren.t 25)
    simp only [Array.size_append, List.size_toArray, size_zeroCells, List.length_nil, show (Value.int IntKind.i64 0).cells.size = 1 from rfl, Nat.mul_one]
    omega
  · rw [Nat.zero_mul, List.take_zero]; rfl
  · exact (Below.refl w.heap.size w).drew.alloc (Nat.le_refl _) _

/-- The three slices in their array. -/
structure ConcS (B gA p1 p3 g : Nat) (q : Option Addr) (C c : Nat) (x z : Int) (L : List Int) (w : World) : Prop where
  a0 : w.cell? ⟨gA, 0, none⟩ = some (.slice (some ⟨p1, 0, none⟩) 1 1)
  a1 : w.cell? ⟨gA, 1, none⟩ = some (.slice q C c)
  a2 : w.cell? ⟨gA, 2, none⟩ = some (.slice (some ⟨p3, 0, none⟩) 1 1)
  b1 : w.cell? ⟨p1, 0, none⟩ = some (.int .i64 x)
  b3 : w.cell? ⟨p3, 0, none⟩ = some (.int .i64 z)
  src : ISrc w q g 0 L
  la : gA < B
  l1 : p1 < B
  l3 : p3 < B
  lg : 0 < L.length → g < B
theorem ConcS.step {B gA p1 p3 g : Nat} {q : Option Addr} {C c : Nat} {x z : Int} {L : List Int} {w w' : World} (h : ConcS B gA p1 p3 g q C c x z L w) (hb : Below B w w') : ConcS B gA p1 p3 g q C c x z L w' :=
  ⟨(hb.cell (p := ⟨gA, 0, none⟩) h.la).trans h.a0, (hb.cell (p := ⟨gA, 1, none⟩) h.la).trans h.a1, (hb.cell (p := ⟨gA, 2, none⟩) h.la).trans h.a2, (hb.cell (p := ⟨p1, 0, none⟩) h.l1).trans h.b1, (hb.cell (p := ⟨p3, 0, none⟩) h.l3).trans h.b3, h.src.stay hb h.lg, h.la, h.l1, h.l3, h.lg⟩
theorem one_src {w : World} {p : Nat} {x : Int} (h : w.cell? ⟨p, 0, none⟩ = some (.int .i64 x)) (hl : p < w.heap.size) : ISrc w (some ⟨p, 0, none⟩) p 0 [x] :=
  ⟨fun _ => rfl, fun _ => hl, fun j hj => by
    obtain rfl : j = 0 := by simpa using hj
    exact h⟩

set_option maxRecDepth 10000 in
set_option maxHeartbeats 6400000 in
theorem concat_three (gA p1 p3 g : Nat) (q : Option Addr) (C c : Nat) (x z : Int) (L : List Int) (w : World) (h : ConcS w.heap.size gA p1 p3 g q C c x z L w) (hL : L.length = C) (hnil : q = none → C = 0 ∧ c = 0) (hC : C ≤ 5000) :
    Calls Try.prog 19 #[.slice (some ⟨gA, 0, none⟩) 3 3] w fun e w' => (∃ v, e = .returned v ∧ w'.ownsRow w.heap.size 3 1 v (C + 2) ((x :: (L ++ [z])).map iV)) ∧ Below w.heap.size w w' := by
  have HC := hideS h
  have HGr := hideS (fun wx => growI_nil (C + 2) wx (by omega) (by omega))
  have HLn := hideS hL
  have HNl := hideS hnil
  clear h hL hnil
  have HE : Hid ((([] : List Int) ++ [x]) = [x] ∧ [x] ++ L = x :: L ∧ (x :: L) ++ [z] = x :: (L ++ [z])) := ⟨rfl, rfl, rfl⟩
  obtain ⟨a0, a1, a2, _, _, _, _, _, _, _⟩ := HC.out
  go_enter Try.func19, Try.ntmps19
  go_wp2_with fail
  go_loopw [3, 11] (fun sz i wr => ∃ (I S : Int), i = .int .i64 I ∧ sz = .int .i64 S ∧ Hid ((I = 0 ∧ S = 0) ∨ (I = 1 ∧ S = 1) ∨ (I = 2 ∧ S = (C : Int) + 1) ∨ (I = 3 ∧ S = (C : Int) + 2)) ∧ wr = w) (fun _ i _ => (3 - intOf i).toNat)
  case atStart => exact ⟨0, 0, rfl, rfl, Or.inl ⟨rfl, rfl⟩, rfl⟩
  case round =>
    obtain ⟨I, S, rfl, rfl, HIS, hw⟩ := hrel
    have hw' := hw.symm
    subst hw'
    rcases HIS.out with ⟨rfl, rfl⟩ | ⟨rfl, rfl⟩ | ⟨rfl, rfl⟩ | ⟨rfl, rfl⟩
    · go_wp2_with fail
      go_roundw
      case rel => exact ⟨1, 1, rfl, rfl, Or.inr (Or.inl ⟨rfl, rfl⟩), by first | trivial | rfl⟩
      case measure => simp [intOf]
    · go_wp2_with fail
      go_roundw
      case rel => exact ⟨2, _, rfl, rfl, Or.inr (Or.inr (Or.inl ⟨rfl, by omega⟩)), by first | trivial | rfl⟩
      case measure => simp [intOf]
    · go_wp2_with fail
      go_roundw
      case rel => exact ⟨3, _, rfl, rfl, Or.inr (Or.inr (Or.inr ⟨rfl, by omega⟩)), by first | trivial | rfl⟩
      case measure => simp [intOf]
    · have e2 : (C : Int) + 2 = ((C + 2 : Nat) : Int) := by omega
      rw [← e2] at HGr
      clear e2
      go_wp2_with (go_at_call 31; refine (HGr.out _).mono ?_; rintro e w1 ⟨v1, rfl, ho1, hb1⟩)
      have HO1 := hideS ho1
      have HC1 := hideS (HC.out.step hb1)
      have HB1 := hideS hb1
      clear ho1 hb1 a0 a1 a2
      go_loopw [6, 27] (fun vn i wx => ∃ (I : Int) (n : Nat) (xs : List Int), i = .int .i64 I ∧ n ≤ 6000 ∧ Hid ((I = 0 ∧ n = 0 ∧ xs = []) ∨ (I = 1 ∧ n = 1 ∧ xs = [x]) ∨ (I = 2 ∧ n = 1 + C ∧ xs = x :: L) ∨ (I = 3 ∧ n = C + 2 ∧ xs = x :: (L ++ [z]))) ∧ Hid (wx.ownsRow w.heap.size 3 1 vn n (xs.map iV)) ∧ Hid (ConcS w.heap.size gA p1 p3 g q C c x z L wx) ∧ Hid (Below w.heap.size w wx)) (fun _ i _ => (3 - intOf i).toNat)
      case atStart => exact ⟨0, 0, [], rfl, by omega, Or.inl ⟨rfl, rfl, rfl⟩, HO1, HC1, HB1⟩
      case round =>
        clear HO1 HC1 HB1
        obtain ⟨I, n, xs, rfl, hn, HX, HO, HC2, HB⟩ := hrel
        obtain ⟨a0, a1, a2, b1, b3, src, la, l1, l3, lg⟩ := HC2.out
        have HSr := hideS src
        have hsz := HB.out.size
        have HZ := hideS hsz
        clear src lg
        rcases HX.out with ⟨rfl, rfl, rfl⟩ | ⟨rfl, rfl, rfl⟩ | ⟨rfl, rfl, rfl⟩ | ⟨rfl, rfl, rfl⟩
        · go_wp2_with (at_builtin; refine wpList_append_ints _ rfl (.tmp 31) (.tmp 32) rfl w.heap.size _ 0 [] rfl HO.out (some ⟨p1, 0, none⟩) p1 0 1 1 [x] rfl rfl (one_src b1 (by omega)) (fun e => by cases e) (by omega) (by omega) HZ.out ?_; intro v5 w5 ho5 hg5; have hbl := igrown_below HO.out hg5 HZ.out; have HC5 := hideS (HC2.out.step hbl); have HB5 := hideS (HB.out.trans hbl); have HO5 := hideS ho5; clear ho5 hg5 hbl)
          go_roundw
          case rel => exact ⟨1, 1, [x], rfl, by omega, Or.inr (Or.inl ⟨rfl, rfl, rfl⟩), HO5, HC5, HB5⟩
          case measure => simp [intOf]
        · go_wp2_with (at_builtin; refine wpList_append_ints _ rfl (.tmp 31) (.tmp 32) rfl w.heap.size _ 1 [x] rfl HO.out q g 0 c C L rfl HLn.out HSr.out HNl.out (by omega) (by omega) HZ.out ?_; intro v5 w5 ho5 hg5; have hbl := igrown_below HO.out hg5 HZ.out; have HC5 := hideS (HC2.out.step hbl); have HB5 := hideS (HB.out.trans hbl); have HO5 := hideS ho5; clear ho5 hg5 hbl)
          go_roundw
          case rel => exact ⟨2, 1 + C, x :: L, rfl, by omega, Or.inr (Or.inr (Or.inl ⟨rfl, rfl, rfl⟩)), HO5, HC5, HB5⟩
          case measure => simp [intOf]
        · go_wp2_with (at_builtin; refine wpList_append_ints _ rfl (.tmp 31) (.tmp 32) rfl w.heap.size _ (1 + C) (x :: L) rfl HO.out (some ⟨p3, 0, none⟩) p3 0 1 1 [z] rfl rfl (one_src b3 (by omega)) (fun e => by cases e) (by omega) (by omega) HZ.out ?_; intro v5 w5 ho5 hg5; have hbl := igrown_below HO.out hg5 HZ.out; have HC5 := hideS (HC2.out.step hbl); have HB5 := hideS (HB.out.trans hbl); have HO5 := hideS ho5; clear ho5 hg5 hbl)
          go_roundw
          case rel => exact ⟨3, C + 2, x :: (L ++ [z]), rfl, by omega, Or.inr (Or.inr (Or.inr ⟨rfl, rfl, rfl⟩)), by have := HO5.out; rw [show 1 + C + 1 = C + 2 by omega] at this; exact this, HC5, HB5⟩
          case measure => simp [intOf]
        · go_wp2_with fail
          go_ret
          refine ⟨⟨_, rfl, ?_⟩, HB.out⟩
          have := HO.out
          rw [List.map_cons, List.map_append] at this
          exact this

/-- slices.Reverse of a slice of ints that is nil. -/
theorem reverse_nil (c : Nat) (w : World) : Calls Try.prog 18 #[.slice none 0 c] w fun e w' => e = .returned (.tuple #[]) ∧ w' = w := by
  go_enter Try.func18, Try.ntmps18
  go_wp2_with fail
  go_loopw [2, 3] (fun a b wr => a = .int .i64 0 ∧ b = .int .i64 (-1) ∧ wr = w) (fun _ _ _ => 0)
  case atStart => exact ⟨rfl, rfl, rfl⟩
  case round =>
    obtain ⟨rfl, rfl, hw⟩ := hrel
    have hw' := hw.symm
    subst hw'
    go_wp2_with fail
    go_end0
    exact ⟨rfl, rfl⟩

theorem oneCell_i : OneCell iV := fun _ => rfl
/-- slices.Reverse of a row of ints that may be written. -/
theorem reverse_row (g c B : Nat) (xs : List Int) (w : World) (hB : B ≤ g) (hg : xs.length ≤ 100000) (hb : ∃ cur, w.heap[g]? = some (.cells cur 3 (0, 0)) ∧ xs.length ≤ cur.size ∧ ∀ j, j < xs.length → cur[j]? = some (iV (xs.getD j 0))) :
    Calls Try.prog 18 #[.slice (some ⟨g, 0, none⟩) xs.length c] w fun e w' => e = .returned (.tuple #[]) ∧ ISrc w' (some ⟨g, 0, none⟩) g 0 xs.reverse ∧ Below B w w' := by
  obtain ⟨cur, hh, hl, hc⟩ := hb
  have hgs : g < w.heap.size := (Array.getElem?_eq_some_iff.1 hh).1
  have hcell : ∀ j, j < xs.length → w.cell? ⟨g, 0 + j, none⟩ = some (iV (xs.getD j 0)) := fun j hj => by
    rw [Nat.zero_add]
    simp only [World.cell?, hh, Option.isSome_none, Bool.false_eq_true, if_false]
    exact hc j hj
  have hH : Go.Sort.Holds iV w g 0 xs.toArray := by
    intro j hj
    have hj' : j < xs.length := by simpa using hj
    refine ⟨?_, by simp [World.frozen?, hh]⟩
    rw [hcell j hj']
    congr 2
    simp [List.getD, hj']
  refine Calls.mono (AnyE.slices_Reverse Try.revL iV oneCell_i g 0 c xs w hH (by omega)) ?_
  rintro e w' ⟨rfl, n, rfl⟩
  have hnew : (Go.Sort.putRow iV (Go.Sort.ahead w n) g 0 xs.reverse.toArray).heap[g]? = some (.cells (Go.Sort.putCells iV 0 xs.reverse.toArray cur) 3 (0, 0)) := by
    simp [Go.Sort.putRow, Go.Sort.mapBlock, Go.Sort.ahead, Array.getElem?_modify, hh, Go.Sort.onCells]
  refine ⟨rfl, ⟨fun _ => rfl, fun _ => (Array.getElem?_eq_some_iff.1 hnew).1, fun j hj => ?_⟩, ?_⟩
  · have hj' : j < xs.length := by simpa using hj
    rw [Nat.zero_add]
    simp only [World.cell?, hnew, Option.isSome_none, Bool.false_eq_true, if_false]
    simp [Go.Sort.putCells, hj', show j < cur.size by omega, iV, List.getD]
  · have hgr : w.grownBy (Go.Sort.putRow iV (Go.Sort.ahead w n) g 0 xs.reverse.toArray) (some g) := by
      refine ⟨rfl, rfl, rfl, by simp [Go.Sort.putRow, Go.Sort.mapBlock, Go.Sort.ahead], fun k hk hne => ?_⟩
      have : g ≠ k := fun e => hne (by rw [e])
      simp [Go.Sort.putRow, Go.Sort.mapBlock, Go.Sort.ahead, Array.getElem?_modify, this]
    by_cases hBs : B ≤ w.heap.size
    · exact (Below.refl B w).grown hgr hBs (fun k hk => by rw [← Option.some.inj hk]; exact hB)
    · omega
end Go.Proofs.Ytelghkhcplmnmaa
