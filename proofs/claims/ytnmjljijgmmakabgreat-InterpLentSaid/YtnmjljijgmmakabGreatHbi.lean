/- The walk of InterpAt. The walk of InterpSlopes. Rows of one's own beside one another: appends of slices, one block written, what the law of lent memory reads. -/
import Derived.Test.YtnmjljijgmmakabGreatHaj
import Derived.Test.YtnmjljijgmmakabGreatHbh
import Derived.Test.YtnmjljijgmmakabGreatIRefK
import Derived.Test.YtnmjljijgmmakabGreatHan
import Derived.Laws.AppendOwnNone
namespace Go.Proofs.YtnmjljijgmmakabGreat
open Go.RowKit

/-- The document's At, as the program's. -/
theorem docAt (kind x E : Int) (V : Nat) (px py : Option Addr) (bx ox cx b2 oy cy : Nat) (xs : List Int) (ys : List Nat) (w : World) (h : AtO kind xs ys x V E) (hs : TSrc w px py bx ox b2 oy xs ys) (hcy : ys.length ≤ cy) (hcy' : cy ≤ 9223372036854775807) :
    Calls Tryz.prog 11 #[.agg #[.int .i64 kind, .slice px xs.length cx, .slice py ys.length cy], .int .i64 x] w fun e w' => e = .returned (.tuple #[.int .u64 (V : Int), .int .i64 E]) ∧ Below w.heap.size w w' := by
  cases h with
  | err k E h hE => exact ref10At_err kind x k E px py bx ox cx b2 oy cy xs ys w h hE hs
  | node k ok h hk he =>
    have hl := ok.len
    rw [hl]
    exact ref10At_node kind x px py bx ox cx b2 oy cy xs.length k xs ys w ok rfl h hk.lt (.inl he) hs
  | piece k D i ok h hk he hI =>
    have hl := ok.len
    have k1 := ok.k1
    have k4 := ok.k4
    rw [hl]
    rw [hl] at hcy
    unfold pieV
    by_cases q1 : kind = 1
    · rw [if_pos q1]
      exact ref10At_node kind x px py bx ox cx b2 oy cy xs.length k xs ys w ok rfl h hk.lt (.inr ⟨he, q1⟩) hs
    · rw [if_neg q1]
      by_cases q2 : kind = 2
      · rw [if_pos q2]
        subst q2
        exact ref10At_lin x px py bx ox cx b2 oy cy xs.length k D i xs ys w ok rfl h hI hcy hcy' hs
      · rw [if_neg q2]
        by_cases q3 : kind = 3
        · rw [if_pos q3]
          subst q3
          exact ref10At_cub x px py bx ox cx b2 oy cy xs.length k D i xs ys w ok rfl h hI hs
        · rw [if_neg q3]
          obtain rfl : kind = 4 := by omega
          exact ref10At_logW x px py bx ox cx b2 oy cy xs.length k D i xs ys w ok hs.f rfl h hI hs
/-- The document's table out of the law's. -/
theorem docOf (kind : Int) (px py : Option Addr) (bx ox cx b2 oy cy : Nat) (xs : List Int) (ys : List Nat) (w : World) (hs : TFl w px py bx ox b2 oy xs ys) (hy : ys.length ≤ 17592186043904) :
    Calls Tryz.prog 5 #[.agg #[.int .i64 kind, .slice px xs.length cx, .slice py ys.length cy]] w fun e w' => ∃ p g c, e = .returned (.agg #[.int .i64 kind, .slice px xs.length cx, .slice p ys.length c]) ∧ (TSrc w' px p bx ox g 0 xs ys ∧ ys.length ≤ c ∧ c ≤ 9223372036854775807 ∧ w.heap.size ≤ g) ∧ Below w.heap.size w w' := by
  refine (ref10Of_any kind b2 oy cx cy xs.length ys.length px py ys w hs.y rfl hy).mono fun e w' ⟨v, he, ho, hb⟩ => ?_
  obtain ⟨p, g, c, rfl, hsrc, hg, hnc, hcm⟩ := uown_src ho rfl
  exact ⟨p, g, c, he, ⟨⟨hs.x.below hb, ⟨hsrc.at_, hsrc.lt, hsrc.cell⟩, hs.u⟩, hnc, by unfold maxLen at hcm; omega, hg⟩, hb⟩
theorem atO_lt {kind x E : Int} {V : Nat} {xs : List Int} {ys : List Nat} (h : AtO kind xs ys x V E) (hf : ∀ i < ys.length, ys.getD i 0 < 18446744073709551616) : V < 18446744073709551616 := by
  have hf' : ∀ i < ys.length, U64 (ys.getD i 0 : Nat) := fun i hi => u64N (hf i hi)
  cases h with
  | err => decide
  | node k ok h hk he => exact hf k (by rw [ok.len]; exact hk.lt)
  | piece k D i ok h hk he hI =>
    have hv : ∀ {W : Nat}, U64 (W : Nat) → W < 18446744073709551616 := fun hu => by have := hu.2; omega
    have up : ∀ W, AtR xs ys kind x k W → W < 18446744073709551616 := fun W hA => by
      by_cases hr : k + 1 < xs.length → rankI (ys.getD k 0 : Nat) ≤ rankI (ys.getD (k + 1) 0 : Nat)
      · exact hv (at_held_up ok hf' hk.lt hA hr).1
      · exact hv (at_held_down ok hf' hk.lt hA (fun hl => by
          have : ¬ rankI (ys.getD k 0 : Nat) ≤ rankI (ys.getD (k + 1) 0 : Nat) := fun c => hr (fun _ => c)
          omega)).1
    unfold pieV
    have k1 := ok.k1
    have k4 := ok.k4
    by_cases q1 : kind = 1
    · rw [if_pos q1]; subst q1; exact up _ (.flat x k he)
    · rw [if_neg q1]
      by_cases q2 : kind = 2
      · rw [if_pos q2]; subst q2; exact up _ (.lin x k D i hI)
      · rw [if_neg q2]
        by_cases q3 : kind = 3
        · rw [if_pos q3]; subst q3; exact up _ (.cub x k D i hI)
        · rw [if_neg q3]
          obtain rfl : kind = 4 := by omega
          exact (log_held ok hf' hI).2.1
end Go.Proofs.YtnmjljijgmmakabGreat
namespace Go.Proofs.YtnmjljijgmmakabGreat
open Go.RowKit

/-- A list that the document tells. -/
def UOut (w w' : World) (e : Ending) (L : List Nat) (E : Int) : Prop := ∃ v, e = .returned (.tuple #[v, .int .i64 E]) ∧ OwnF w' w.heap.size 41 uV v L ∧ Below w.heap.size w w'

theorem fitL_slop (xs : List Int) (ys : List Nat) (n : Nat) : FitL (slopL xs ys n) := fun x hx => by
  obtain ⟨i, hi, e⟩ := List.mem_iff_getElem.1 hx
  have := slopL_lt (xs := xs) (ys := ys) (n := n) i
  rw [show (slopL xs ys n).getD i 0 = (slopL xs ys n)[i] by simp [List.getD, hi], e] at this
  exact this
theorem arr4_src {w : World} {g a b c d : Nat} (h : w.heap[g]? = some (arr4 a b c d)) : Src w (some ⟨g, 0, none⟩) g 0 [a, b, c, d] := by
  obtain ⟨⟨c0, c1, c2, c3⟩, _⟩ := arr4_cells h
  refine ⟨fun _ => rfl, fun _ => (Array.getElem?_eq_some_iff.1 h).1, fun j hj => ?_⟩
  have hj' : j < 4 := hj
  rcases (show j = 0 ∨ j = 1 ∨ j = 2 ∨ j = 3 by omega) with rfl | rfl | rfl | rfl
  · exact c0
  · exact c1
  · exact c2
  · exact c3
theorem src_nil (w : World) : Src w none 0 0 [] := ⟨fun h => by simp at h, fun h => by simp at h, fun j hj => by simp at hj⟩
end Go.Proofs.YtnmjljijgmmakabGreat
namespace Go.Proofs.YtnmjljijgmmakabGreat
open Go.RowKit

def jV (x : Int) : Value := .int .i64 x
theorem info_int10 : (Tryz.prog.info? 3).map (fun i => (i.zero, i.size, i.bytes)) = some (some (.int .i64 0), 1, 8) := by kernel_rfl
/-- An append of a slice of ints to a row of one's own. -/
theorem wpList_append_is (w : World) {ops : Array Oper} {rest : List Oper} {o : Oper} {a : Act} {Q : Exit → Act → World → Prop} (hgd : o.guard = none) (s x : Operand)
    (ho : o.op = .call { callee := .builtin .append, args := #[s, x], argTypes := #[22, 22] })
    (base : Nat) (v : Value) (n : Nat) (xs : List Int) (hs : a.eval s = v) (hown : w.ownsRow base 3 1 v n (xs.map jV))
    (p : Option Addr) (b off c m : Nat) (ys : List Int) (hx : a.eval x = .slice p m c) (hm : ys.length = m) (hsrc : VSrc w p b off m (xV ys)) (hnil : p = none → m = 0 ∧ c = 0) (hn : n ≤ 100000) (hm2 : m ≤ 100000) (hbase : base ≤ w.heap.size)
    (h : ∀ v' w', w'.ownsRow base 3 1 v' (n + m) ((xs ++ ys).map jV) → w.grownBy w' v.ownBlock → wpList Tryz.prog ops Q rest (a.put o.dst v') w') : wpList Tryz.prog ops Q (o :: rest) a w := by
  obtain ⟨i0, hi, hz0, hz1, hz2⟩ := info_parts info_int10
  cases p with
  | none =>
    obtain ⟨rfl, rfl⟩ := hnil rfl
    refine wpList_append_own_none hgd s x 22 ho base 3 i0 1 Tryz.underlying22 hi v n (xs.map jV) hs hown hx (h v w ?_ ⟨rfl, rfl, rfl, Nat.le_refl _, fun _ _ _ => rfl⟩)
    rw [List.length_eq_zero_iff.1 hm, List.append_nil]; exact hown
  | some ad =>
    refine wpList_append_own w hgd s x 22 ho base 3 i0 (.int .i64 0) 1 8 Tryz.underlying22 hi hz0 hz1 hz2 rfl (by decide) v n (xs.map jV) hs hown ad m c (ys.map jV) hx (by rw [List.length_map, hm, Nat.mul_one]) ?_ (fun u hu => by obtain ⟨z, _, rfl⟩ := List.mem_map.1 hu; rfl) (by unfold maxLen; omega) (by omega) hbase ?_
    · intro j u hj
      have hj1 : j < ys.length := by
        have := (List.getElem?_eq_some_iff.1 hj).1
        simpa using this
      have e := hsrc.at_ (by omega)
      obtain rfl := Option.some.inj e
      rw [Addr.add_lit, hsrc.cell j (by omega)]
      rw [List.getElem?_map, List.getElem?_eq_getElem hj1] at hj
      have hu : jV ys[j] = u := Option.some.inj hj
      rw [← hu]
      show some (Value.int .i64 (ys.getD j 0)) = _
      rw [List.getD_eq_getElem?_getD, List.getElem?_eq_getElem hj1]; rfl
    · intro v' w' h1 h2 _
      refine h v' w' ?_ h2
      rw [List.map_append]; exact h1
/-- The same of floats. -/
theorem wpList_append_fs (w : World) {ops : Array Oper} {rest : List Oper} {o : Oper} {a : Act} {Q : Exit → Act → World → Prop} (hgd : o.guard = none) (s x : Operand)
    (ho : o.op = .call { callee := .builtin .append, args := #[s, x], argTypes := #[23, 23] })
    (base : Nat) (v : Value) (n : Nat) (xs : List Nat) (hs : a.eval s = v) (hown : w.ownsRow base 31 1 v n (xs.map fV))
    (p : Option Addr) (b off c m : Nat) (ys : List Nat) (hx : a.eval x = .slice p m c) (hm : ys.length = m) (hsrc : VSrc w p b off m (flV ys)) (hnil : p = none → m = 0 ∧ c = 0) (hn : n ≤ 100000) (hm2 : m ≤ 100000) (hbase : base ≤ w.heap.size)
    (h : ∀ v' w', w'.ownsRow base 31 1 v' (n + m) ((xs ++ ys).map fV) → w.grownBy w' v.ownBlock → wpList Tryz.prog ops Q rest (a.put o.dst v') w') : wpList Tryz.prog ops Q (o :: rest) a w := by
  obtain ⟨i0, hi, hz0, hz1, hz2⟩ := info_parts info_flr
  cases p with
  | none =>
    obtain ⟨rfl, rfl⟩ := hnil rfl
    refine wpList_append_own_none hgd s x 23 ho base 31 i0 1 Tryz.underlying23 hi v n (xs.map fV) hs hown hx (h v w ?_ ⟨rfl, rfl, rfl, Nat.le_refl _, fun _ _ _ => rfl⟩)
    rw [List.length_eq_zero_iff.1 hm, List.append_nil]; exact hown
  | some ad =>
    refine wpList_append_own w hgd s x 23 ho base 31 i0 (.float .f64 0) 1 8 Tryz.underlying23 hi hz0 hz1 hz2 rfl (by decide) v n (xs.map fV) hs hown ad m c (ys.map fV) hx (by rw [List.length_map, hm, Nat.mul_one]) ?_ (fun u hu => by obtain ⟨z, _, rfl⟩ := List.mem_map.1 hu; rfl) (by unfold maxLen; omega) (by omega) hbase ?_
    · intro j u hj
      have hj1 : j < ys.length := by
        have := (List.getElem?_eq_some_iff.1 hj).1
        simpa using this
      have e := hsrc.at_ (by omega)
      obtain rfl := Option.some.inj e
      rw [Addr.add_lit, hsrc.cell j (by omega)]
      rw [List.getElem?_map, List.getElem?_eq_getElem hj1] at hj
      have hu : fV ys[j] = u := Option.some.inj hj
      rw [← hu]
      show some (Value.float .f64 (ys.getD j 0)) = _
      rw [List.getD_eq_getElem?_getD, List.getElem?_eq_getElem hj1]; rfl
    · intro v' w' h1 h2 _
      refine h v' w' ?_ h2
      rw [List.map_append]; exact h1
theorem grown_belowT {t : TypeId} {w w' : World} {v : Value} {B n : Nat} {xs : List Value} (ho : w.ownsRow B t 1 v n xs) (hg : w.grownBy w' v.ownBlock) (hB : B ≤ w.heap.size) : Below B w w' :=
  (Below.refl B w).grown hg hB (fun k hk => by
    rcases ho.2 with ⟨rfl, _⟩ | ⟨g, cap, cur, rfl, hbg, _⟩
    · cases hk
    · obtain rfl : g = k := by simpa [Value.ownBlock] using hk
      exact hbg)
theorem own_belowT {t : TypeId} {w w' : World} {base n : Nat} {v : Value} {xs : List Value} (h : w.ownsRow base t 1 v n xs) (hb : Below w.heap.size w w') : w'.ownsRow base t 1 v n xs := by
  refine ⟨h.1, ?_⟩
  rcases h.2 with hn | ⟨g, cap, cur, rfl, hg, hgg, rest⟩
  · exact .inl hn
  · exact .inr ⟨g, cap, cur, rfl, hg, by rw [hb.block g (Array.getElem?_eq_some_iff.1 hgg).1]; exact hgg, rest⟩
theorem own_builtT (w : World) (t : TypeId) : (w.alloc (.cells #[] t)).ownsRow w.heap.size t 1 (.slice (some ⟨w.heap.size, 0, none⟩) 0 0) 0 [] := ⟨rfl, .inr ⟨w.heap.size, 0, #[], rfl, Nat.le_refl _, heap_alloc_new w _, Nat.le_refl _, by unfold maxLen; omega, rfl, rfl⟩⟩
theorem iown_v {w : World} {base n : Nat} {v : Value} {xs : List Int} (h : w.ownsRow base 3 1 v n (xs.map jV)) (hn : xs.length = n) (h0 : 0 < n) : ∃ g c, v = .slice (some ⟨g, 0, none⟩) n c ∧ VSrc w (some ⟨g, 0, none⟩) g 0 n (xV xs) ∧ base ≤ g ∧ n ≤ c ∧ c ≤ maxLen := by
  rcases h.2 with ⟨rfl, rfl⟩ | ⟨g, cap, cur, rfl, hg, hh, hnc, hcm, hsz, htk⟩
  · omega
  · refine ⟨g, cap, rfl, ⟨fun _ => rfl, fun _ => (Array.getElem?_eq_some_iff.1 hh).1, fun i hi => ?_⟩, hg, hnc, hcm⟩
    rw [Nat.zero_add, World.ownsRow.cellAt h i (by omega), List.getElem?_map]
    show Option.map jV xs[i]? = some (Value.int .i64 (xs.getD i 0))
    rw [List.getD_eq_getElem?_getD, List.getElem?_eq_getElem (by omega)]; rfl
theorem fown_v {w : World} {base n : Nat} {v : Value} {xs : List Nat} (h : w.ownsRow base 31 1 v n (xs.map fV)) (hn : xs.length = n) (h0 : 0 < n) : ∃ g c, v = .slice (some ⟨g, 0, none⟩) n c ∧ VSrc w (some ⟨g, 0, none⟩) g 0 n (flV xs) ∧ base ≤ g ∧ n ≤ c ∧ c ≤ maxLen := by
  obtain ⟨p, g, c, e, hs, a, b, d⟩ := flown_src h hn
  have hp := hs.at_ (by omega)
  subst hp
  exact ⟨g, c, e, ⟨fun _ => rfl, fun _ => hs.lt (by omega), fun j hj => hs.cell j (by omega)⟩, a, b, d⟩
/-- The head of a row. -/
theorem VSrc.head {w : World} {g n k : Nat} {f f' : Nat → Value} (h : VSrc w (some ⟨g, 0, none⟩) g 0 n f) (hk : k ≤ n) (hf : ∀ j < k, f' j = f j) : VSrc w (some ⟨g, 0, none⟩) g 0 k f' :=
  ⟨fun _ => rfl, fun h0 => h.lt (by omega), fun j hj => by rw [hf j hj]; exact h.cell j (by omega)⟩
theorem VSrc.stay {w w' : World} {p : Option Addr} {b off n B : Nat} {f : Nat → Value} (h : VSrc w p b off n f) (hb : Below B w w') (hl : 0 < n → b < B) : VSrc w' p b off n f :=
  ⟨h.at_, fun h0 => Nat.lt_of_lt_of_le (h.lt h0) hb.size, fun j hj => (hb.cell (p := ⟨b, off + j, none⟩) (hl (by omega))).trans (h.cell j hj)⟩
/-- Only the block g has been written (if m is 0, none). -/
structure OnlyF (g m : Nat) (w5 wr : World) : Prop where
  zero : m = 0 → wr = w5
  os : wr.os = w5.os
  tape : wr.tape = w5.tape
  output : wr.output = w5.output
  size : wr.heap.size = w5.heap.size
  other : ∀ k, k ≠ g → wr.heap[k]? = w5.heap[k]?
  cell : ∀ j < m, ∃ v, wr.cell? ⟨g, j, none⟩ = some v
  frz : 0 < m → ∀ j, wr.frozen? ⟨g, j, none⟩ = false
theorem OnlyF.first {g m : Nat} {w5 : World} (hc : ∀ j < m, ∃ v, w5.cell? ⟨g, j, none⟩ = some v) (hf : 0 < m → ∀ j, w5.frozen? ⟨g, j, none⟩ = false) : OnlyF g m w5 w5 :=
  ⟨fun _ => rfl, rfl, rfl, rfl, rfl, fun _ _ => rfl, hc, hf⟩
theorem OnlyF.set {g m : Nat} {w5 wr : World} (h : OnlyF g m w5 wr) (hm : 0 < m) (j : Nat) (x : Value) : OnlyF g m w5 (wr.setCell ⟨g, j, none⟩ x) :=
  ⟨fun e => by omega, h.os, h.tape, h.output, by simpa using h.size, fun k hk => (Below.heap_setCell wr ⟨g, j, none⟩ x k hk).trans (h.other k hk), fun i hi => by
    obtain ⟨v, hv⟩ := h.cell i hi
    exact cell?_setCell_some hv, fun h0 i => by rw [World.frozen?_setCell]; exact h.frz h0 i⟩
theorem OnlyF.cellEq {g m : Nat} {w5 wr : World} (h : OnlyF g m w5 wr) {k : Nat} (hk : 0 < m → k ≠ g) (o : Nat) : wr.cell? ⟨k, o, none⟩ = w5.cell? ⟨k, o, none⟩ := by
  by_cases h0 : m = 0
  · rw [h.zero h0]
  · exact World.cell?_of_block (w := w5) (h.other k (hk (by omega)))
theorem OnlyF.below {g m B : Nat} {w5 wr : World} (h : OnlyF g m w5 wr) (hg : 0 < m → B ≤ g) : Below B w5 wr := by
  by_cases h0 : m = 0
  · rw [h.zero h0]; exact Below.refl _ _
  · have := hg (by omega)
    exact ⟨h.os, h.tape, h.output, by rw [h.size]; exact Nat.le_refl _, fun k hk => h.other k (by omega)⟩
theorem OnlyF.src {g m : Nat} {w5 wr : World} (h : OnlyF g m w5 wr) {q : Option Addr} {b off : Nat} {xs : List Nat} (hs : Src w5 q b off xs) (hb : 0 < m → 0 < xs.length → b ≠ g) : Src wr q b off xs :=
  ⟨hs.at_, fun hx => by rw [h.size]; exact hs.lt hx, fun i hi => (h.cellEq (fun h0 => hb h0 (by omega)) _).trans (hs.cell i hi)⟩
theorem OnlyF.frzO {g m k : Nat} {w5 wr : World} (h : OnlyF g m w5 wr) (hk : 0 < m → k ≠ g) (j : Nat) : wr.frozen? ⟨k, j, none⟩ = w5.frozen? ⟨k, j, none⟩ := by
  by_cases h0 : m = 0
  · rw [h.zero h0]
  · exact World.frozen?_of_block (w := w5) (h.other k (hk (by omega)))
/-- A list that the program tells, in memory of its own. -/
def FlW (w w' : World) (e : Ending) (L : List Nat) (E : Int) : Prop := ∃ p g c, e = .returned (.tuple #[.slice p L.length c, .int .i64 E]) ∧ Src w' p g 0 L ∧ (0 < L.length → w.heap.size ≤ g ∧ g < w'.heap.size ∧ ∀ j, w'.frozen? ⟨g, j, none⟩ = false) ∧ Below w.heap.size w w'
/-- What the two tell of slopes. -/
theorem slopes_lent (kind : Int) (xs : List Int) (ys : List Nat) : ∃ L E, FitL L ∧ (L.length ≤ xs.length ∨ L.length = 0) ∧ (∀ (px py : Option Addr) (bx ox cx b2 oy cy : Nat) (w : World), TFl w px py bx ox b2 oy xs ys → Calls Tryz.prog 6 #[.agg #[.int .i64 kind, .slice px xs.length cx, .slice py ys.length cy]] w fun e w' => FlW w w' e L E) ∧
    (∀ (px py : Option Addr) (bx ox cx b2 oy cy : Nat) (w : World), TSrc w px py bx ox b2 oy xs ys → Calls Tryz.prog 9 #[.agg #[.int .i64 kind, .slice px xs.length cx, .slice py ys.length cy]] w fun e w' => UOut w w' e L E) := by
  obtain ⟨E, hT⟩ := tabR_ex kind xs ys
  by_cases hE : E = 0
  · subst hE
    have ok := tabR_ok hT
    have hll := slopL_len (xs := xs) (ys := ys) ok.lo
    refine ⟨slopL xs ys xs.length, 0, fitL_slop _ _ _, .inl (by rw [hll]; exact Nat.le_refl _), fun px py bx ox cx b2 oy cy w hs => ?_, fun px py bx ox cx b2 oy cy w hs => ?_⟩
    · refine (intSlopes_ok kind px py bx ox cx b2 oy cy xs ys w ok hs).mono fun e w' ⟨v, he, ho, hb⟩ => ?_
      rcases ho.2 with ⟨_, h0⟩ | ⟨g, cap, cur, rfl, hg, hh, hnc, hcm, hsz, htk⟩
      · have := ok.lo; omega
      · obtain ⟨p, g', c, e, hsr, _⟩ := flown_src ho hll
        have hp := hsr.at_ (by rw [hll]; exact ok.lo)
        subst hp
        cases e
        exact ⟨_, g, cap, by rw [hll]; exact he, ⟨hsr.at_, hsr.lt, hsr.cell⟩, fun _ => ⟨hg, (Array.getElem?_eq_some_iff.1 hh).1, fun j => frozen_of_row w' g j cur _ hh⟩, hb⟩
    · rw [ok.len]
      refine (ref10Slopes_ok kind px py bx ox cx b2 oy cy xs.length xs ys w ok rfl hs).mono fun e w' ⟨v, he, ho, hb⟩ => ⟨v, he, ⟨?_⟩, hb⟩
      rw [hll]; exact ho
  · refine ⟨[], E, fun x hx => by simp at hx, .inr rfl, fun px py bx ox cx b2 oy cy w hs => ?_, fun px py bx ox cx b2 oy cy w hs => ?_⟩
    · exact (intSlopes_bad kind E _ _ w hE (fun wx hb => intCheck_any kind E px py bx ox cx b2 oy cy xs ys wx hT (hs.below hb))).mono fun e w' ⟨he, hb⟩ => ⟨none, 0, 0, he, src_nil _, fun h => by simp at h, hb⟩
    · exact (ref10Slopes_bad kind E px py bx ox cx b2 oy cy xs ys w hT hE hs).mono fun e w' ⟨he, hb⟩ => ⟨_, he, ⟨uown_nil w' _⟩, hb⟩
/-- What the two tell of points. -/
theorem points_lent (kind k : Int) (xs : List Int) (ys : List Nat) (hf : ∀ i < ys.length, ys.getD i 0 < 18446744073709551616) : ∃ L E, FitL L ∧ L.length ≤ 4 ∧ (∀ (px py : Option Addr) (bx ox cx b2 oy cy : Nat) (w : World), TFl w px py bx ox b2 oy xs ys → Calls Tryz.prog 7 #[.agg #[.int .i64 kind, .slice px xs.length cx, .slice py ys.length cy], .int .i64 k] w fun e w' => FlW w w' e L E) ∧
    (∀ (px py : Option Addr) (bx ox cx b2 oy cy : Nat) (w : World), TSrc w px py bx ox b2 oy xs ys → Calls Tryz.prog 10 #[.agg #[.int .i64 kind, .slice px xs.length cx, .slice py ys.length cy], .int .i64 k] w fun e w' => UOut w w' e L E) := by
  obtain ⟨E, hT⟩ := tabR_ex kind xs ys
  by_cases hE : E = 0
  · subst hE
    have ok := tabR_ok hT
    have hl := ok.len
    by_cases hk : k < 0 ∨ (xs.length : Int) - 1 ≤ k
    · refine ⟨[], 51, fun x hx => by simp at hx, Nat.zero_le _, fun px py bx ox cx b2 oy cy w hs => ?_, fun px py bx ox cx b2 oy cy w hs => ?_⟩
      · exact (intPoints_out kind k px cx xs.length _ w ok.lo ok.hi hk (fun wx hb => intCheck_any kind 0 px py bx ox cx b2 oy cy xs ys wx hT (hs.below hb))).mono fun e w' ⟨he, hb⟩ => ⟨none, 0, 0, he, src_nil _, fun h => by simp at h, hb⟩
      · rw [hl]
        exact (ref10Points_out kind k px py bx ox cx b2 oy cy xs.length xs ys w ok rfl hs hk).mono fun e w' ⟨he, hb⟩ => ⟨_, he, ⟨uown_nil w' _⟩, hb⟩
    · obtain ⟨j, rfl⟩ : ∃ j : Nat, k = (j : Int) := ⟨k.toNat, by omega⟩
      have hj : j + 1 < xs.length := by omega
      have hll : (ptL xs ys j).length = 4 := rfl
      refine ⟨ptL xs ys j, 0, fun x hx => ?_, Nat.le_refl _, fun px py bx ox cx b2 oy cy w hs => ?_, fun px py bx ox cx b2 oy cy w hs => ?_⟩
      · obtain ⟨i, hi, e⟩ := List.mem_iff_getElem.1 hx
        have := ptL_lt (xs := xs) (ys := ys) (k := j) (hf j (by omega)) (hf (j + 1) (by omega)) i hi
        rw [show (ptL xs ys j).getD i 0 = (ptL xs ys j)[i] by simp [List.getD, hi], e] at this
        exact this
      · refine (intPoints_ok kind px py bx ox cx b2 oy cy j xs ys w ok hs hj).mono fun e w' ⟨g, he, ⟨ha, hg⟩, hb⟩ => ⟨_, g, 4, he, arr4_src ha, fun _ => ⟨hg, (Array.getElem?_eq_some_iff.1 ha).1, (arr4_cells ha).2⟩, hb⟩
      · rw [hl]
        refine (ref10Points_ok kind px py bx ox cx b2 oy cy xs.length j xs ys w ok rfl hs hj).mono fun e w' ⟨v, he, ho, hb⟩ => ⟨v, he, ⟨ho⟩, hb⟩
  · refine ⟨[], E, fun x hx => by simp at hx, Nat.zero_le _, fun px py bx ox cx b2 oy cy w hs => ?_, fun px py bx ox cx b2 oy cy w hs => ?_⟩
    · exact (intPoints_bad kind E k _ _ w hE (fun wx hb => intCheck_any kind E px py bx ox cx b2 oy cy xs ys wx hT (hs.below hb))).mono fun e w' ⟨he, hb⟩ => ⟨none, 0, 0, he, src_nil _, fun h => by simp at h, hb⟩
    · exact (ref10Points_bad kind E k px py bx ox cx b2 oy cy xs ys w hT hE hs).mono fun e w' ⟨he, hb⟩ => ⟨_, he, ⟨uown_nil w' _⟩, hb⟩
/-- The values that the law lays behind the table's own. -/
def lenX (xs : List Int) : List Int := xs ++ [7701, 7702]
def lenY (ys : List Nat) : List Nat := ys ++ [4665191552769851392, 4665192652281479168]
/-- What the law reads, below B. -/
structure LenW (w : World) (kind : Int) (px py : Option Addr) (n m cx cy g1 : Nat) (pd : Option Addr) (cd gd gx gy c1 c2 g2 bx ox b2 oy : Nat) (xs : List Int) (ys : List Nat) (B : Nat) (wr : World) : Prop where
  t0 : wr.cell? ⟨w.heap.size, 0, none⟩ = some (.int .i64 kind)
  t1 : wr.cell? ⟨w.heap.size, 1, none⟩ = some (.slice px n cx)
  t2 : wr.cell? ⟨w.heap.size, 2, none⟩ = some (.slice py m cy)
  bl : Below w.heap.size w wr
  ix : VSrc wr px bx ox n (xV xs)
  iy : VSrc wr py b2 oy m (flV ys)
  dbx : Box3 wr g1 kind (.slice px n cx) (.slice pd m cd)
  dy : VSrc wr pd gd 0 m (yV ys)
  xr : VSrc wr (some ⟨gx, 0, none⟩) gx 0 (n + 2) (xV (lenX xs))
  yr : VSrc wr (some ⟨gy, 0, none⟩) gy 0 (m + 2) (flV (lenY ys))
  obx : Box3 wr g2 kind (.slice (some ⟨gx, 0, none⟩) n c1) (.slice (some ⟨gy, 0, none⟩) m c2)
  hB : B ≤ wr.heap.size
  lts : w.heap.size < B ∧ g1 < B ∧ g2 < B ∧ gx < B ∧ gy < B ∧ (0 < n → bx < B) ∧ (0 < m → b2 < B) ∧ (0 < m → gd < B)
theorem Box3.stay {w w' : World} {g B : Nat} {k : Int} {vx vy : Value} (h : Box3 w g k vx vy) (hb : Below B w w') (hl : g < B) : Box3 w' g k vx vy :=
  ⟨(hb.cell (p := ⟨g, 0, none⟩) hl).trans h.t0, (hb.cell (p := ⟨g, 1, none⟩) hl).trans h.t1, (hb.cell (p := ⟨g, 2, none⟩) hl).trans h.t2, Nat.lt_of_lt_of_le h.lt hb.size⟩
theorem LenW.stay {w : World} {kind : Int} {px py : Option Addr} {n m cx cy g1 : Nat} {pd : Option Addr} {cd gd gx gy c1 c2 g2 bx ox b2 oy : Nat} {xs : List Int} {ys : List Nat} {B : Nat} {wr w' : World} (h : LenW w kind px py n m cx cy g1 pd cd gd gx gy c1 c2 g2 bx ox b2 oy xs ys B wr) (hb : Below B wr w') : LenW w kind px py n m cx cy g1 pd cd gd gx gy c1 c2 g2 bx ox b2 oy xs ys B w' := by
  obtain ⟨l0, l1, l2, l3, l4, l5, l6, l7⟩ := h.lts
  exact ⟨(hb.cell (p := ⟨w.heap.size, 0, none⟩) l0).trans h.t0, (hb.cell (p := ⟨w.heap.size, 1, none⟩) l0).trans h.t1, (hb.cell (p := ⟨w.heap.size, 2, none⟩) l0).trans h.t2, h.bl.trans (hb.mono (by omega)), h.ix.stay hb l5, h.iy.stay hb l6, h.dbx.stay hb l1, h.dy.stay hb l7, h.xr.stay hb (fun _ => l3), h.yr.stay hb (fun _ => l4), h.obx.stay hb l2, Nat.le_trans h.hB hb.size, h.lts⟩
theorem LenW.step {w : World} {kind : Int} {px py : Option Addr} {n m cx cy g1 : Nat} {pd : Option Addr} {cd gd gx gy c1 c2 g2 bx ox b2 oy : Nat} {xs : List Int} {ys : List Nat} {B : Nat} {wr w' : World} (h : LenW w kind px py n m cx cy g1 pd cd gd gx gy c1 c2 g2 bx ox b2 oy xs ys B wr) (hb : Below wr.heap.size wr w') : LenW w kind px py n m cx cy g1 pd cd gd gx gy c1 c2 g2 bx ox b2 oy xs ys B w' := h.stay (hb.mono h.hB)
theorem lenX_head (xs : List Int) (j : Nat) (hj : j < xs.length) : xV xs j = xV (lenX xs) j := by
  unfold xV lenX
  rw [List.getD_eq_getElem?_getD, List.getD_eq_getElem?_getD, List.getElem?_append_left hj]
theorem lenY_head (ys : List Nat) (j : Nat) (hj : j < ys.length) : flV ys j = flV (lenY ys) j := by
  unfold flV lenY
  rw [List.getD_eq_getElem?_getD, List.getD_eq_getElem?_getD, List.getElem?_append_left hj]
/-- The law's own table. -/
theorem LenW.own {w : World} {kind : Int} {px py : Option Addr} {n m cx cy g1 : Nat} {pd : Option Addr} {cd gd gx gy c1 c2 g2 bx ox b2 oy : Nat} {xs : List Int} {ys : List Nat} {B : Nat} {wr : World} (h : LenW w kind px py n m cx cy g1 pd cd gd gx gy c1 c2 g2 bx ox b2 oy xs ys B wr) (hn : xs.length = n) (hm : ys.length = m) (hf : ∀ i < ys.length, ys.getD i 0 < 18446744073709551616) : TFl wr (some ⟨gx, 0, none⟩) (some ⟨gy, 0, none⟩) gx 0 gy 0 xs ys :=
  ⟨h.xr.head (by omega) (fun j hj => lenX_head xs j hj), h.yr.head (by omega) (fun j hj => lenY_head ys j hj), hf⟩
theorem LenW.docT {w : World} {kind : Int} {px py : Option Addr} {n m cx cy g1 : Nat} {pd : Option Addr} {cd gd gx gy c1 c2 g2 bx ox b2 oy : Nat} {xs : List Int} {ys : List Nat} {B : Nat} {wr : World} (h : LenW w kind px py n m cx cy g1 pd cd gd gx gy c1 c2 g2 bx ox b2 oy xs ys B wr) (hn : xs.length = n) (hm : ys.length = m) (hf : ∀ i < ys.length, ys.getD i 0 < 18446744073709551616) : TSrc wr px pd bx ox gd 0 xs ys :=
  ⟨by rw [hn]; exact h.ix, by rw [hm]; exact h.dy, fun i hi => u64N (hf i hi)⟩
end Go.Proofs.YtnmjljijgmmakabGreat
