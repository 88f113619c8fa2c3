/- Rows of memory of one's own, and worlds in which but few blocks were written. Contracts of package acc's words: ends, word, anyBit, sign, step. Contracts of package acc's words: settled, long, inverse, turned, size, same. Contracts of package acc's words: long, inverse, turned, size, same. -/
import Derived.Test.YtdmldggjgaaliaaGreatBase
import Derived.Test.YtdmldggjgaaliaaGreatFlo
import Derived.Test.YtdmldggjgaaliaaGreatAShelf
import Derived.WalkKit
import Derived.LoopTactic
import Derived.BigCall
import Derived.BigQuiet
import Derived.Maps.AppendAt
import Derived.Laws.OwnMore
import Derived.Deep.OwnRows
import Derived.Deep.LoopGhost
namespace Go.Proofs.YtdmldggjgaaliaaGreat.A
open Go.RowKit

theorem hideS {p : Prop} (h : p) : Hid p := h
/-- The same, with the elder world's name kept. -/
theorem turned {P : Program} {f : Nat} {args : Array Value} {w : World} {Q : Ending → Prop} (h : Calls P f args w fun e w' => Q e ∧ w' = w) : Calls P f args w fun e w' => Q e ∧ w = w' :=
  h.mono fun _ _ ⟨a, b⟩ => ⟨a, b.symm⟩
theorem infoU : (Tryz.prog.info? 29).map (fun i => (i.zero, i.size, i.bytes)) = some (some (.int .u64 0), 1, 8) := by kernel_rfl
theorem infoF : (Tryz.prog.info? 26).map (fun i => (i.zero, i.size, i.bytes)) = some (some (.float .f64 0), 1, 8) := by kernel_rfl

theorem own_below {w w' : World} {B e size n : Nat} {v : Value} {xs : List Value} (h : w.ownsRow B e size v n xs) (hb : Below w.heap.size w w') : w'.ownsRow B e size v n xs := by
  refine ⟨h.1, ?_⟩
  rcases h.2 with hn | ⟨g, cap, cur, rfl, hg, hgg, rest⟩
  · exact .inl hn
  · exact .inr ⟨g, cap, cur, rfl, hg, by rw [hb.block g (Array.getElem?_eq_some_iff.1 hgg).1]; exact hgg, rest⟩

def uV (x : Nat) : Value := .int .u64 (x : Int)
def fV (x : Nat) : Value := .float .f64 x
theorem getD_some {l : List Nat} {i : Nat} (hi : i < l.length) : l[i]? = some (l.getD i 0) := by simp [List.getD, List.getElem?_eq_getElem hi]
/-- The first k, as values. -/
def rowOf (f : Nat → Value) (l : List Nat) (k : Nat) : List Value := (l.take k).map f
theorem take_next {f : Nat → Value} {l : List Nat} {k : Nat} (hk : k < l.length) : rowOf f l (k + 1) = rowOf f l k ++ [f (l.getD k 0)] := by
  unfold rowOf
  rw [List.take_add_one, getD_some hk, List.map_append]; rfl
theorem rowOf_all (f : Nat → Value) (l : List Nat) : rowOf f l l.length = l.map f := by unfold rowOf; rw [List.take_length]

/-- A slice that reads as a list of floats, wherever it lies. -/
structure Src (w : World) (p : Option Addr) (b off : Nat) (xs : List Nat) : Prop where
  at_ : 0 < xs.length → p = some ⟨b, off, none⟩
  lt : 0 < xs.length → b < w.heap.size
  cell : ∀ j, j < xs.length → w.cell? ⟨b, off + j, none⟩ = some (.float .f64 (xs.getD j 0))
theorem Src.below {w w' : World} {p : Option Addr} {b off : Nat} {xs : List Nat} (h : Src w p b off xs) (hb : Below w.heap.size w w') : Src w' p b off xs :=
  ⟨h.at_, fun hx => Nat.lt_of_lt_of_le (h.lt hx) hb.size, fun j hj => (hb.cell (p := ⟨b, off + j, none⟩) (h.lt (by omega))).trans (h.cell j hj)⟩

/-- A row of words of one's own. -/
structure OwnW (w : World) (B : Nat) (v : Value) (xs : List Nat) : Prop where
  own : w.ownsRow B 29 1 v xs.length (xs.map uV)
  fit : FitW xs
theorem OwnW.below {w w' : World} {B : Nat} {v : Value} {xs : List Nat} (h : OwnW w B v xs) (hb : Below w.heap.size w w') : OwnW w' B v xs := ⟨own_below h.own hb, h.fit⟩
theorem OwnW.drewN {W : World} {B : Nat} {v : Value} {xs : List Nat} (h : OwnW W B v xs) (n : Nat) : OwnW (W.drewN n) B v xs := ⟨h.own, h.fit⟩
theorem OwnW.shape {w : World} {B : Nat} {v : Value} {xs : List Nat} (h : OwnW w B v xs) :
    ∃ p g c, v = .slice p xs.length c ∧ xs.length ≤ c ∧ c ≤ maxLen ∧ (0 < xs.length → p = some ⟨g, 0, none⟩ ∧ B ≤ g ∧ g < w.heap.size) ∧ ∀ j, j < xs.length → w.cell? ⟨g, j, none⟩ = some (.int .u64 (xs.getD j 0 : Nat)) := by
  rcases h.own.2 with ⟨hv, hn⟩ | ⟨g, cap, cur, hv, hb, hg, hc1, hc2, _⟩
  · exact ⟨none, 0, 0, by rw [hv, hn], by omega, by unfold maxLen; omega, fun h0 => by omega, fun j hj => by omega⟩
  · refine ⟨some ⟨g, 0, none⟩, g, cap, hv, hc1, hc2, fun _ => ⟨rfl, hb, (Array.getElem?_eq_some_iff.1 hg).1⟩, fun j hj => ?_⟩
    have h2 := h.own
    rw [hv] at h2
    rw [h2.cellAt j (by omega), List.getElem?_map, getD_some hj]; rfl
theorem OwnW.cell1 {w : World} {B g n c : Nat} {xs : List Nat} (h : OwnW w B (.slice (some ⟨g, 0, none⟩) n c) xs) (hn : xs.length = n) (j : Nat) (hj : j < xs.length) : w.cell? ⟨g, j, none⟩ = some (.int .u64 (xs.getD j 0 : Nat)) := by
  have h2 := h.own
  rw [hn] at h2
  rw [h2.cellAt j (by omega), List.getElem?_map, getD_some hj]; rfl
theorem OwnW.frozen1 {w : World} {B g n c : Nat} {xs : List Nat} (h : OwnW w B (.slice (some ⟨g, 0, none⟩) n c) xs) (hn : xs.length = n) (j : Nat) : w.frozen? ⟨g, j, none⟩ = false := by
  have h2 := h.own
  rw [hn] at h2
  exact World.ownsRow.frozenAt h2 j
theorem OwnW.kept {W wr : World} {B : Nat} {v : Value} {xs : List Nat} {row : Option Nat} (h : OwnW W B v xs) (hg : W.grownBy wr row) (hne : ∀ k, v.ownBlock = some k → row ≠ some k) : OwnW wr B v xs := by
  refine ⟨World.ownsRow.kept h.own hg ?_, h.fit⟩
  cases e : v.ownBlock with
  | none => exact Or.inl rfl
  | some k => exact Or.inr (fun h2 => hne k e h2.symm)
theorem OwnW.set {w : World} {B g n c : Nat} {xs : List Nat} (h : OwnW w B (.slice (some ⟨g, 0, none⟩) n c) xs) (hn : xs.length = n) (j x : Nat) (hx : x < 18446744073709551616) :
    OwnW (w.setCell ⟨g, j, none⟩ (.int .u64 (x : Int))) B (.slice (some ⟨g, 0, none⟩) n c) (xs.set j x) ∧ w.grownBy (w.setCell ⟨g, j, none⟩ (.int .u64 (x : Int))) (some g) := by
  have h2 := h.own
  rw [hn] at h2
  have h3 := World.ownsRow.stored h2 j (.int .u64 (x : Int))
  refine ⟨⟨by rw [List.length_set, hn, List.map_set]; exact h3.1, fun i => ?_⟩, h3.2⟩
  by_cases hi : i = j
  · subst hi
    by_cases hl : i < xs.length
    · simp [List.getD, hl]; exact hx
    · have := h.fit i
      simp [List.getD, List.getElem?_eq_none (show (xs.set i x).length ≤ i by simp; omega)]
  · have := h.fit i
    simpa [List.getD, List.getElem?_set_ne (fun e => hi e.symm)] using this
theorem grown_refl (W : World) (r : Option Nat) : W.grownBy W r := ⟨rfl, rfl, rfl, Nat.le_refl _, fun _ _ _ => rfl⟩
theorem grown_trans {a b c : World} {r : Option Nat} (h : a.grownBy b r) (h' : b.grownBy c r) : a.grownBy c r :=
  ⟨h'.os.trans h.os, h'.tape.trans h.tape, h'.output.trans h.output, Nat.le_trans h.size h'.size, fun k hk hne => (h'.block k (Nat.lt_of_lt_of_le hk h.size) hne).trans (h.block k hk hne)⟩
theorem grown_drew {a b : World} {r : Option Nat} (h : a.grownBy b r) (n : Nat) : a.grownBy (b.drewN n) r := ⟨h.os, h.tape, h.output, h.size, h.block⟩

/-- Of what was there only what F names was written. -/
structure Wrote (w w' : World) (F : Nat → Prop) : Prop where
  os : w'.os = w.os
  tape : w'.tape = w.tape
  output : w'.output = w.output
  size : w.heap.size ≤ w'.heap.size
  block : ∀ k, k < w.heap.size → ¬ F k → w'.heap[k]? = w.heap[k]?
theorem Wrote.refl (w : World) (F : Nat → Prop) : Wrote w w F := ⟨rfl, rfl, rfl, Nat.le_refl _, fun _ _ _ => rfl⟩
theorem Wrote.trans {a b c : World} {F G : Nat → Prop} (h : Wrote a b F) (h' : Wrote b c G) (hG : ∀ k, k < a.heap.size → G k → F k) : Wrote a c F :=
  ⟨h'.os.trans h.os, h'.tape.trans h.tape, h'.output.trans h.output, Nat.le_trans h.size h'.size, fun k hk hn => (h'.block k (Nat.lt_of_lt_of_le hk h.size) (fun g => hn (hG k hk g))).trans (h.block k hk hn)⟩
theorem Wrote.mono {a b : World} {F G : Nat → Prop} (h : Wrote a b F) (hG : ∀ k, F k → G k) : Wrote a b G := ⟨h.os, h.tape, h.output, h.size, fun k hk hn => h.block k hk (fun f => hn (hG k f))⟩
theorem Wrote.below {a b : World} {F : Nat → Prop} {B : Nat} (h : Wrote a b F) (hF : ∀ k, F k → B ≤ k) (hB : B ≤ a.heap.size) : Below B a b :=
  ⟨h.os, h.tape, h.output, h.size, fun k hk => h.block k (by omega) (fun f => by have := hF k f; omega)⟩
theorem wrote_below {a b : World} {F : Nat → Prop} (h : Below a.heap.size a b) : Wrote a b F := ⟨h.os, h.tape, h.output, h.size, fun k hk _ => h.block k hk⟩
theorem wrote_grown {a b : World} {r : Option Nat} (h : a.grownBy b r) : Wrote a b (fun k => r = some k) := ⟨h.os, h.tape, h.output, h.size, fun k hk hn => h.block k hk (fun e => hn e.symm)⟩
theorem Wrote.drewN {a b : World} {F : Nat → Prop} (h : Wrote a b F) (n : Nat) : Wrote a (b.drewN n) F := ⟨h.os, h.tape, h.output, h.size, h.block⟩
theorem OwnW.wrote {W wr : World} {B : Nat} {v : Value} {xs : List Nat} {F : Nat → Prop} (h : OwnW W B v xs) (hg : Wrote W wr F) (hne : ∀ k, v.ownBlock = some k → ¬ F k) : OwnW wr B v xs := by
  refine ⟨⟨h.own.1, ?_⟩, h.fit⟩
  rcases h.own.2 with hn | ⟨g, cap, cur, rfl, hb, hgg, rest⟩
  · exact .inl hn
  · exact .inr ⟨g, cap, cur, rfl, hb, by rw [hg.block g (Array.getElem?_eq_some_iff.1 hgg).1 (hne g rfl)]; exact hgg, rest⟩
theorem OwnW.lt {W : World} {B : Nat} {v : Value} {xs : List Nat} (h : OwnW W B v xs) : ∀ k, v.ownBlock = some k → B ≤ k ∧ k < W.heap.size := h.own.lt
theorem getD_set {xs : List Nat} {i j x : Nat} (hj : j < xs.length) : (xs.set j x).getD i 0 = if i = j then x else xs.getD i 0 := by
  by_cases h : i = j
  · subst h; simp [List.getD, hj]
  · rw [if_neg h]; simp [List.getD, List.getElem?_set_ne (fun e => h e.symm)]
end Go.Proofs.YtdmldggjgaaliaaGreat.A
namespace Go.Proofs.YtdmldggjgaaliaaGreat.A
open Go.RowKit

set_option maxHeartbeats 400000 in
theorem ends_any (B : Nat) (v : Value) (xs : List Nat) (w : World) (h : OwnW w B v xs) (hn : xs.length ≤ 100000000) :
    Calls Tryz.prog 67 #[v] w fun e w' => e = .returned (.int .u64 (endW xs : Nat)) ∧ w' = w := by
  obtain ⟨p, g, c, rfl, hc1, hc2, hp, hc⟩ := h.shape
  have HE := hideS (show endW xs = xs.getD (xs.length - 1) 0 from rfl)
  rw [HE.out]
  clear h HE
  generalize hN : xs.length = n at *
  cases n with
  | zero =>
    have : xs = [] := List.length_eq_zero_iff.1 hN
    subst this
    clear hp hc hN hc1 hc2
    go_enter Tryz.func67, Tryz.ntmps67
    go_wp2
    go_ret
    exact ⟨rfl, rfl⟩
  | succ m =>
    obtain ⟨rfl, _⟩ := hp (by omega)
    have hcl := hc m (by omega)
    clear hc hp hN hc1 hc2
    rw [Nat.add_sub_cancel]
    generalize xs.getD m 0 = x at hcl
    go_enter Tryz.func67, Tryz.ntmps67
    go_wp2
    go_ret
    exact ⟨rfl, rfl⟩

/-- Whether a word is not 0. -/
def anyB (xs : List Nat) : Bool := decide (ps (fun i => xs.getD i 0) xs.length ≠ 0)
set_option maxHeartbeats 400000 in
theorem anyBit_any (p : Option Addr) (g c n : Nat) (xs : List Nat) (w : World) (hp : 0 < n → p = some ⟨g, 0, none⟩) (hc : Hid (∀ j, j < n → w.cell? ⟨g, j, none⟩ = some (.int .u64 (xs.getD j 0 : Nat)))) (hn : n ≤ 100000000) :
    Calls Tryz.prog 70 #[.slice p n c] w fun e w' => e = .returned (.bool (decide (ps (fun i => xs.getD i 0) n ≠ 0))) ∧ w' = w := by
  obtain ⟨F, hF⟩ : ∃ F : Nat → Nat, F = fun i => xs.getD i 0 := ⟨_, rfl⟩
  have hc2 : Hid (∀ j, j < n → w.cell? ⟨g, j, none⟩ = some (.int .u64 (F j : Nat))) := by rw [hF]; exact hc
  rw [← hF]
  clear hc hF
  obtain ⟨r, hr⟩ : ∃ r, decide (ps F n ≠ 0) = r := ⟨_, rfl⟩
  rw [hr]
  have HR := hideS hr
  clear hr
  go_enter Tryz.func70, Tryz.ntmps70
  go_wp2
  go_loop [4, 7] (fun _ i => ∃ k : Nat, k ≤ n ∧ i = .int .i64 k ∧ Hid (ps F k = 0)) (fun _ i => n - (intOf i).toNat)
  case atStart => exact ⟨0, Nat.zero_le _, rfl, rfl⟩
  case round =>
    obtain ⟨k, hk, rfl, HP⟩ := hrel
    by_cases hlt : k < n
    · obtain rfl := hp (by omega)
      have hcl := hc2.out k hlt
      by_cases h0 : F k = 0
      · have HN : Hid (ps F (k + 1) = 0) := by show _ = _; rw [ps, HP.out, h0]; simp
        rw [h0] at hcl
        clear h0
        go_wp2
        go_round
        case rel => exact ⟨k + 1, by omega, by simp, HN⟩
        case measure => simp [intOf]; omega
      · have HN : Hid (decide (ps F n ≠ 0) = true) := by
          show _ = _
          rw [decide_eq_true_eq]
          intro e
          exact h0 (ps_eq_zero e k hlt)
        have h1 : ((F k : Int) == 0) = false := by simpa using h0
        clear h0
        generalize (F k : Int) = q at h1 hcl
        go_wp2
        go_ret
        exact ⟨ret_bool (HN.out.symm.trans HR.out), rfl⟩
    · obtain rfl : k = n := by omega
      have HN : Hid (decide (ps F k ≠ 0) = false) := by show _ = _; simp [HP.out]
      go_wp2
      go_ret
      exact ⟨ret_bool (HN.out.symm.trans HR.out), rfl⟩

/-- 1, or -1 where something is taken away. -/
def sI (less : Bool) : Int := if less then -1 else 1
theorem call_add64 (x y c : Nat) (hc : c ≤ 1) (w : World) : (callFunc 100 #[.int .u64 x, .int .u64 y, .int .u64 c]).run Tryz.prog w = .ok (.value (.tuple #[.int .u64 (((x + y + c) % 18446744073709551616 : Nat) : Int), .int .u64 (((x + y + c) / 18446744073709551616 : Nat) : Int)])) w :=
  Any7.bits_Add64 Tryz.addL x y c hc w
theorem call_sub64 (x y c : Nat) (hc : c ≤ 1) (w : World) : (callFunc 87 #[.int .u64 x, .int .u64 y, .int .u64 c]).run Tryz.prog w = .ok (.value (.tuple #[.int .u64 (((x + 18446744073709551616 - y - c) % 18446744073709551616 : Nat) : Int), .int .u64 ((if x < y + c then 1 else 0 : Nat) : Int)])) w :=
  Any7.bits_Sub64 Tryz.subL x y c hc w
theorem sub64_parts (x y c : Nat) (hc : c ≤ 1) (hx : x < 18446744073709551616) (hy : y < 18446744073709551616) : ∃ z c' : Nat, (x + 18446744073709551616 - y - c) % 18446744073709551616 = z ∧ (if x < y + c then 1 else 0) = c' ∧ z < 18446744073709551616 ∧ c' ≤ 1 ∧ (z : Int) + (-1) * ((c' : Int) * 18446744073709551616) = (x : Int) + (-1) * ((y : Int) + c) := by
  refine ⟨_, _, rfl, rfl, Nat.mod_lt _ (by decide), by split <;> omega, ?_⟩
  split <;> omega
theorem add64_parts (x y c : Nat) (hc : c ≤ 1) (hx : x < 18446744073709551616) (hy : y < 18446744073709551616) : ∃ z c' : Nat, (x + y + c) % 18446744073709551616 = z ∧ (x + y + c) / 18446744073709551616 = c' ∧ z < 18446744073709551616 ∧ c' ≤ 1 ∧ (z : Int) + 1 * ((c' : Int) * 18446744073709551616) = (x : Int) + 1 * ((y : Int) + c) := by
  refine ⟨_, _, rfl, rfl, Nat.mod_lt _ (by decide), by omega, ?_⟩
  omega

set_option maxHeartbeats 400000 in
theorem step_any (x y c : Nat) (less : Bool) (w : World) (hc : c ≤ 1) (hx : x < 18446744073709551616) (hy : y < 18446744073709551616) :
    Calls Tryz.prog 85 #[.int .u64 x, .int .u64 y, .int .u64 c, .bool less] w fun e w' => (∃ z c' : Nat, e = .returned (.tuple #[.int .u64 z, .int .u64 c']) ∧ z < 18446744073709551616 ∧ c' ≤ 1 ∧ (z : Int) + sI less * ((c' : Int) * 18446744073709551616) = (x : Int) + sI less * ((y : Int) + c)) ∧ w' = w := by
  cases less
  · obtain ⟨z, c', e1, e2, h1, h2, h3⟩ := add64_parts x y c hc hx hy
    have ha := call_add64 x y c hc
    rw [e1, e2] at ha
    have H3 := hideS h3
    clear e1 e2 h3 hx hy
    go_enter Tryz.func85, Tryz.ntmps85
    go_wp2
    go_ret2
    exact ⟨⟨z, c', rfl, h1, h2, H3.out⟩, rfl⟩
  · obtain ⟨z, c', e1, e2, h1, h2, h3⟩ := sub64_parts x y c hc hx hy
    have ha := call_sub64 x y c hc
    rw [e1, e2] at ha
    have H3 := hideS h3
    clear e1 e2 h3 hx hy
    go_enter Tryz.func85, Tryz.ntmps85
    go_wp2
    go_ret2
    exact ⟨⟨z, c', rfl, h1, h2, H3.out⟩, rfl⟩
end Go.Proofs.YtdmldggjgaaliaaGreat.A
namespace Go.Proofs.YtdmldggjgaaliaaGreat.A
open Go.RowKit

/-- A slice's block is the elder one's, or new. -/
def New (w : World) (v v' : Value) : Prop := ∀ k, v'.ownBlock = some k → v.ownBlock = some k ∨ w.heap.size ≤ k
theorem New.refl (w : World) (v : Value) : New w v v := fun _ h => Or.inl h
theorem New.trans {w w1 : World} {v v1 v2 : Value} (h : New w v v1) (h' : New w1 v1 v2) (hs : w.heap.size ≤ w1.heap.size) : New w v v2 := fun k hk => by
  rcases h' k hk with h1 | h1
  · exact h k h1
  · exact Or.inr (by omega)
/-- What the row's own block names. -/
def At (v : Value) (k : Nat) : Prop := v.ownBlock = some k

theorem run_append_word (t ty : TypeId) (ht : Tryz.prog.underlying t = some (.slice 29)) (w : World) (B : Nat) (v : Value) (xs : List Nat) (hown : OwnW w B v xs) (a : Addr) (c x : Nat) (hx : x < 18446744073709551616) (hcell : w.cell? (a.add 0) = some (.int .u64 (x : Int))) (hn : xs.length ≤ 100000000) (hB : B ≤ w.heap.size) :
    ∃ v' w', (Builtin.append_ #[t, t] ty #[v, .slice (some a) 1 c]).run Tryz.prog w = .ok v' w' ∧ OwnW w' B v' (xs ++ [x]) ∧ w.grownBy w' v.ownBlock ∧ New w v v' := by
  obtain ⟨i0, hi, hz0, hz1, hz2⟩ := info_parts infoU
  have hnews : ∀ (j : Nat) (u : Value), [uV x][j]? = some u → w.cell? (a.add j) = some u := by
    intro j u hj
    match j, hj with
    | 0, hj => simp at hj; subst hj; exact hcell
  have h1 : ∀ u ∈ [uV x], u.oneCell' = true := by intro u hu; simp at hu; subst hu; rfl
  have key : ∀ B', B' ≤ w.heap.size → w.ownsRow B' 29 1 v xs.length (xs.map uV) → ∃ v' w', (Builtin.append_ #[t, t] ty #[v, .slice (some a) 1 c]).run Tryz.prog w = .ok v' w' ∧ w'.ownsRow B' 29 1 v' (xs.length + 1) (xs.map uV ++ [uV x]) ∧ w.grownBy w' v.ownBlock := by
    intro B' hB' ho
    obtain ⟨v', w', hr, h2, h3, _⟩ := run_append_own (P := Tryz.prog) w B' t ty 29 i0 (.int .u64 0) 1 8 ht hi hz0 hz1 hz2 rfl (by decide) v xs.length (xs.map uV) ho a 1 c [uV x] rfl hnews h1 (by unfold maxLen; omega) (by omega) hB'
    exact ⟨v', w', hr, h2, h3⟩
  obtain ⟨v', w', hr, h2, h3⟩ := key B hB hown.own
  refine ⟨v', w', hr, ⟨by rw [List.length_append, List.length_singleton, List.map_append]; exact h2, hown.fit.snoc hx⟩, h3, ?_⟩
  intro k hk
  rcases hown.own.2 with ⟨rfl, hn0⟩ | ⟨g, cap, cur, rfl, hb, hg, hnc, hcm, hcs, htake⟩
  · have hx0 : xs = [] := List.length_eq_zero_iff.1 hn0
    subst hx0
    obtain ⟨v2, w2, hr2, h22, _⟩ := key w.heap.size (Nat.le_refl _) (World.ownsRow_nil _ _ _ _)
    rw [hr] at hr2
    injection hr2 with e1 e2
    subst e1
    exact Or.inr (h22.lt k hk).1
  · by_cases hroom : xs.length + 1 ≤ cap
    · obtain ⟨w2, hr2, _⟩ := run_append_fits (P := Tryz.prog) w B t ty 29 i0 1 ht hi hz1 g xs.length cap (xs.map uV) hown.own a 1 c [uV x] rfl hnews h1 hroom
      rw [hr] at hr2
      injection hr2 with e1 e2
      subst e1
      exact Or.inl hk
    · have hr2 := run_append_grow (P := Tryz.prog) w t ty 29 i0 (.int .u64 0) ht hi hz0 ⟨g, 0, none⟩ xs.length cap (xs.map uV) (by rw [hz1]; simp) (hown.own.cells rfl) a 1 c [uV x] (by rw [hz1]; rfl) hnews (by omega) (by omega) (by rw [hz2]; exact growslice_fits (by omega) (by omega))
      rw [hr] at hr2
      injection hr2 with e1 e2
      subst e1
      simp [Value.ownBlock] at hk
      exact Or.inr (by omega)

theorem wpList_append_word (w : World) {ops : Array Oper} {rest : List Oper} {o : Oper} {a : Act} {Q : Exit → Act → World → Prop} (hgd : o.guard = none) (s x : Operand) (t : TypeId)
    (ho : o.op = .call { callee := .builtin .append, args := #[s, x], argTypes := #[t, t] }) (ht : Tryz.prog.underlying t = some (.slice 29)) (B : Nat) (v : Value) (xs : List Nat) (hs : a.eval s = v) (hown : OwnW w B v xs)
    (ad : Addr) (c y : Nat) (hx : a.eval x = .slice (some ad) 1 c) (hy : y < 18446744073709551616) (hcell : w.cell? (ad.add 0) = some (.int .u64 (y : Int))) (hn : xs.length ≤ 100000000) (hB : B ≤ w.heap.size)
    (h : ∀ v' w', OwnW w' B v' (xs ++ [y]) → w.grownBy w' v.ownBlock → New w v v' → wpList Tryz.prog ops Q rest (a.put o.dst v') w') : wpList Tryz.prog ops Q (o :: rest) a w := by
  obtain ⟨v', w', hr, h2, h3, h4⟩ := run_append_word t o.type ht w B v xs hown ad c y hy hcell hn hB
  refine wpList_plain hgd fun K hK => ?_
  unfold Oper.wp execOp
  simp only [ho, resolve, invoke, builtin, Sem.run_bind, Sem.run_pure, Result.andThen_ok, List.map_toArray, List.map_cons, List.map_nil, hs, hx, hr]
  exact hK _ _ (h v' w' h2 h3 h4)

theorem wrote_app {w w1 : World} {v : Value} (o : Obj) (h : (w.alloc o).grownBy w1 v.ownBlock) : Wrote w w1 (At v) :=
  ⟨h.os, h.tape, h.output, Nat.le_trans (by simp) h.size, fun k hk hn => (h.block k (by simp; omega) (fun e => hn e.symm)).trans (heap_alloc_old w o hk)⟩
theorem new_app {w : World} {v v' : Value} (o : Obj) (h : New (w.alloc o) v v') : New w v v' := fun k hk => by
  rcases h k hk with h1 | h1
  · exact Or.inl h1
  · exact Or.inr (by simp at h1; omega)
theorem OwnW.alloc {w : World} {B : Nat} {v : Value} {xs : List Nat} (h : OwnW w B v xs) (o : Obj) : OwnW (w.alloc o) B v xs := ⟨h.own.alloc o, h.fit⟩

/-- The sign of a word, as a word. -/
theorem sign_word {e : Nat} (h : e < 18446744073709551616) : IntKind.u64.wrap (IntKind.i64.wrap (e : Int) / 9223372036854775808) = ((if e < 9223372036854775808 then 0 else 18446744073709551615 : Nat) : Int) := by
  rw [IntKind.wrap_u64, IntKind.wrap_i64]
  split <;> omega

set_option maxHeartbeats 400000 in
theorem settled_any (B : Nat) (v : Value) (xs : List Nat) (w : World) (h : OwnW w B v xs) (hn : xs.length ≤ 100000) (hB : B ≤ w.heap.size) :
    Calls Tryz.prog 86 #[v] w fun e w' => ∃ v', e = .returned v' ∧ OwnW w' B v' (settle xs) ∧ Wrote w w' (At v) ∧ New w v v' := by
  have HE := hideS (ends_any B v xs w h (by omega))
  have HO := hideS h
  have hf : endW xs < 18446744073709551616 := h.fit _
  have HS := hideS (show settle xs = if endW xs = 0 ∨ endW xs = 18446744073709551615 then xs else xs ++ [if endW xs < 9223372036854775808 then 0 else 18446744073709551615] from rfl)
  clear h
  generalize endW xs = e at *
  by_cases h0 : e = 0 ∨ e = 18446744073709551615
  · have HX : Hid (settle xs = xs) := by show _ = _; rw [HS.out, if_pos h0]
    rw [HX.out]
    clear HS HX
    rcases h0 with rfl | rfl
    · go_enter Tryz.func86, Tryz.ntmps86
      go_wp2_with (go_at_call 67; refine HE.out.mono ?_; rintro e w' ⟨rfl, rfl⟩)
      go_ret
      exact ⟨v, rfl, HO.out, Wrote.refl _ _, New.refl _ _⟩
    · go_enter Tryz.func86, Tryz.ntmps86
      go_wp2_with (go_at_call 67; refine HE.out.mono ?_; rintro e w' ⟨rfl, rfl⟩)
      go_ret
      exact ⟨v, rfl, HO.out, Wrote.refl _ _, New.refl _ _⟩
  · have HX : Hid (settle xs = xs ++ [if e < 9223372036854775808 then 0 else 18446744073709551615]) := by show _ = _; rw [HS.out, if_neg h0]
    have hw := sign_word hf
    obtain ⟨s, hs⟩ : ∃ s : Nat, (if e < 9223372036854775808 then 0 else 18446744073709551615 : Nat) = s := ⟨_, rfl⟩
    have hsf : s < 18446744073709551616 := by rw [← hs]; split <;> omega
    rw [hs] at hw HX
    rw [HX.out]
    clear HS HX hs
    obtain ⟨u, hu⟩ : ∃ u : Int, u = e := ⟨_, rfl⟩
    have h1 : (u != 0) = true := by simp; omega
    have h2 : (u != 18446744073709551615) = true := by simp; omega
    rw [← hu] at HE hw
    clear h0 hf hu
    have hw2 : IntKind.u64.wrap (wrap64 u / 9223372036854775808) = (s : Int) := by rw [← hw, IntKind.wrap_i64, wrap64]
    clear hw
    go_enter Tryz.func86, Tryz.ntmps86
    go_wp2_with (first | (go_at_call 67; refine HE.out.mono ?_; rintro e w' ⟨rfl, rfl⟩) | (at_builtin; refine wpList_append_word _ rfl _ _ 58 rfl Tryz.underlying58 B v xs rfl (HO.out.alloc _) ⟨_, 0, none⟩ 1 s rfl hsf ?c1 (by omega) ?c2 ?_))
    case c1 => simp [Addr.add]
    case c2 => simp; omega
    intro v' w1 ho hg hN
    have R := hideS (And.intro ho (And.intro (wrote_app _ hg) (new_app _ hN)))
    clear ho hg hN
    go_wp2
    go_ret
    exact ⟨v', rfl, R.out.1, R.out.2.1, R.out.2.2⟩
end Go.Proofs.YtdmldggjgaaliaaGreat.A
namespace Go.Proofs.YtdmldggjgaaliaaGreat.A
open Go.RowKit

/-- The words and more of the sign, up to n. -/
def longW (xs : List Nat) (n : Nat) : List Nat := xs ++ List.replicate (n - xs.length) (endW xs)
theorem longW_len (xs : List Nat) (n : Nat) : (longW xs n).length = max xs.length n := by simp [longW]; omega
theorem longW_none {xs : List Nat} {n : Nat} (h : n ≤ xs.length) : longW xs n = xs := by simp [longW, Nat.sub_eq_zero_of_le h]
theorem longW_next {xs : List Nat} {k : Nat} (h : xs.length ≤ k) : longW xs (k + 1) = longW xs k ++ [endW xs] := by
  unfold longW
  rw [show k + 1 - xs.length = (k - xs.length) + 1 by omega, List.replicate_succ', List.append_assoc]
theorem endW_long {xs : List Nat} {k : Nat} (h : xs.length ≤ k) : endW (longW xs k) = endW xs := by
  induction k with
  | zero => rw [longW_none (by omega)]
  | succ k ih =>
    by_cases hk : xs.length = k + 1
    · rw [longW_none (by omega)]
    · rw [longW_next (by omega), endW_snoc]
theorem _root_.Go.Proofs.YtdmldggjgaaliaaGreat.Sg.long {xs : List Nat} {N : Int} (h : Sg xs N) (n : Nat) : Sg (longW xs n) N := by
  induction n with
  | zero => rw [longW_none (by omega)]; exact h
  | succ k ih =>
    by_cases hk : k + 1 ≤ xs.length
    · rw [longW_none hk]; exact h
    · have := ih.more
      rw [endW_long (by omega)] at this
      rw [longW_next (by omega)]; exact this

/-- slices.Grow of a row of words. -/
theorem grow_any (B : Nat) (v : Value) (xs : List Nat) (n : Nat) (w : World) (h : OwnW w B v xs) (hn : xs.length + n ≤ 1000000) (hB : B ≤ w.heap.size) :
    Calls Tryz.prog 99 #[v, .int .i64 n] w fun e w' => ∃ v', e = .returned v' ∧ OwnW w' B v' xs ∧ Wrote w w' (At v) ∧ New w v v' := by
  obtain ⟨i0, hi, hz0, hz1, hz2⟩ := info_parts infoU
  have grow : ∀ (p : Option Addr) (c : Nat) (cs : List Value), v = .slice p xs.length c → xs.length ≤ c → c < xs.length + n → cs.length = c → (p = none → c = 0) → (∀ a, p = some a → ∀ j u, cs[j]? = some u → w.cell? (a.add j) = some u) → cs.take xs.length = xs.map uV →
      Calls Tryz.prog 99 #[v, .int .i64 n] w fun e w' => ∃ v', e = .returned v' ∧ OwnW w' B v' xs ∧ Wrote w w' (At v) ∧ New w v v' := by
    intro p c cs hv h1 h2 h3 h4 h5 h6
    have hg := Any8.slices_Grow_grow Tryz.growL i0 (.int .u64 0) hi hz0 (by rw [hz1]; decide) p xs.length c n cs w h1 h2 (by rw [hz2]; omega) (by omega) (by rw [h3, hz1]; omega) h4 h5
    rw [hv]
    refine Calls.mono hg ?_
    rintro e w' ⟨rfl, rfl⟩
    refine ⟨_, rfl, ⟨⟨by simp, .inr ⟨w.heap.size, _, _, rfl, hB, heap_alloc_new w.drew _, ?_, ?_, ?_, ?_⟩⟩, h.fit⟩, ?_, ?_⟩
    · exact Nat.le_trans (Nat.le_add_right _ _) (grownCap_ge w _ _ _)
    · exact grownCap_le_maxLen w _ _ _ (by unfold maxLen; omega)
    · have := grownCap_ge w (xs.length + n) c (Tryz.growL_ren.t 25)
      simp only [Array.size_append, List.size_toArray, size_zeroCells, h3, show (Value.int IntKind.u64 0).cells.size = 1 from rfl, Nat.mul_one]
      omega
    · rw [Array.toList_append, Array.toList_append, List.append_assoc, Nat.mul_one]
      rw [List.take_append_of_le_length (by simp; omega)]
      simpa using h6
    · exact ⟨rfl, rfl, rfl, by simp, fun k hk _ => heap_alloc_old w.drew _ hk⟩
    · intro k hk
      simp [Value.ownBlock] at hk
      exact Or.inr (by omega)
  rcases h.own.2 with ⟨hv, hn0⟩ | ⟨g, cap, cur, hv, hb, hg, hnc, hcm, hcs, htake⟩
  · by_cases h0 : n = 0
    · subst h0
      refine Calls.mono (Any8.slices_Grow_room Tryz.growL none 0 0 0 w (Nat.le_refl _) (by omega) (by omega) (by omega) : Calls Tryz.prog 99 #[.slice none 0 0, .int .i64 (0 : Nat)] w _) ?_ |> (by rw [hv]; exact ·)
      rintro e w' ⟨rfl, rfl⟩
      exact ⟨_, rfl, hv ▸ h, Wrote.refl _ _, New.refl _ _⟩
    · exact grow none 0 [] (by rw [hv, hn0]) (by omega) (by omega) rfl (fun _ => rfl) (fun a ha => by cases ha) (by simp [List.length_eq_zero_iff.1 hn0])
  · by_cases hroom : xs.length + n ≤ cap
    · refine Calls.mono (Any8.slices_Grow_room Tryz.growL (some ⟨g, 0, none⟩) xs.length cap n w hnc (by unfold maxLen at hcm; omega) (by omega) hroom : Calls Tryz.prog 99 #[.slice (some ⟨g, 0, none⟩) xs.length cap, .int .i64 (n : Nat)] w _) ?_ |> (by rw [hv]; exact ·)
      rintro e w' ⟨rfl, rfl⟩
      exact ⟨_, rfl, hv ▸ h, Wrote.refl _ _, New.refl _ _⟩
    · refine grow (some ⟨g, 0, none⟩) cap cur.toList hv hnc (by omega) (by simpa using hcs) (fun e => by cases e) ?_ (by simpa using htake)
      intro a ha j u hj
      cases ha
      rw [Addr.add_lit, cell_of_row w g _ cur _ (0, 0) hg]
      simpa using hj

set_option maxHeartbeats 400000 in
theorem long_same (B : Nat) (v : Value) (xs : List Nat) (n : Nat) (w : World) (h : OwnW w B v xs) (hs : n ≤ xs.length) :
    Calls Tryz.prog 84 #[v, .int .i64 n] w fun e w' => e = .returned v ∧ w' = w := by
  obtain ⟨p, g, c, rfl, hc1, hc2, _, _⟩ := h.shape
  clear h
  generalize xs.length = l at *
  go_enter Tryz.func84, Tryz.ntmps84
  go_wp2
  go_ret
  exact ⟨rfl, rfl⟩

set_option maxHeartbeats 800000 in
theorem long_any (B : Nat) (v : Value) (xs : List Nat) (n : Nat) (w : World) (h : OwnW w B v xs) (hl : xs.length ≤ 100000) (hn : n ≤ 100000) (hB : B ≤ w.heap.size) :
    Calls Tryz.prog 84 #[v, .int .i64 n] w fun e w' => ∃ v', e = .returned v' ∧ OwnW w' B v' (longW xs n) ∧ Wrote w w' (At v) ∧ New w v v' := by
  obtain ⟨p, g, c, hv, hc1, hc2, _, _⟩ := h.shape
  have HE := hideS (ends_any B v xs w h (by omega))
  have hef : endW xs < 18446744073709551616 := h.fit _
  have HO := hideS h
  by_cases hs : n ≤ xs.length
  · rw [longW_none hs]
    rw [hv] at HE HO ⊢
    clear h hv
    generalize xs.length = l at *
    go_enter Tryz.func84, Tryz.ntmps84
    go_wp2
    go_ret
    exact ⟨_, rfl, HO.out, Wrote.refl _ _, New.refl _ _⟩
  · have HG : Hid (Calls Tryz.prog 99 #[v, .int .i64 ((n : Int) - (xs.length : Int) + 1)] w fun e w' => ∃ v', e = .returned v' ∧ OwnW w' B v' xs ∧ Wrote w w' (At v) ∧ New w v v') := by
      have := grow_any B v xs (n - xs.length + 1) w h (by omega) hB
      rw [show ((n - xs.length + 1 : Nat) : Int) = (n : Int) - (xs.length : Int) + 1 by omega] at this
      exact this
    have HX := hideS (fun k (hk : xs.length ≤ k) => longW_next (xs := xs) hk)
    have HL := hideS (fun k => longW_len xs k)
    have H0 := hideS (longW_none (Nat.le_refl xs.length))
    rw [hv] at HE HO HG ⊢
    clear h hv
    have hl0 : Hid (xs.length = xs.length) := rfl
    generalize hLL : xs.length = l at *
    replace hl0 : Hid (xs.length = l) := hLL
    clear hLL
    generalize endW xs = en at *
    go_enter Tryz.func84, Tryz.ntmps84
    go_wp2_with (first | (go_at_call 67; refine HE.out.mono ?_; rintro e w' ⟨rfl, rfl⟩) | (go_at_call 99; refine HG.out.mono ?_; rintro e w1 ⟨v1, rfl, o1, r1, n1⟩))
    have R1 := hideS (And.intro o1 (And.intro r1 n1))
    clear o1 r1 n1 HG HE HO
    go_loopg [0] (n - l) (fun m v wr => ∃ (k : Nat) (p' : Option Addr) (c' : Nat), l ≤ k ∧ k ≤ n ∧ m = n - k ∧ v = .slice p' k c' ∧ Hid (OwnW wr B (.slice p' k c') (longW xs k) ∧ Wrote w' wr (At (.slice p l c)) ∧ New w' (.slice p l c) (.slice p' k c')))
    case atStart =>
      obtain ⟨p1, g1, c1, hv1, _⟩ := R1.out.1.shape
      rw [hl0.out] at hv1
      refine ⟨l, p1, c1, Nat.le_refl _, by omega, rfl, hv1, ?_⟩
      rw [← hv1, H0.out]; exact R1.out
    case round =>
      obtain ⟨k, p', c', hk0, hk, rfl, rfl, HR⟩ := hrel
      by_cases hlt : k < n
      · have hbs : B ≤ wr.heap.size := Nat.le_trans hB HR.out.2.1.size
        go_wp2_with (at_builtin; refine wpList_append_word _ rfl _ _ 58 rfl Tryz.underlying58 B (.slice p' k c') (longW xs k) rfl (HR.out.1.alloc _) ⟨_, 0, none⟩ 1 en rfl hef ?c1 (by rw [HL.out]; omega) ?c2 ?_)
        case c1 => simp [Addr.add]
        case c2 => simp; omega
        intro v' w2 ho hg hN
        obtain ⟨p2, g2, c2, hv2, _⟩ := ho.shape
        rw [← HX.out k hk0, HL.out, show max l (k + 1) = k + 1 by omega] at hv2
        rw [← HX.out k hk0, hv2] at ho
        rw [hv2] at hN
        have R2 := hideS (And.intro ho (And.intro (HR.out.2.1.trans (wrote_app _ hg) ?t1) (HR.out.2.2.trans (new_app _ hN) HR.out.2.1.size)))
        case t1 =>
          intro j hj hj2
          rcases HR.out.2.2 j hj2 with h5 | h5
          · exact h5
          · omega
        subst hv2
        clear ho hg hN HR
        go_wp2
        go_roundg (n - (k + 1))
        case measure => omega
        case rel => exact ⟨k + 1, p2, c2, by omega, by omega, rfl, rfl, R2⟩
      · obtain rfl : k = n := by omega
        go_wp2
        go_ret
        exact ⟨_, rfl, HR.out⟩
end Go.Proofs.YtdmldggjgaaliaaGreat.A
