/- A schedule's dates and periods: no word of the program. Rows of ints of one's own. -/
import Derived.Test.YtelghkhcplmnmaaHag
import Derived.Test.YtelghkhcplmnmaaHae
import Derived.Test.YtelghkhcplmnmaaRows
import Derived.Laws.AppendOwnNone
import Derived.OwnWalk
import Derived.WalkKit
import Derived.Handy
namespace Go.Proofs.Ytelghkhcplmnmaa
open Go.RowKit

/-- The anchor, the other end, the way. -/
def ancI (s : Spc) : Int := if s.stub ≤ 2 then s.en else s.st
def othI (s : Spc) : Int := if s.stub ≤ 2 then s.st else s.en
def sgnI (s : Spc) : Int := if s.stub ≤ 2 then -1 else 1
/-- The k-th point. -/
noncomputable def pkO (s : Spc) (k : Nat) : Option Int := ptO s (ancI s) (k * sgnI s)
/-- Does such a point end the list? -/
def outB (s : Spc) : Option Int → Bool
  | none => true
  | some x => if s.stub ≤ 2 then decide (x ≤ s.st) else decide (s.en ≤ x)
/-- K points lie inside. -/
structure DatR (s : Spc) (K : Nat) : Prop where
  ins : ∀ j < K, outB s (pkO s (j + 1)) = false
  out : outB s (pkO s (K + 1)) = true
theorem dat_ex {s : Spc} (h : SpcOk s) : ∃ K, DatR s K := by
  obtain ⟨K, _, a, b⟩ := least_of (p := fun j => !outB s (pkO s (j + 1))) 200001 ⟨200001, Nat.le_refl _, by
    have : pkO s (200001 + 1) = none := by
      unfold pkO
      refine pt_far h.n1 ?_
      unfold sgnI
      split
      · exact Or.inl (by omega)
      · exact Or.inr (by omega)
    simp only [this]; rfl⟩
  exact ⟨K, fun j hj => by have := b j hj; simpa using this, by simpa using a⟩
theorem dat_unique {s : Spc} {K K' : Nat} (h : DatR s K) (h' : DatR s K') : K = K' := by
  rcases Nat.lt_trichotomy K K' with e | e | e
  · have := h'.ins K e; rw [h.out] at this; exact Bool.noConfusion this
  · exact e
  · have := h.ins K' e; rw [h'.out] at this; exact Bool.noConfusion this
/-- The first K points. -/
noncomputable def innL (s : Spc) (K : Nat) : List Int := (List.range K).map fun j => (pkO s (j + 1)).getD 0
theorem inn_len (s : Spc) (K : Nat) : (innL s K).length = K := by unfold innL; simp
theorem inn_succ (s : Spc) (K : Nat) : innL s (K + 1) = innL s K ++ [(pkO s (K + 1)).getD 0] := by
  unfold innL; rw [List.range_succ, List.map_append]; rfl
theorem inn_get {s : Spc} {K j : Nat} (h : j < K) : (innL s K).getD j 0 = (pkO s (j + 1)).getD 0 := by unfold innL; simp [List.getD, h]
theorem inn_some {s : Spc} {K j : Nat} (h : DatR s K) (hj : j < K) : ∃ x, pkO s (j + 1) = some x ∧ (if s.stub ≤ 2 then s.st < x else x < s.en) := by
  have := h.ins j hj
  cases hp : pkO s (j + 1) with
  | none => rw [hp] at this; exact Bool.noConfusion this
  | some x =>
    rw [hp] at this
    refine ⟨x, rfl, ?_⟩
    have h2 : (if s.stub ≤ 2 then decide (x ≤ s.st) else decide (s.en ≤ x)) = false := this
    by_cases hs : s.stub ≤ 2
    · rw [if_pos hs] at h2 ⊢
      have := of_decide_eq_false h2
      omega
    · rw [if_neg hs] at h2 ⊢
      have := of_decide_eq_false h2
      omega
/-- Does it come out even? -/
noncomputable def evenB (s : Spc) (K : Nat) : Bool := pkO s (K + 1) == some (othI s)
/-- How many cuts stay. -/
noncomputable def cutN (s : Spc) (K : Nat) : Nat := if (s.stub = 2 ∨ s.stub = 4) ∧ evenB s K = false ∧ 0 < K then K - 1 else K
theorem cut_le (s : Spc) (K : Nat) : cutN s K ≤ K := by unfold cutN; split <;> omega
/-- The i-th cut of C, rising. -/
noncomputable def cutI (s : Spc) (C i : Nat) : Int := if s.stub ≤ 2 then (pkO s (C - i)).getD 0 else (pkO s (i + 1)).getD 0
/-- The days that cut. -/
noncomputable def datL (s : Spc) (C : Nat) : List Int := s.st :: ((List.range C).map (cutI s C) ++ [s.en])
theorem dat_len (s : Spc) (C : Nat) : (datL s C).length = C + 2 := by unfold datL; simp
/-- Up to the i-th. -/
noncomputable def datP (s : Spc) (C i : Nat) : List Int := s.st :: (List.range i).map (cutI s C)
theorem datP_len (s : Spc) (C i : Nat) : (datP s C i).length = i + 1 := by unfold datP; simp
theorem datP_succ (s : Spc) (C i : Nat) : datP s C (i + 1) = datP s C i ++ [cutI s C i] := by
  unfold datP; rw [List.range_succ, List.map_append]; rfl
theorem datP_end (s : Spc) (C : Nat) : datP s C C ++ [s.en] = datL s C := by unfold datP datL; rfl
theorem inn_cut {s : Spc} {K C i : Nat} (hC : C ≤ K) (hi : i < C) : (innL s K).getD (if s.stub ≤ 2 then C - 1 - i else i) 0 = cutI s C i := by
  unfold cutI
  by_cases hs : s.stub ≤ 2
  · rw [if_pos hs, if_pos hs, inn_get (by omega), show C - 1 - i + 1 = C - i by omega]
  · rw [if_neg hs, if_neg hs, inn_get (by omega)]

/-- A period's five numbers. -/
structure Per where
  (fr to st en pay : Int)
/-- The period between two days, or none. -/
noncomputable def perO (op : Int → Bool) (s : Spc) (a b : Int) : Option Per :=
  match adjO op a s.conv with
  | none => none
  | some x => match adjO op b s.conv with
    | none => none
    | some y => if 0 < s.lag then (match addO op 1 s.lag.toNat y with | none => none | some z => some ⟨a, b, x, y, z⟩) else some ⟨a, b, x, y, y⟩
end Go.Proofs.Ytelghkhcplmnmaa
namespace Go.Proofs.Ytelghkhcplmnmaa
open Go.RowKit

def iV (x : Int) : Value := .int .i64 x
theorem info_int : (Try.prog.info? 3).map (fun i => (i.zero, i.size, i.bytes)) = some (some (.int .i64 0), 1, 8) := by kernel_rfl
/-- A slice that reads as a list of ints. -/
structure ISrc (w : World) (p : Option Addr) (b off : Nat) (xs : List Int) : Prop where
  at_ : 0 < xs.length → p = some ⟨b, off, none⟩
  lt : 0 < xs.length → b < w.heap.size
  cell : ∀ j, j < xs.length → w.cell? ⟨b, off + j, none⟩ = some (.int .i64 (xs.getD j 0))
theorem ISrc.below {w w' : World} {p : Option Addr} {b off : Nat} {xs : List Int} (h : ISrc w p b off xs) (hb : Below w.heap.size w w') : ISrc w' p b off xs :=
  ⟨h.at_, fun hx => Nat.lt_of_lt_of_le (h.lt hx) hb.size, fun j hj => (hb.cell (p := ⟨b, off + j, none⟩) (h.lt (by omega))).trans (h.cell j hj)⟩
theorem iown_src {w : World} {base n : Nat} {v : Value} {xs : List Int} (h : w.ownsRow base 3 1 v n (xs.map iV)) (hn : xs.length = n) :
    ∃ p g c, v = .slice p n c ∧ ISrc w p g 0 xs ∧ base ≤ g ∧ n ≤ c ∧ c ≤ maxLen := by
  rcases h.2 with ⟨rfl, rfl⟩ | ⟨g, cap, cur, rfl, hg, hh, hnc, hcm, hsz, htk⟩
  · exact ⟨none, base, 0, rfl, ⟨fun h => by omega, fun h => by omega, fun i hi => by omega⟩, Nat.le_refl _, Nat.le_refl _, Nat.zero_le _⟩
  · refine ⟨_, g, cap, rfl, ⟨fun _ => rfl, fun _ => (Array.getElem?_eq_some_iff.1 hh).1, fun i hi => ?_⟩, hg, hnc, hcm⟩
    rw [Nat.zero_add, World.ownsRow.cellAt h i (by omega), List.getElem?_map, List.getD_eq_getElem?_getD, List.getElem?_eq_getElem hi]; rfl
theorem iown_nil (w : World) (base : Nat) : w.ownsRow base 3 1 (.slice none 0 0) 0 (([] : List Int).map iV) := ⟨rfl, Or.inl ⟨rfl, rfl⟩⟩
theorem iown_below {w w' : World} {base n : Nat} {v : Value} {xs : List Int} (h : w.ownsRow base 3 1 v n (xs.map iV)) (hb : Below w.heap.size w w') : w'.ownsRow base 3 1 v n (xs.map iV) := by
  refine ⟨h.1, ?_⟩
  rcases h.2 with hn | ⟨g, cap, cur, rfl, hg, hgg, rest⟩
  · exact .inl hn
  · exact .inr ⟨g, cap, cur, rfl, hg, by rw [hb.block g (Array.getElem?_eq_some_iff.1 hgg).1]; exact hgg, rest⟩
theorem iown_one (w : World) (x : Int) : (w.alloc (.cells #[.int .i64 x] 3)).ownsRow w.heap.size 3 1 (.slice (some ⟨w.heap.size, 0, none⟩) 1 1) 1 ([x].map iV) :=
  ⟨rfl, .inr ⟨w.heap.size, 1, #[.int .i64 x], rfl, Nat.le_refl _, heap_alloc_new w _, Nat.le_refl _, by unfold maxLen; omega, rfl, rfl⟩⟩
theorem igrown_below {w w' : World} {v : Value} {B n : Nat} {xs : List Value} (ho : w.ownsRow B 3 1 v n xs) (hg : w.grownBy w' v.ownBlock) (hB : B ≤ w.heap.size) : Below B w w' :=
  (Below.refl B w).grown hg hB (fun k hk => by
    rcases ho.2 with ⟨rfl, _⟩ | ⟨g, cap, cur, rfl, hbg, _⟩
    · cases hk
    · obtain rfl : g = k := by simpa [Value.ownBlock] using hk
      exact hbg)
/-- An append of one int to a row of one's own. -/
theorem wpList_append_int (w : World) {ops : Array Oper} {rest : List Oper} {o : Oper} {a : Act} {Q : Exit → Act → World → Prop} (hgd : o.guard = none) (s x : Operand)
    (ho : o.op = .call { callee := .builtin .append, args := #[s, x], argTypes := #[29, 29] })
    (base : Nat) (v : Value) (n : Nat) (xs : List Int) (hs : a.eval s = v) (hown : w.ownsRow base 3 1 v n (xs.map iV))
    (g : Nat) (z : Int) (hx : a.eval x = .slice (some ⟨g, 0, none⟩) 1 1) (hc : w.cell? ⟨g, 0, none⟩ = some (.int .i64 z)) (hn : n ≤ 100000) (hbase : base ≤ w.heap.size)
    (h : ∀ v' w', w'.ownsRow base 3 1 v' (n + 1) ((xs ++ [z]).map iV) → w.grownBy w' v.ownBlock → wpList Try.prog ops Q rest (a.put o.dst v') w') : wpList Try.prog ops Q (o :: rest) a w := by
  obtain ⟨i0, hi, hz0, hz1, hz2⟩ := info_parts info_int
  refine wpList_append_own w hgd s x 29 ho base 3 i0 (.int .i64 0) 1 8 Try.underlying29 hi hz0 hz1 hz2 rfl (by decide) v n (xs.map iV) hs hown ⟨g, 0, none⟩ 1 1 [iV z] hx rfl ?_ (fun u hu => by rw [List.mem_singleton] at hu; rw [hu]; rfl) (by unfold maxLen; omega) (by omega) hbase ?_
  · intro j u hj
    cases j with
    | zero =>
      have : iV z = u := Option.some.inj hj
      rw [← this, Addr.add_lit]
      exact hc
    | succ j => cases hj
  · intro v' w' h1 h2 _
    refine h v' w' ?_ h2
    rw [List.map_append]; exact h1
end Go.Proofs.Ytelghkhcplmnmaa
