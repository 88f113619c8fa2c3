/- Rows of floats: what came in, and rows of one's own. The contracts of the document's Kind, times, above, long: rates. Tables as whole numbers and lists: no word of the program. Slices of plain values that are only read. The walk of InterpAt, over what At, Of, the document's At, Is and awake tell. The contract of the document's Check of tables. The contract of the document's Find. The contract of ShiftUp. -/
import Derived.Test.YtnmjljijgmmakabGreatHah
import Derived.WalkKit
import Derived.LoopTactic
import Derived.BigCall
import Derived.BigQuiet
import Derived.Maps.AppendAt
import Derived.Laws.OwnMore
import Derived.Deep.OwnRows
namespace Go.Proofs.YtnmjljijgmmakabGreat
open Go.RowKit

theorem hideS {p : Prop} (h : p) : Hid p := h
/-- The same, with the elder world's name kept. -/
theorem turned {P : Program} {f : Nat} {args : Array Value} {w : World} {Q : Ending → Prop} (h : Calls P f args w fun e w' => Q e ∧ w' = w) : Calls P f args w fun e w' => Q e ∧ w = w' :=
  h.mono fun _ _ ⟨a, b⟩ => ⟨a, b.symm⟩
theorem infoU : (Tryz.prog.info? 41).map (fun i => (i.zero, i.size, i.bytes)) = some (some (.int .u64 0), 1, 8) := by kernel_rfl
theorem own_below {w w' : World} {B e size n : Nat} {v : Value} {xs : List Value} (h : w.ownsRow B e size v n xs) (hb : Below w.heap.size w w') : w'.ownsRow B e size v n xs := by
  refine ⟨h.1, ?_⟩
  rcases h.2 with hn | ⟨g, cap, cur, rfl, hg, hgg, rest⟩
  · exact .inl hn
  · exact .inr ⟨g, cap, cur, rfl, hg, by rw [hb.block g (Array.getElem?_eq_some_iff.1 hgg).1]; exact hgg, rest⟩

def uV (x : Nat) : Value := .int .u64 (x : Int)
def fV (x : Nat) : Value := .float .f64 x
theorem getD_some {l : List Nat} {i : Nat} (hi : i < l.length) : l[i]? = some (l.getD i 0) := by simp [List.getD, List.getElem?_eq_getElem hi]
/-- The first k, as values. -/
def rowOf (f : Nat → Value) (l : List Nat) (k : Nat) : List Value := (l.take k).map f
theorem take_next {f : Nat → Value} {l : List Nat} {k : Nat} (hk : k < l.length) : rowOf f l (k + 1) = rowOf f l k ++ [f (l.getD k 0)] := by
  unfold rowOf
  rw [List.take_add_one, getD_some hk, List.map_append]; rfl
theorem rowOf_all (f : Nat → Value) (l : List Nat) : rowOf f l l.length = l.map f := by unfold rowOf; rw [List.take_length]

/-- A slice that reads as a list of floats, wherever it lies. -/
structure Src (w : World) (p : Option Addr) (b off : Nat) (xs : List Nat) : Prop where
  at_ : 0 < xs.length → p = some ⟨b, off, none⟩
  lt : 0 < xs.length → b < w.heap.size
  cell : ∀ j, j < xs.length → w.cell? ⟨b, off + j, none⟩ = some (.float .f64 (xs.getD j 0))
theorem Src.below {w w' : World} {p : Option Addr} {b off : Nat} {xs : List Nat} (h : Src w p b off xs) (hb : Below w.heap.size w w') : Src w' p b off xs :=
  ⟨h.at_, fun hx => Nat.lt_of_lt_of_le (h.lt hx) hb.size, fun j hj => (hb.cell (p := ⟨b, off + j, none⟩) (h.lt (by omega))).trans (h.cell j hj)⟩

/-- A row of one's own, with where it lies. -/
structure OwnF (w : World) (B t : Nat) (f : Nat → Value) (v : Value) (xs : List Nat) : Prop where
  own : w.ownsRow B t 1 v xs.length (xs.map f)
theorem OwnF.below {w w' : World} {B t : Nat} {f : Nat → Value} {v : Value} {xs : List Nat} (h : OwnF w B t f v xs) (hb : Below w.heap.size w w') : OwnF w' B t f v xs := ⟨own_below h.own hb⟩
theorem OwnF.shape {w : World} {B t : Nat} {f : Nat → Value} {v : Value} {xs : List Nat} (h : OwnF w B t f v xs) :
    ∃ p g c, v = .slice p xs.length c ∧ (0 < xs.length → p = some ⟨g, 0, none⟩ ∧ B ≤ g ∧ g < w.heap.size) ∧ ∀ j, j < xs.length → w.cell? ⟨g, j, none⟩ = some (f (xs.getD j 0)) := by
  rcases h.own.2 with ⟨hv, hn⟩ | ⟨g, cap, cur, hv, hb, hg, _⟩
  · exact ⟨none, 0, 0, by rw [hv, hn], fun h0 => by omega, fun j hj => by omega⟩
  · refine ⟨some ⟨g, 0, none⟩, g, cap, hv, fun _ => ⟨rfl, hb, (Array.getElem?_eq_some_iff.1 hg).1⟩, fun j hj => ?_⟩
    have h2 := h.own
    rw [hv] at h2
    rw [h2.cellAt j (by omega), List.getElem?_map, getD_some hj]; rfl
theorem OwnF.cell1 {w : World} {B t g n c : Nat} {f : Nat → Value} {xs : List Nat} (h : OwnF w B t f (.slice (some ⟨g, 0, none⟩) n c) xs) (hn : xs.length = n) (j : Nat) (hj : j < xs.length) : w.cell? ⟨g, j, none⟩ = some (f (xs.getD j 0)) := by
  have h2 := h.own
  rw [hn] at h2
  rw [h2.cellAt j (by omega), List.getElem?_map, getD_some hj]; rfl

end Go.Proofs.YtnmjljijgmmakabGreat
namespace Go.Proofs.YtnmjljijgmmakabGreat
open Go.RowKit

/-- A step of one word, of two, of a whole number. -/
def Stp1 (f : Nat) (u z : Int) : Prop := ∀ w, Calls Tryz.prog f #[.int .u64 u] w fun e w' => e = .returned (.int .u64 z) ∧ Below w.heap.size w w'
def ltB (u v : Int) : Bool := !nanB u && !nanB v && decide (rankI u < rankI v)
/-- A number (neither NaN nor infinite). -/
def finB (u : Int) : Bool := decide (szI u < 9218868437227405312)
set_option maxHeartbeats 800000 in
theorem refLt_any (u v : Int) (w : World) (h : U64 u) (h' : U64 v) :
    Calls Tryz.prog 23 #[.int .u64 u, .int .u64 v] w fun e w' => e = .returned (.bool (ltB u v)) ∧ w' = w := by
  have H1 := hideS fun w => refRank_any u w h
  have H2 := hideS fun w => refRank_any v w h'
  unfold ltB
  generalize rankI u = a at *
  generalize rankI v = c at *
  generalize nanB u = m at *
  generalize nanB v = n at *
  clear h h'
  go_enter Tryz.func23, Tryz.ntmps23
  go_wp2_with fail
  refine (H1.out _).mono ?_
  rintro e w' ⟨rfl, rfl⟩
  go_wp2_with fail
  refine (H2.out _).mono ?_
  rintro e w' ⟨rfl, rfl⟩
  cases m <;> cases n
  all_goals go_wp2_with fail
  all_goals go_ret
  all_goals exact ⟨by simp, rfl⟩

set_option maxHeartbeats 400000 in
theorem refNum_any (u : Int) (w : World) (h : U64 u) :
    Calls Tryz.prog 42 #[.int .u64 u] w fun e w' => e = .returned (.bool (finB u)) ∧ w' = w := by
  have hz := andNot_sz h
  unfold finB
  go_enter Tryz.func42, Tryz.ntmps42
  go_wp2
  go_ret
  exact ⟨rfl, rfl⟩

end Go.Proofs.YtnmjljijgmmakabGreat
namespace Go.Proofs.YtnmjljijgmmakabGreat
open Go.RowKit

/-- A node that may not be. -/
def nodeB (kind : Int) (xs : List Int) (ys : List Nat) (i : Nat) : Bool :=
  decide (xs.getD i 0 < 0) || decide (109572 < xs.getD i 0) || (decide (0 < i) && decide (xs.getD i 0 ≤ xs.getD (i - 1) 0)) || !finB (ys.getD i 0 : Nat) || (decide (kind = 4) && !ltB 0 (ys.getD i 0 : Nat))
/-- A table that may be. -/
structure OkT (kind : Int) (xs : List Int) (ys : List Nat) : Prop where
  k1 : 1 ≤ kind
  k4 : kind ≤ 4
  lo : 1 ≤ xs.length
  hi : xs.length ≤ 256
  len : ys.length = xs.length
  node : ∀ i < xs.length, nodeB kind xs ys i = false
/-- What Check tells of a table. -/
inductive TabR (kind : Int) (xs : List Int) (ys : List Nat) : Int → Prop
  | ok (h : OkT kind xs ys) : TabR kind xs ys 0
  | kind (h : kind < 1 ∨ 4 < kind) : TabR kind xs ys 90
  | len (h1 : 1 ≤ kind) (h4 : kind ≤ 4) (h : xs.length < 1 ∨ 256 < xs.length ∨ ys.length ≠ xs.length) : TabR kind xs ys 100
  | node (h1 : 1 ≤ kind) (h4 : kind ≤ 4) (lo : 1 ≤ xs.length) (hi : xs.length ≤ 256) (len : ys.length = xs.length) (K : Nat) (hK : K < xs.length) (bad : nodeB kind xs ys K = true) (fine : ∀ i < K, nodeB kind xs ys i = false) : TabR kind xs ys 100
theorem least_bad {p : Nat → Bool} : ∀ N, (∃ i < N, p i = true) → ∃ k < N, p k = true ∧ ∀ j < k, p j = false
  | 0, ⟨i, hi, _⟩ => by omega
  | N + 1, ⟨i, hi, hp⟩ => by
    by_cases h : ∃ i < N, p i = true
    · obtain ⟨k, hk, h1, h2⟩ := least_bad N h
      exact ⟨k, by omega, h1, h2⟩
    · have hN : i = N := Classical.byContradiction fun c => h ⟨i, by omega, hp⟩
      subst hN
      exact ⟨i, by omega, hp, fun j hj => by
        cases hc : p j
        · rfl
        · exact absurd ⟨j, hj, hc⟩ h⟩
theorem tabR_ex (kind : Int) (xs : List Int) (ys : List Nat) : ∃ E, TabR kind xs ys E := by
  by_cases hk : kind < 1 ∨ 4 < kind
  · exact ⟨90, .kind hk⟩
  · by_cases hl : xs.length < 1 ∨ 256 < xs.length ∨ ys.length ≠ xs.length
    · exact ⟨100, .len (by omega) (by omega) hl⟩
    · by_cases hb : ∃ i < xs.length, nodeB kind xs ys i = true
      · obtain ⟨K, hK, h1, h2⟩ := least_bad _ hb
        exact ⟨100, .node (by omega) (by omega) (by omega) (by omega) (by omega) K hK h1 h2⟩
      · exact ⟨0, .ok ⟨by omega, by omega, by omega, by omega, by omega, fun i hi => by
          cases hc : nodeB kind xs ys i
          · rfl
          · exact absurd ⟨i, hi, hc⟩ hb⟩⟩
/-- What a node that may be has. -/
theorem node_fine {kind : Int} {xs : List Int} {ys : List Nat} {i : Nat} (h : nodeB kind xs ys i = false) : 0 ≤ xs.getD i 0 ∧ xs.getD i 0 ≤ 109572 ∧ (0 < i → xs.getD (i - 1) 0 < xs.getD i 0) ∧ finB (ys.getD i 0 : Nat) = true ∧ (kind = 4 → ltB 0 (ys.getD i 0 : Nat) = true) := by
  unfold nodeB at h
  simp only [Bool.or_eq_false_iff, Bool.and_eq_false_iff, decide_eq_false_iff_not, Bool.not_eq_false'] at h
  obtain ⟨⟨⟨⟨a, b⟩, c⟩, d⟩, e⟩ := h
  refine ⟨by omega, by omega, fun hi => ?_, d, fun hk => ?_⟩
  · rcases c with c | c <;> omega
  · rcases e with e | e
    · exact absurd hk e
    · exact e
theorem OkT.step {kind : Int} {xs : List Int} {ys : List Nat} (h : OkT kind xs ys) {i : Nat} (hi : i + 1 < xs.length) : xs.getD i 0 < xs.getD (i + 1) 0 := by
  have := (node_fine (h.node (i + 1) hi)).2.2.1 (by omega)
  simpa using this
theorem OkT.rise {kind : Int} {xs : List Int} {ys : List Nat} (h : OkT kind xs ys) {i j : Nat} (hij : i < j) (hj : j < xs.length) : xs.getD i 0 < xs.getD j 0 := by
  obtain ⟨d, rfl⟩ : ∃ d, j = i + 1 + d := ⟨j - i - 1, by omega⟩
  induction d with
  | zero => exact h.step (by omega)
  | succ d ih =>
    have a := ih (by omega) (by omega)
    have b := h.step (i := i + 1 + d) (by omega)
    exact Int.lt_trans a b
/-- The piece that a place lies in. -/
structure FindR (xs : List Int) (x : Int) (k : Nat) : Prop where
  lt : k < xs.length
  le : xs.getD k 0 ≤ x
  gt : k + 1 < xs.length → x < xs.getD (k + 1) 0
theorem find_ex {xs : List Int} {x : Int} (hlo : 0 < xs.length) (h0 : xs.getD 0 0 ≤ x) : ∃ k, FindR xs x k ∧ ∀ j < k, j + 1 < xs.length ∧ xs.getD (j + 1) 0 ≤ x := by
  by_cases hb : ∃ i < xs.length, decide (i + 1 < xs.length → x < xs.getD (i + 1) 0) = true
  · obtain ⟨k, hk, h1, h2⟩ := least_bad (p := fun i => decide (i + 1 < xs.length → x < xs.getD (i + 1) 0)) _ hb
    have h3 : ∀ j < k, j + 1 < xs.length ∧ xs.getD (j + 1) 0 ≤ x := fun j hj => by
      have := h2 j hj
      rw [decide_eq_false_iff_not] at this
      obtain ⟨a, b⟩ := Classical.not_imp.1 this
      exact ⟨a, by omega⟩
    refine ⟨k, ⟨hk, ?_, of_decide_eq_true h1⟩, h3⟩
    by_cases hz : k = 0
    · rw [hz]; exact h0
    · have := (h3 (k - 1) (by omega)).2
      rwa [show k - 1 + 1 = k by omega] at this
  · exact absurd ⟨xs.length - 1, by omega, decide_eq_true (fun c => by omega)⟩ hb
end Go.Proofs.YtnmjljijgmmakabGreat
namespace Go.Proofs.YtnmjljijgmmakabGreat
open Go.RowKit

/-- A slice of n cells. -/
structure VSrc (w : World) (p : Option Addr) (b off n : Nat) (f : Nat → Value) : Prop where
  at_ : 0 < n → p = some ⟨b, off, none⟩
  lt : 0 < n → b < w.heap.size
  cell : ∀ j < n, w.cell? ⟨b, off + j, none⟩ = some (f j)
theorem VSrc.below {w w' : World} {p : Option Addr} {b off n : Nat} {f : Nat → Value} (h : VSrc w p b off n f) (hb : Below w.heap.size w w') : VSrc w' p b off n f :=
  ⟨h.at_, fun hx => Nat.lt_of_lt_of_le (h.lt hx) hb.size, fun j hj => (hb.cell (p := ⟨b, off + j, none⟩) (h.lt (by omega))).trans (h.cell j hj)⟩
def xV (xs : List Int) (j : Nat) : Value := .int .i64 (xs.getD j 0)
def yV (ys : List Nat) (j : Nat) : Value := .int .u64 (ys.getD j 0 : Nat)
/-- A list of floats' bits, as a slice's cells. -/
def flV (ys : List Nat) (j : Nat) : Value := .float .f64 (ys.getD j 0)
/-- The box of a table. -/
structure TBox (w : World) (kind : Int) (vx vy : Value) (wr : World) : Prop where
  t0 : wr.cell? ⟨w.heap.size, 0, none⟩ = some (.int .i64 kind)
  t1 : wr.cell? ⟨w.heap.size, 1, none⟩ = some vx
  t2 : wr.cell? ⟨w.heap.size, 2, none⟩ = some vy
  bl : Below w.heap.size w wr
  lt : w.heap.size < wr.heap.size
theorem tbox_at (w : World) (kind : Int) (vx vy : Value) : TBox w kind vx vy (w.alloc (.cells #[.int .i64 kind, vx, vy] 29)) :=
  ⟨by simp, by simp, by simp, (Below.refl _ _).alloc (Nat.le_refl _) _, by simp⟩
theorem TBox.step {w wr w' : World} {kind : Int} {vx vy : Value} (h : TBox w kind vx vy wr) (hb : Below wr.heap.size wr w') : TBox w kind vx vy w' :=
  ⟨(hb.cell (p := ⟨w.heap.size, 0, none⟩) h.lt).trans h.t0, (hb.cell (p := ⟨w.heap.size, 1, none⟩) h.lt).trans h.t1, (hb.cell (p := ⟨w.heap.size, 2, none⟩) h.lt).trans h.t2, h.bl.trans (hb.mono h.bl.size), Nat.lt_of_lt_of_le h.lt hb.size⟩
end Go.Proofs.YtnmjljijgmmakabGreat
namespace Go.Proofs.YtnmjljijgmmakabGreat
open Go.RowKit

theorem abox_at (w : World) (kind : Int) (vx vy : Value) : TBox w kind vx vy (w.alloc (.cells #[.int .i64 kind, vx, vy] 25)) :=
  ⟨by simp, by simp, by simp, (Below.refl _ _).alloc (Nat.le_refl _) _, by simp⟩

end Go.Proofs.YtnmjljijgmmakabGreat
namespace Go.Proofs.YtnmjljijgmmakabGreat
open Go.RowKit

set_option maxHeartbeats 800000 in
theorem ref10Check_kind (kind : Int) (px py : Option Addr) (n m cx cy : Nat) (w : World) (h : kind < 1 ∨ 4 < kind) :
    Calls Tryz.prog 21 #[.agg #[.int .i64 kind, .slice px n cx, .slice py m cy]] w fun e w' => e = .returned (.int .i64 90) ∧ Below w.heap.size w w' := by
  have HB := hideS (tbox_at w kind (.slice px n cx) (.slice py m cy))
  rcases (show kind < 1 ∨ (1 ≤ kind ∧ 4 < kind) by omega) with h1 | ⟨h1, h2⟩
  all_goals
    clear h
    go_enter Tryz.func21, Tryz.ntmps21
    go_wp2_with fail
    go_ret
    exact ⟨rfl, HB.out.bl⟩
set_option maxHeartbeats 1600000 in
theorem ref10Check_len (kind : Int) (px py : Option Addr) (n m cx cy : Nat) (w : World) (h1 : 1 ≤ kind) (h4 : kind ≤ 4) (h : n < 1 ∨ 256 < n ∨ m ≠ n) :
    Calls Tryz.prog 21 #[.agg #[.int .i64 kind, .slice px n cx, .slice py m cy]] w fun e w' => e = .returned (.int .i64 100) ∧ Below w.heap.size w w' := by
  have HB := hideS (tbox_at w kind (.slice px n cx) (.slice py m cy))
  rcases (show n = 0 ∨ (1 ≤ n ∧ 256 < n) ∨ (1 ≤ n ∧ n ≤ 256 ∧ m ≠ n) by omega) with a | ⟨a, b⟩ | ⟨a, b, c⟩
  · subst a
    go_enter Tryz.func21, Tryz.ntmps21
    go_wp2_with fail
    go_ret
    exact ⟨rfl, HB.out.bl⟩
  · have a' : ¬ (n : Int) < 1 := by omega
    have b' : (256 : Int) < n := by omega
    go_enter Tryz.func21, Tryz.ntmps21
    go_wp2_with fail
    go_ret
    exact ⟨rfl, HB.out.bl⟩
  · have a' : ¬ (n : Int) < 1 := by omega
    have b' : ¬ (256 : Int) < n := by omega
    have c' : ((n : Int) != (m : Int)) = true := bne_iff_ne.2 (by omega)
    go_enter Tryz.func21, Tryz.ntmps21
    go_wp2_with fail
    go_ret
    exact ⟨rfl, HB.out.bl⟩
/-- What a node's tests tell, one behind the other. -/
inductive NodeC (kind : Int) (i : Nat) (x px : Int) (fin pos : Bool) : Bool → Prop
  | neg (h : x < 0) : NodeC kind i x px fin pos true
  | far (h0 : 0 ≤ x) (h : 109572 < x) : NodeC kind i x px fin pos true
  | back (h0 : 0 ≤ x) (h1 : x ≤ 109572) (hi : 0 < i) (h : x ≤ px) : NodeC kind i x px fin pos true
  | inf (h0 : 0 ≤ x) (h1 : x ≤ 109572) (hi : i = 0 ∨ (0 < i ∧ px < x)) (h : fin = false) : NodeC kind i x px fin pos true
  | low (h0 : 0 ≤ x) (h1 : x ≤ 109572) (hi : i = 0 ∨ (0 < i ∧ px < x)) (h : fin = true) (hk : kind = 4) (hp : pos = false) : NodeC kind i x px fin pos true
  | fine (h0 : 0 ≤ x) (h1 : x ≤ 109572) (hi : i = 0 ∨ (0 < i ∧ px < x)) (h : fin = true) (hk : kind ≠ 4 ∨ (kind = 4 ∧ pos = true)) : NodeC kind i x px fin pos false
theorem nodeC_of (kind : Int) (xs : List Int) (ys : List Nat) (i : Nat) : NodeC kind i (xs.getD i 0) (xs.getD (i - 1) 0) (finB (ys.getD i 0 : Nat)) (ltB 0 (ys.getD i 0 : Nat)) (nodeB kind xs ys i) := by
  obtain ⟨R, hR⟩ : ∃ R, nodeB kind xs ys i = R := ⟨_, rfl⟩
  rw [hR]
  unfold nodeB at hR
  generalize xs.getD i 0 = x at *
  generalize xs.getD (i - 1) 0 = q at *
  generalize finB (ys.getD i 0 : Nat) = f at *
  generalize ltB 0 (ys.getD i 0 : Nat) = p at *
  by_cases a : x < 0
  · simp [a] at hR
    subst hR; exact .neg a
  · by_cases b : 109572 < x
    · simp [b] at hR
      subst hR; exact .far (by omega) b
    · by_cases c : 0 < i ∧ x ≤ q
      · simp [c] at hR
        subst hR; exact .back (by omega) (by omega) c.1 c.2
      · have hi : i = 0 ∨ (0 < i ∧ q < x) := by omega
        have hc : (decide (0 < i) && decide (x ≤ q)) = false := by
          rw [Bool.and_eq_false_iff, decide_eq_false_iff_not, decide_eq_false_iff_not]
          omega
        rw [hc, decide_eq_false a, decide_eq_false b] at hR
        cases f
        · simp at hR
          subst hR; exact .inf (by omega) (by omega) hi rfl
        · by_cases k : kind = 4
          · cases p
            · simp [k] at hR
              subst hR; exact .low (by omega) (by omega) hi rfl k rfl
            · simp at hR
              subst hR; exact .fine (by omega) (by omega) hi rfl (Or.inr ⟨k, rfl⟩)
          · simp [k] at hR
            subst hR; exact .fine (by omega) (by omega) hi rfl (Or.inl k)
/-- Few facts of a node, for the walk. -/
def NodeBad (kind : Int) (k : Nat) (x q : Int) (f p : Bool) : Prop :=
  x < 0 ∨ (0 ≤ x ∧ 109572 < x) ∨ (0 ≤ x ∧ x ≤ 109572 ∧ 0 < k ∧ x ≤ q) ∨ (0 ≤ x ∧ x ≤ 109572 ∧ ¬ 0 < k ∧ f = false) ∨ (0 ≤ x ∧ x ≤ 109572 ∧ 0 < k ∧ ¬ x ≤ q ∧ f = false) ∨ (0 ≤ x ∧ x ≤ 109572 ∧ ¬ 0 < k ∧ f = true ∧ kind = 4 ∧ p = false) ∨ (0 ≤ x ∧ x ≤ 109572 ∧ 0 < k ∧ ¬ x ≤ q ∧ f = true ∧ kind = 4 ∧ p = false)
def NodeFine (kind : Int) (k : Nat) (x q : Int) (f p : Bool) : Prop :=
  0 ≤ x ∧ x ≤ 109572 ∧ f = true ∧ ((¬ 0 < k ∧ (kind == 4) = false) ∨ (0 < k ∧ ¬ x ≤ q ∧ (kind == 4) = false) ∨ (¬ 0 < k ∧ (kind == 4) = true ∧ p = true) ∨ (0 < k ∧ ¬ x ≤ q ∧ (kind == 4) = true ∧ p = true))
theorem nodeC_bad {kind : Int} {k : Nat} {x q : Int} {f p : Bool} (h : NodeC kind k x q f p true) : NodeBad kind k x q f p := by
  unfold NodeBad
  generalize hR : true = R at h
  cases h with
  | neg h => exact Or.inl h
  | far h0 h => exact Or.inr (Or.inl ⟨h0, h⟩)
  | back h0 h1 hi h => exact Or.inr (Or.inr (Or.inl ⟨h0, h1, hi, h⟩))
  | inf h0 h1 hi h =>
    rcases hi with a | ⟨a, b⟩
    · exact Or.inr (Or.inr (Or.inr (Or.inl ⟨h0, h1, by omega, h⟩)))
    · exact Or.inr (Or.inr (Or.inr (Or.inr (Or.inl ⟨h0, h1, a, by omega, h⟩))))
  | low h0 h1 hi h hk hp =>
    rcases hi with a | ⟨a, b⟩
    · exact Or.inr (Or.inr (Or.inr (Or.inr (Or.inr (Or.inl ⟨h0, h1, by omega, h, hk, hp⟩)))))
    · exact Or.inr (Or.inr (Or.inr (Or.inr (Or.inr (Or.inr ⟨h0, h1, a, by omega, h, hk, hp⟩)))))
  | fine => cases hR
theorem nodeC_fine {kind : Int} {k : Nat} {x q : Int} {f p : Bool} (h : NodeC kind k x q f p false) : NodeFine kind k x q f p := by
  unfold NodeFine
  generalize hR : false = R at h
  cases h with
  | fine h0 h1 hi h hk =>
    refine ⟨h0, h1, h, ?_⟩
    rcases hi with a | ⟨a, b⟩ <;> rcases hk with c | ⟨c, d⟩
    · exact Or.inl ⟨by omega, beq_false_of_ne c⟩
    · exact Or.inr (Or.inr (Or.inl ⟨by omega, beq_iff_eq.2 c, d⟩))
    · exact Or.inr (Or.inl ⟨a, by omega, beq_false_of_ne c⟩)
    · exact Or.inr (Or.inr (Or.inr ⟨a, by omega, beq_iff_eq.2 c, d⟩))
  | neg => cases hR
  | far => cases hR
  | back => cases hR
  | inf => cases hR
  | low => cases hR

set_option maxHeartbeats 12800000 in
theorem ref10Check_loop (kind : Int) (px py : Option Addr) (bx ox cx b2 oy cy n K : Nat) (xs : List Int) (ys : List Nat) (w : World) (hX : VSrc w px bx ox n (xV xs)) (hY : VSrc w py b2 oy n (yV ys)) (hf : ∀ i < n, U64 (ys.getD i 0 : Nat)) (h1 : 1 ≤ kind) (h4 : kind ≤ 4) (hn : 1 ≤ n) (hn' : n ≤ 256) (hK : K ≤ n) (hfine : ∀ i < K, nodeB kind xs ys i = false) (hbad : K < n → nodeB kind xs ys K = true) :
    Calls Tryz.prog 21 #[.agg #[.int .i64 kind, .slice px n cx, .slice py n cy]] w fun e w' => e = .returned (.int .i64 (if K < n then 100 else 0)) ∧ Below w.heap.size w w' := by
  obtain ⟨w1, hw1⟩ : ∃ w1, w.alloc (.cells #[.int .i64 kind, .slice px n cx, .slice py n cy] 29) = w1 := ⟨_, rfl⟩
  have HB : Hid (TBox w kind (.slice px n cx) (.slice py n cy) w1) := by show TBox _ _ _ _ _; rw [← hw1]; exact tbox_at w kind (.slice px n cx) (.slice py n cy)
  have HX := hideS (hX.below HB.out.bl)
  have HY := hideS (hY.below HB.out.bl)
  have HF := hideS hf
  have HA := hideS hfine
  have HBd := hideS hbad
  have HNm := hideS fun (u : Int) (wx : World) (hu : U64 u) => refNum_any u wx hu
  have HLt := hideS fun (u : Int) (wx : World) (hu : U64 u) => refLt_any 0 u wx (by unfold U64; decide) hu
  obtain rfl := hX.at_ (by omega)
  obtain rfl := hY.at_ (by omega)
  have n1 : ¬ (n : Int) < 1 := by omega
  have n2 : ¬ (256 : Int) < n := by omega
  obtain ⟨R, hR⟩ : ∃ R : Int, (if K < n then 100 else 0) = R := ⟨_, rfl⟩
  rw [hR]
  have HR := hideS hR
  clear hR
  have s0 := HB.out.t0
  have s1 := HB.out.t1
  have s2 := HB.out.t2
  clear hX hY hf hfine hbad
  go_enter Tryz.func21, Tryz.ntmps21
  go_wp2_with fail
  clear hw1 s0 s1 s2
  go_loopw [3] (fun i wr => ∃ k : Nat, k ≤ K ∧ i = .int .i64 k ∧ Hid (∃ q, wr = w1.drewN q)) (fun i _ => n - (intOf i).toNat)
  case atStart => exact ⟨0, Nat.zero_le _, rfl, ⟨0, rfl⟩⟩
  case round =>
    obtain ⟨k, hk, rfl, HQ⟩ := hrel
    have t0 : wr.cell? ⟨w.heap.size, 0, none⟩ = some (.int .i64 kind) := by obtain ⟨q, e⟩ := HQ.out; rw [e]; exact HB.out.t0
    have t1 : wr.cell? ⟨w.heap.size, 1, none⟩ = some (.slice (some ⟨bx, ox, none⟩) n cx) := by obtain ⟨q, e⟩ := HQ.out; rw [e]; exact HB.out.t1
    have t2 : wr.cell? ⟨w.heap.size, 2, none⟩ = some (.slice (some ⟨b2, oy, none⟩) n cy) := by obtain ⟨q, e⟩ := HQ.out; rw [e]; exact HB.out.t2
    by_cases hlt : k < n
    · have hcx : wr.cell? ⟨bx, ox + k, none⟩ = some (.int .i64 (xs.getD k 0)) := by obtain ⟨q, e⟩ := HQ.out; rw [e]; exact HX.out.cell k hlt
      have hcy : wr.cell? ⟨b2, oy + k, none⟩ = some (.int .u64 (ys.getD k 0 : Nat)) := by obtain ⟨q, e⟩ := HQ.out; rw [e]; exact HY.out.cell k hlt
      have hcq : 0 < k → wr.cell? ⟨bx, ox + (k - 1), none⟩ = some (.int .i64 (xs.getD (k - 1) 0)) := fun h => by obtain ⟨q, e⟩ := HQ.out; rw [e]; exact HX.out.cell (k - 1) (by omega)
      have HC := nodeC_of kind xs ys k
      have HU := hideS (HF.out k hlt)
      have HNk := hideS fun wx => HNm.out _ wx HU.out
      have HLk := hideS fun wx => HLt.out _ wx HU.out
      by_cases hkK : k < K
      · rw [HA.out k hkK] at HC
        obtain ⟨g0, g1, g2, HC'⟩ := nodeC_fine HC
        rw [g2] at HNk
        clear HC g2
        generalize xs.getD k 0 = x at *
        generalize xs.getD (k - 1) 0 = q at *
        generalize hyk : ((ys.getD k 0 : Nat) : Int) = y at *
        clear hyk
        generalize ltB 0 y = p at *
        rcases HC' with ⟨a1, a2⟩ | ⟨a1, a2, a3⟩ | ⟨a1, a3, rfl⟩ | ⟨a1, a2, a3, rfl⟩
        · have d1 : decide (x < 0) = false := decide_eq_false (by omega)
          have d2 : decide (109572 < x) = false := decide_eq_false (by omega)
          have d3 : decide (0 < k) = false := decide_eq_false a1
          have d4 : decide ((0 : Int) < (k : Int)) = false := decide_eq_false (by omega)
          clear hcq
          clear HA HBd HF HX HY HB HNm HLt HU n1 n2 h1 h4 hn g0 g1 a1
          go_wp2_with fail
          go_quiet (first | (go_at_call 42; exact Calls.quiet_of_same (HNk.out _)) | (go_at_call 23; exact Calls.quiet_of_same (HLk.out _)))
          go_wp2_with fail
          go_roundw
          case rel => exact ⟨k + 1, by omega, by simp, by obtain ⟨q, e⟩ := HQ.out; exact ⟨q + nq, by rw [e, World.drewN_drewN]⟩⟩
          case measure => simp [intOf]; omega
        · have d1 : decide (x < 0) = false := decide_eq_false (by omega)
          have d2 : decide (109572 < x) = false := decide_eq_false (by omega)
          have d3 : decide (0 < k) = true := decide_eq_true a1
          have d4 : decide ((0 : Int) < (k : Int)) = true := decide_eq_true (by omega)
          obtain ⟨j, hj⟩ : ∃ j, k = j + 1 := ⟨k - 1, by omega⟩
          have hkj : (k : Int) - 1 = (j : Int) := by omega
          have hjn : j < n := by omega
          have hcq' := hcq a1
          rw [show k - 1 = j by omega] at hcq'
          clear hcq hj
          have d5 : decide (x ≤ q) = false := decide_eq_false a2
          clear HA HBd HF HX HY HB HNm HLt HU n1 n2 h1 h4 hn g0 g1 a1
          go_wp2_with fail
          go_quiet (first | (go_at_call 42; exact Calls.quiet_of_same (HNk.out _)) | (go_at_call 23; exact Calls.quiet_of_same (HLk.out _)))
          go_wp2_with fail
          go_roundw
          case rel => exact ⟨k + 1, by omega, by simp, by obtain ⟨q, e⟩ := HQ.out; exact ⟨q + nq, by rw [e, World.drewN_drewN]⟩⟩
          case measure => simp [intOf]; omega
        · have d1 : decide (x < 0) = false := decide_eq_false (by omega)
          have d2 : decide (109572 < x) = false := decide_eq_false (by omega)
          have d3 : decide (0 < k) = false := decide_eq_false a1
          have d4 : decide ((0 : Int) < (k : Int)) = false := decide_eq_false (by omega)
          clear hcq
          clear HA HBd HF HX HY HB HNm HLt HU n1 n2 h1 h4 hn g0 g1 a1
          go_wp2_with fail
          go_quiet (first | (go_at_call 42; exact Calls.quiet_of_same (HNk.out _)) | (go_at_call 23; exact Calls.quiet_of_same (HLk.out _)))
          go_wp2_with fail
          go_roundw
          case rel => exact ⟨k + 1, by omega, by simp, by obtain ⟨q, e⟩ := HQ.out; exact ⟨q + nq, by rw [e, World.drewN_drewN]⟩⟩
          case measure => simp [intOf]; omega
        · have d1 : decide (x < 0) = false := decide_eq_false (by omega)
          have d2 : decide (109572 < x) = false := decide_eq_false (by omega)
          have d3 : decide (0 < k) = true := decide_eq_true a1
          have d4 : decide ((0 : Int) < (k : Int)) = true := decide_eq_true (by omega)
          obtain ⟨j, hj⟩ : ∃ j, k = j + 1 := ⟨k - 1, by omega⟩
          have hkj : (k : Int) - 1 = (j : Int) := by omega
          have hjn : j < n := by omega
          have hcq' := hcq a1
          rw [show k - 1 = j by omega] at hcq'
          clear hcq hj
          have d5 : decide (x ≤ q) = false := decide_eq_false a2
          clear HA HBd HF HX HY HB HNm HLt HU n1 n2 h1 h4 hn g0 g1 a1
          go_wp2_with fail
          go_quiet (first | (go_at_call 42; exact Calls.quiet_of_same (HNk.out _)) | (go_at_call 23; exact Calls.quiet_of_same (HLk.out _)))
          go_wp2_with fail
          go_roundw
          case rel => exact ⟨k + 1, by omega, by simp, by obtain ⟨q, e⟩ := HQ.out; exact ⟨q + nq, by rw [e, World.drewN_drewN]⟩⟩
          case measure => simp [intOf]; omega
      · obtain rfl : k = K := by omega
        rw [HBd.out hlt] at HC
        have HC' := nodeC_bad HC
        clear HC
        have HR1 : Hid ((100 : Int) = R) := by show _ = _; rw [← HR.out, if_pos hlt]
        clear HR
        generalize xs.getD k 0 = x at *
        generalize xs.getD (k - 1) 0 = q at *
        generalize hyk : ((ys.getD k 0 : Nat) : Int) = y at *
        clear hyk
        generalize ltB 0 y = p at *
        generalize finB y = f at *
        have HBl : Hid (∀ m, Below w.heap.size w (wr.drewN m)) := fun m => by obtain ⟨q, e⟩ := HQ.out; rw [e, World.drewN_drewN]; exact ⟨HB.out.bl.os, HB.out.bl.tape, HB.out.bl.output, HB.out.bl.size, HB.out.bl.block⟩
        rcases HC' with a | ⟨a, b⟩ | ⟨a, b, a1, c⟩ | ⟨a, b, a1, rfl⟩ | ⟨a, b, a1, c, rfl⟩ | ⟨a, b, a1, rfl, rfl, rfl⟩ | ⟨a, b, a1, c, rfl, rfl, rfl⟩
        · have d1 : decide (x < 0) = true := decide_eq_true a
          clear hcq
          clear HA HBd HF HX HY HB HNm HLt HU n1 n2 h1 h4 hn
          go_wp2_with fail
          go_quiet (first | (go_at_call 42; exact Calls.quiet_of_same (HNk.out _)) | (go_at_call 23; exact Calls.quiet_of_same (HLk.out _)))
          go_wp2_with fail
          go_ret
          exact ⟨by rw [← HR1.out]; rfl, HBl.out _⟩
        · have d1 : decide (x < 0) = false := decide_eq_false (by omega)
          have d2 : decide (109572 < x) = true := decide_eq_true b
          clear hcq
          clear HA HBd HF HX HY HB HNm HLt HU n1 n2 h1 h4 hn
          go_wp2_with fail
          go_quiet (first | (go_at_call 42; exact Calls.quiet_of_same (HNk.out _)) | (go_at_call 23; exact Calls.quiet_of_same (HLk.out _)))
          go_wp2_with fail
          go_ret
          exact ⟨by rw [← HR1.out]; rfl, HBl.out _⟩
        · skip
          have d1 : decide (x < 0) = false := decide_eq_false (by omega)
          have d2 : decide (109572 < x) = false := decide_eq_false (by omega)
          have d3 : decide (0 < k) = true := decide_eq_true a1
          have d4 : decide ((0 : Int) < (k : Int)) = true := decide_eq_true (by omega)
          obtain ⟨j, hj⟩ : ∃ j, k = j + 1 := ⟨k - 1, by omega⟩
          have hkj : (k : Int) - 1 = (j : Int) := by omega
          have hjn : j < n := by omega
          have hcq' := hcq a1
          rw [show k - 1 = j by omega] at hcq'
          clear hcq hj
          have d5 : decide (x ≤ q) = true := decide_eq_true c
          clear HA HBd HF HX HY HB HNm HLt HU n1 n2 h1 h4 hn
          go_wp2_with fail
          go_quiet (first | (go_at_call 42; exact Calls.quiet_of_same (HNk.out _)) | (go_at_call 23; exact Calls.quiet_of_same (HLk.out _)))
          go_wp2_with fail
          go_ret
          exact ⟨by rw [← HR1.out]; rfl, HBl.out _⟩
        · skip
          have d1 : decide (x < 0) = false := decide_eq_false (by omega)
          have d2 : decide (109572 < x) = false := decide_eq_false (by omega)
          have d3 : decide (0 < k) = false := decide_eq_false a1
          have d4 : decide ((0 : Int) < (k : Int)) = false := decide_eq_false (by omega)
          clear hcq
          clear HA HBd HF HX HY HB HNm HLt HU n1 n2 h1 h4 hn
          go_wp2_with fail
          go_quiet (first | (go_at_call 42; exact Calls.quiet_of_same (HNk.out _)) | (go_at_call 23; exact Calls.quiet_of_same (HLk.out _)))
          go_wp2_with fail
          go_ret
          exact ⟨by rw [← HR1.out]; rfl, HBl.out _⟩
        · skip
          have d1 : decide (x < 0) = false := decide_eq_false (by omega)
          have d2 : decide (109572 < x) = false := decide_eq_false (by omega)
          have d3 : decide (0 < k) = true := decide_eq_true a1
          have d4 : decide ((0 : Int) < (k : Int)) = true := decide_eq_true (by omega)
          obtain ⟨j, hj⟩ : ∃ j, k = j + 1 := ⟨k - 1, by omega⟩
          have hkj : (k : Int) - 1 = (j : Int) := by omega
          have hjn : j < n := by omega
          have hcq' := hcq a1
          rw [show k - 1 = j by omega] at hcq'
          clear hcq hj
          have d5 : decide (x ≤ q) = false := decide_eq_false c
          clear HA HBd HF HX HY HB HNm HLt HU n1 n2 h1 h4 hn
          go_wp2_with fail
          go_quiet (first | (go_at_call 42; exact Calls.quiet_of_same (HNk.out _)) | (go_at_call 23; exact Calls.quiet_of_same (HLk.out _)))
          go_wp2_with fail
          go_ret
          exact ⟨by rw [← HR1.out]; rfl, HBl.out _⟩
        · skip
          have d1 : decide (x < 0) = false := decide_eq_false (by omega)
          have d2 : decide (109572 < x) = false := decide_eq_false (by omega)
          have d3 : decide (0 < k) = false := decide_eq_false a1
          have d4 : decide ((0 : Int) < (k : Int)) = false := decide_eq_false (by omega)
          clear hcq
          clear HA HBd HF HX HY HB HNm HLt HU n1 n2 h1 h4 hn
          go_wp2_with fail
          go_quiet (first | (go_at_call 42; exact Calls.quiet_of_same (HNk.out _)) | (go_at_call 23; exact Calls.quiet_of_same (HLk.out _)))
          go_wp2_with fail
          go_ret
          exact ⟨by rw [← HR1.out]; rfl, HBl.out _⟩
        · skip
          have d1 : decide (x < 0) = false := decide_eq_false (by omega)
          have d2 : decide (109572 < x) = false := decide_eq_false (by omega)
          have d3 : decide (0 < k) = true := decide_eq_true a1
          have d4 : decide ((0 : Int) < (k : Int)) = true := decide_eq_true (by omega)
          obtain ⟨j, hj⟩ : ∃ j, k = j + 1 := ⟨k - 1, by omega⟩
          have hkj : (k : Int) - 1 = (j : Int) := by omega
          have hjn : j < n := by omega
          have hcq' := hcq a1
          rw [show k - 1 = j by omega] at hcq'
          clear hcq hj
          have d5 : decide (x ≤ q) = false := decide_eq_false c
          clear HA HBd HF HX HY HB HNm HLt HU n1 n2 h1 h4 hn
          go_wp2_with fail
          go_quiet (first | (go_at_call 42; exact Calls.quiet_of_same (HNk.out _)) | (go_at_call 23; exact Calls.quiet_of_same (HLk.out _)))
          go_wp2_with fail
          go_ret
          exact ⟨by rw [← HR1.out]; rfl, HBl.out _⟩
    · obtain rfl : k = K := by omega
      have HR1 : Hid ((0 : Int) = R) := by show _ = _; rw [← HR.out, if_neg hlt]
      clear HR
      have hge : ¬ (k : Int) < n := by omega
      have HBl : Hid (Below w.heap.size w wr) := by show Below _ _ _; obtain ⟨q, e⟩ := HQ.out; rw [e]; exact ⟨HB.out.bl.os, HB.out.bl.tape, HB.out.bl.output, HB.out.bl.size, HB.out.bl.block⟩
      go_wp2_with fail
      go_ret
      exact ⟨by rw [← HR1.out]; rfl, HBl.out⟩
end Go.Proofs.YtnmjljijgmmakabGreat
namespace Go.Proofs.YtnmjljijgmmakabGreat
open Go.RowKit

/-- A table in memory, only read. -/
structure TSrc (w : World) (px py : Option Addr) (bx ox b2 oy : Nat) (xs : List Int) (ys : List Nat) : Prop where
  x : VSrc w px bx ox xs.length (xV xs)
  y : VSrc w py b2 oy ys.length (yV ys)
  f : ∀ i < ys.length, U64 (ys.getD i 0 : Nat)
theorem TSrc.below {w w' : World} {px py : Option Addr} {bx ox b2 oy : Nat} {xs : List Int} {ys : List Nat} (h : TSrc w px py bx ox b2 oy xs ys) (hb : Below w.heap.size w w') : TSrc w' px py bx ox b2 oy xs ys := ⟨h.x.below hb, h.y.below hb, h.f⟩
theorem ref10Check_any (kind E : Int) (px py : Option Addr) (bx ox cx b2 oy cy : Nat) (xs : List Int) (ys : List Nat) (w : World) (h : TabR kind xs ys E) (hs : TSrc w px py bx ox b2 oy xs ys) :
    Calls Tryz.prog 21 #[.agg #[.int .i64 kind, .slice px xs.length cx, .slice py ys.length cy]] w fun e w' => e = .returned (.int .i64 E) ∧ Below w.heap.size w w' := by
  cases h with
  | kind h => exact ref10Check_kind kind px py _ _ cx cy w h
  | len h1 h4 h => exact ref10Check_len kind px py _ _ cx cy w h1 h4 (by omega)
  | node h1 h4 lo hi len K hK bad fine =>
    have hy := hs.y
    rw [len] at hy ⊢
    have := ref10Check_loop kind px py bx ox cx b2 oy cy xs.length K xs ys w hs.x hy (fun i hi' => hs.f i (by omega)) h1 h4 lo hi (by omega) fine (fun _ => bad)
    rw [if_pos hK] at this
    exact this
  | ok h =>
    have hy := hs.y
    have hl := h.len
    rw [hl] at hy ⊢
    have := ref10Check_loop kind px py bx ox cx b2 oy cy xs.length xs.length xs ys w hs.x hy (fun i hi' => hs.f i (by omega)) h.k1 h.k4 h.lo h.hi (Nat.le_refl _) h.node (fun c => absurd c (Nat.lt_irrefl _))
    rw [if_neg (Nat.lt_irrefl _)] at this
    exact this
/-- What Find tells. -/
inductive FindO (kind : Int) (xs : List Int) (ys : List Nat) (x : Int) : Int → Int → Prop
  | bad (E : Int) (h : TabR kind xs ys E) (hE : E ≠ 0) : FindO kind xs ys x 0 E
  | out (h : OkT kind xs ys) (hx : x < xs.getD 0 0 ∨ xs.getD (xs.length - 1) 0 < x) : FindO kind xs ys x 0 51
  | at_ (h : OkT kind xs ys) (hlo : xs.getD 0 0 ≤ x) (hhi : x ≤ xs.getD (xs.length - 1) 0) (k : Nat) (hk : FindR xs x k) (hj : ∀ j < k, j + 1 < xs.length ∧ xs.getD (j + 1) 0 ≤ x) : FindO kind xs ys x (k : Int) 0
theorem tabR_ok {kind : Int} {xs : List Int} {ys : List Nat} (h : TabR kind xs ys 0) : OkT kind xs ys := by
  generalize hE : (0 : Int) = E at h
  cases h with
  | ok h => exact h
  | kind h => cases hE
  | len h1 h4 h => cases hE
  | node => cases hE
theorem findO_ex (kind : Int) (xs : List Int) (ys : List Nat) (x : Int) : ∃ k E, FindO kind xs ys x k E := by
  obtain ⟨E, h⟩ := tabR_ex kind xs ys
  by_cases hE : E = 0
  · subst hE
    have ok := tabR_ok h
    by_cases hx : x < xs.getD 0 0 ∨ xs.getD (xs.length - 1) 0 < x
    · exact ⟨_, _, .out ok hx⟩
    · obtain ⟨k, hk, hj⟩ := find_ex (x := x) ok.lo (by omega)
      exact ⟨_, _, .at_ ok (by omega) (by omega) k hk hj⟩
  · exact ⟨_, _, .bad E h hE⟩

set_option maxHeartbeats 800000 in
theorem ref10Find_bad (kind x E : Int) (v1 v2 : Value) (w : World) (hE : E ≠ 0) (HC : Hid (∀ wx, Below w.heap.size w wx → Calls Tryz.prog 21 #[.agg #[.int .i64 kind, v1, v2]] wx fun e w' => e = .returned (.int .i64 E) ∧ Below wx.heap.size wx w')) :
    Calls Tryz.prog 30 #[.agg #[.int .i64 kind, v1, v2], .int .i64 x] w fun e w' => e = .returned (.tuple #[.int .i64 0, .int .i64 E]) ∧ Below w.heap.size w w' := by
  have HB := hideS (tbox_at w kind v1 v2)
  have hE' : (E != 0) = true := bne_iff_ne.2 hE
  clear hE
  go_enter Tryz.func30, Tryz.ntmps30
  go_wp2_with (go_at_call 21; refine (HC.out _ HB.out.bl).mono ?_; rintro e w1 ⟨rfl, hb1⟩)
  go_ret2
  exact ⟨rfl, (HB.out.step hb1).bl⟩
set_option maxHeartbeats 1600000 in
theorem ref10Find_out (kind x : Int) (px : Option Addr) (bx ox cx : Nat) (n : Nat) (xs : List Int) (v2 : Value) (w : World) (hX : VSrc w px bx ox n (xV xs)) (hn : 1 ≤ n) (hn' : n ≤ 256) (hx : x < xs.getD 0 0 ∨ xs.getD (n - 1) 0 < x) (HC : Hid (∀ wx, Below w.heap.size w wx → Calls Tryz.prog 21 #[.agg #[.int .i64 kind, .slice px n cx, v2]] wx fun e w' => e = .returned (.int .i64 0) ∧ Below wx.heap.size wx w')) :
    Calls Tryz.prog 30 #[.agg #[.int .i64 kind, .slice px n cx, v2], .int .i64 x] w fun e w' => e = .returned (.tuple #[.int .i64 0, .int .i64 51]) ∧ Below w.heap.size w w' := by
  have HB := hideS (tbox_at w kind (.slice px n cx) v2)
  have HX := hideS fun wx (hb : Below w.heap.size w wx) => hX.below hb
  obtain rfl := hX.at_ (by omega)
  obtain ⟨m, hm⟩ : ∃ m, n = m + 1 := ⟨n - 1, by omega⟩
  have hm1 : n - 1 = m := by omega
  rw [hm1] at hx
  have hnm : (n : Int) - 1 = (m : Int) := by omega
  have hmn : m < n := by omega
  have h0n : 0 < n := by omega
  clear hX hm hm1 hn
  go_enter Tryz.func30, Tryz.ntmps30
  go_wp2_with fail
  refine (HC.out _ HB.out.bl).mono ?_
  rintro e w1 ⟨rfl, hb1⟩
  have HB1 := hideS (HB.out.step hb1)
  have HX1 := hideS (HX.out _ HB1.out.bl)
  clear hb1
  obtain ⟨t0, t1, t2, _, _⟩ := HB1.out
  have e0 : w1.cell? ⟨bx, ox, none⟩ = some (.int .i64 (xs.getD 0 0)) := HX1.out.cell 0 (by omega)
  have e1 : w1.cell? ⟨bx, ox + m, none⟩ = some (.int .i64 (xs.getD m 0)) := HX1.out.cell m hmn
  generalize xs.getD 0 0 = a at *
  generalize xs.getD m 0 = b at *
  rcases (show x < a ∨ (a ≤ x ∧ b < x) by omega) with h | ⟨h, h'⟩
  · have d1 : decide (x < a) = true := decide_eq_true h
    clear hx
    go_wp2_with fail
    go_ret2
    exact ⟨rfl, HB1.out.bl⟩
  · have d1 : decide (x < a) = false := decide_eq_false (by omega)
    have d2 : decide (b < x) = true := decide_eq_true h'
    clear hx
    go_wp2_with fail
    go_ret2
    exact ⟨rfl, HB1.out.bl⟩
set_option maxHeartbeats 3200000 in
theorem ref10Find_at (kind x : Int) (px : Option Addr) (bx ox cx : Nat) (n K : Nat) (xs : List Int) (v2 : Value) (w : World) (hX : VSrc w px bx ox n (xV xs)) (hn : 1 ≤ n) (hn' : n ≤ 256) (h0 : xs.getD 0 0 ≤ x) (h9 : x ≤ xs.getD (n - 1) 0) (hK : K < n) (hgt : K + 1 < n → x < xs.getD (K + 1) 0) (hj : ∀ j < K, j + 1 < n ∧ xs.getD (j + 1) 0 ≤ x) (HC : Hid (∀ wx, Below w.heap.size w wx → Calls Tryz.prog 21 #[.agg #[.int .i64 kind, .slice px n cx, v2]] wx fun e w' => e = .returned (.int .i64 0) ∧ Below wx.heap.size wx w')) :
    Calls Tryz.prog 30 #[.agg #[.int .i64 kind, .slice px n cx, v2], .int .i64 x] w fun e w' => e = .returned (.tuple #[.int .i64 (K : Int), .int .i64 0]) ∧ Below w.heap.size w w' := by
  have HB := hideS (tbox_at w kind (.slice px n cx) v2)
  have HX := hideS fun wx (hb : Below w.heap.size w wx) => hX.below hb
  have HJ := hideS hj
  have HG := hideS hgt
  obtain rfl := hX.at_ (by omega)
  obtain ⟨m, hm⟩ : ∃ m, n = m + 1 := ⟨n - 1, by omega⟩
  rw [show n - 1 = m by omega] at h9
  have hnm : (n : Int) - 1 = (m : Int) := by omega
  have hmn : m < n := by omega
  have h0n : 0 < n := by omega
  clear hX hm hn hj hgt
  go_enter Tryz.func30, Tryz.ntmps30
  go_wp2_with fail
  refine (HC.out _ HB.out.bl).mono ?_
  rintro e w1 ⟨rfl, hb1⟩
  have HB1 := hideS (HB.out.step hb1)
  have HX1 := hideS (HX.out _ HB1.out.bl)
  clear hb1
  obtain ⟨t0, t1, t2, _, _⟩ := HB1.out
  have e0 : w1.cell? ⟨bx, ox, none⟩ = some (.int .i64 (xs.getD 0 0)) := HX1.out.cell 0 (by omega)
  have e1 : w1.cell? ⟨bx, ox + m, none⟩ = some (.int .i64 (xs.getD m 0)) := HX1.out.cell m hmn
  have d1 : decide (x < xs.getD 0 0) = false := decide_eq_false (by omega)
  have d2 : decide (xs.getD m 0 < x) = false := decide_eq_false (by omega)
  clear h0 h9
  generalize xs.getD 0 0 = a at *
  generalize xs.getD m 0 = b at *
  go_wp2_with fail
  clear e0 e1 d1 d2
  go_loop [7] (fun i => ∃ k : Nat, k ≤ K ∧ i = .int .i64 k) (fun i => n - (intOf i).toNat)
  case atStart => exact ⟨0, Nat.zero_le _, rfl⟩
  case round =>
    obtain ⟨k, hk, rfl⟩ := hrel
    obtain ⟨j, hj⟩ : ∃ j, k + 1 = j := ⟨_, rfl⟩
    have hkj : (k : Int) + 1 = (j : Int) := by omega
    by_cases hkK : k < K
    · obtain ⟨j1, j2⟩ := HJ.out k hkK
      rw [hj] at j1 j2
      have c1 : w1.cell? ⟨bx, ox + j, none⟩ = some (.int .i64 (xs.getD j 0)) := HX1.out.cell j j1
      have d3 : decide (xs.getD j 0 ≤ x) = true := decide_eq_true j2
      clear j2
      generalize xs.getD j 0 = y at *
      have d4 : decide ((j : Int) < (n : Int)) = true := decide_eq_true (by omega)
      have HJj := hideS hj
      clear hj
      go_wp2_with fail
      go_round
      case rel => exact ⟨j, by have := HJj.out; omega, rfl⟩
      case measure => have := HJj.out; simp [intOf]; omega
    · obtain rfl : k = K := by omega
      by_cases hl : j < n
      · have c1 : w1.cell? ⟨bx, ox + j, none⟩ = some (.int .i64 (xs.getD j 0)) := HX1.out.cell j hl
        have d3 : decide (xs.getD j 0 ≤ x) = false := decide_eq_false (by have := HG.out (by omega); rw [hj] at this; omega)
        generalize xs.getD j 0 = y at *
        have d4 : decide ((j : Int) < (n : Int)) = true := decide_eq_true (by omega)
        clear hj
        go_wp2_with fail
        go_ret2
        exact ⟨rfl, HB1.out.bl⟩
      · have d4 : decide ((j : Int) < (n : Int)) = false := decide_eq_false (by omega)
        clear hj
        go_wp2_with fail
        go_ret2
        exact ⟨rfl, HB1.out.bl⟩
theorem ref10Find_any (kind x k E : Int) (px py : Option Addr) (bx ox cx b2 oy cy : Nat) (xs : List Int) (ys : List Nat) (w : World) (h : FindO kind xs ys x k E) (hs : TSrc w px py bx ox b2 oy xs ys) :
    Calls Tryz.prog 30 #[.agg #[.int .i64 kind, .slice px xs.length cx, .slice py ys.length cy], .int .i64 x] w fun e w' => e = .returned (.tuple #[.int .i64 k, .int .i64 E]) ∧ Below w.heap.size w w' := by
  cases h with
  | bad E h hE => exact ref10Find_bad kind x E _ _ w hE (fun wx hb => ref10Check_any kind E px py bx ox cx b2 oy cy xs ys wx h (hs.below hb))
  | out h hx => exact ref10Find_out kind x px bx ox cx xs.length xs _ w hs.x h.lo h.hi hx (fun wx hb => ref10Check_any kind 0 px py bx ox cx b2 oy cy xs ys wx (.ok h) (hs.below hb))
  | at_ h hlo hhi k hk hj => exact ref10Find_at kind x px bx ox cx xs.length k xs _ w hs.x h.lo h.hi hlo hhi hk.lt hk.gt hj (fun wx hb => ref10Check_any kind 0 px py bx ox cx b2 oy cy xs ys wx (.ok h) (hs.below hb))
end Go.Proofs.YtnmjljijgmmakabGreat
namespace Go.Proofs.YtnmjljijgmmakabGreat
open Go.RowKit

theorem info_u64 : (Tryz.prog.info? 41).map (fun i => (i.zero, i.size, i.bytes)) = some (some (.int .u64 0), 1, 8) := by kernel_rfl

set_option maxHeartbeats 400000 in
theorem shiftUp_nil (p : Option Addr) (c : Nat) (n : Int) (w : World) :
    Calls Tryz.prog 71 #[.slice p 0 c, .int .i64 n] w fun e w' => e = .returned (.slice none 0 0) ∧ w' = w := by
  go_enter Tryz.func71, Tryz.ntmps71
  go_wp2
  go_ret
  exact ⟨rfl, rfl⟩

/-- A row of the call's own whose cells are M's digits. -/
def Own (w : World) (b n M : Nat) : Prop := w.rowIs b 41 n (fun i => .int .u64 (dgt M i : Int))
theorem Own.row {w : World} {b n M : Nat} (h : Own w b n M) : RowIs w b n M := fun _ hi => h.cell hi
theorem own_made (w : World) (n : Nat) : Own (w.alloc (.cells (madeCells #[.int .u64 0] n) 41)) w.heap.size n 0 :=
  (World.rowIs_made w (.int .u64 0) n 41).congr (fun i _ => by rw [dgt_zero]; rfl)

theorem shift_step {w : World} {b L N q r k n D X : Nat} (h : Own w b L ((N % 2 ^ (32 * k)) * 2 ^ n)) (hn : n = 32 * q + r) (hr : r < 32) (hD : D = dgt N k) (hX : X = D * 2 ^ r) (_hL : k + q + 1 < L) :
    Own ((w.setCell ⟨b, k + q, none⟩ (.int .u64 ((dgt ((N % 2 ^ (32 * k)) * 2 ^ n) (k + q) : Int) + (X : Int) % 4294967296))).setCell ⟨b, k + q + 1, none⟩ (.int .u64 ((X : Int) / 4294967296))) b L ((N % 2 ^ (32 * (k + 1))) * 2 ^ n) := by
  have h2 := (h.set (k + q) (.int .u64 ((dgt ((N % 2 ^ (32 * k)) * 2 ^ n) (k + q) : Int) + (X : Int) % 4294967296))).set (k + q + 1) (.int .u64 ((X : Int) / 4294967296))
  refine h2.congr fun j _ => ?_
  have hM : N % 2 ^ (32 * k) * 2 ^ n < 2 ^ r * 2 ^ (32 * (k + q)) := by
    have h1 : N % 2 ^ (32 * k) < 2 ^ (32 * k) := Nat.mod_lt _ (Nat.two_pow_pos _)
    have e : 2 ^ r * 2 ^ (32 * (k + q)) = 2 ^ (32 * k) * 2 ^ n := by rw [← Nat.pow_add, ← Nat.pow_add]; congr 1; omega
    rw [e]; exact Nat.mul_lt_mul_of_pos_right h1 (Nat.two_pow_pos _)
  have hx63 : X < 2 ^ 63 := by
    have h1 := dgt_lt N k
    have h3 : (2 : Nat) ^ r ≤ 2 ^ 31 := Nat.pow_le_pow_right (by decide) (by omega)
    rw [hX, hD]
    calc dgt N k * 2 ^ r ≤ dgt N k * 2 ^ 31 := Nat.mul_le_mul_left _ h3
      _ < 2 ^ 63 := by omega
  have es : N % 2 ^ (32 * (k + 1)) * 2 ^ n = N % 2 ^ (32 * k) * 2 ^ n + X * 2 ^ (32 * (k + q)) := by
    rw [mod_succ, Nat.add_mul, hX, hD]
    congr 1
    rw [Nat.mul_assoc, Nat.mul_assoc, ← Nat.pow_add, ← Nat.pow_add]; congr 2; omega
  have key := add_at (j := j) hM hx63 (by rw [hX, Nat.mul_mod_left]) (by omega)
  rw [← es] at key
  rw [key]
  by_cases c1 : j = k + q + 1
  · rw [if_pos c1, if_neg (by omega), if_neg (by omega), if_pos c1]; congr 1
  · rw [if_neg c1]
    by_cases c2 : j = k + q
    · rw [if_pos c2, if_neg (by omega), if_pos c2]; congr 1
    · rw [if_neg c2]
      by_cases c3 : j < k + q
      · rw [if_pos c3]
      · rw [if_neg c3, if_neg c2, if_neg c1]
        rw [dgt_ge]
        refine Nat.lt_of_lt_of_le hM ?_
        rw [← Nat.pow_add]; exact Nat.pow_le_pow_right (by decide) (by omega)

set_option maxRecDepth 10000 in
set_option maxHeartbeats 800000 in
theorem shiftUp_row (g c N m n q r : Nat) (w : World) (hm : 1 ≤ m) (hm' : m ≤ 10000000) (hn : n ≤ 100000000) (hq : (n : Int) / 32 = q) (hr : (n : Int) % 32 = r) (hrow : Hid (RowIs w g m N)) (hg : g < w.heap.size) (hN : Hid (N < 2 ^ (32 * m))) :
    Calls Tryz.prog 71 #[.slice (some ⟨g, 0, none⟩) m c, .int .i64 n] w fun e w' => ∃ v, e = .returned v ∧ DN w' v (N * 2 ^ n) ∧ From w.heap.size v ∧ Below w.heap.size w w' := by
  have hq1 : q ≤ 3125000 := by omega
  have hr1 : r < 32 := by omega
  have HN : Hid (n = 32 * q + r) := by show _ = _; omega
  have hmk := fun w => run_make_row' (P := Tryz.prog) 27 41 (.int .u64 0) 8 Tryz.underlying27 info_u64 rfl .i64 .i64 (m + q + 1) (by omega) (by omega) w
  have ec : ((m + q + 1 : Nat) : Int) = (m : Int) + (q : Int) + 1 := by omega
  rw [ec] at hmk
  clear ec
  have HO := hide (own_made w (m + q + 1))
  go_enter Tryz.func71, Tryz.ntmps71
  go_wp2
  go_loopw [6] (fun i wr => ∃ k : Nat, k ≤ m ∧ i = .int .i64 k ∧ Hid (Own wr w.heap.size (m + q + 1) ((N % 2 ^ (32 * k)) * 2 ^ n)) ∧ Hid (Below w.heap.size w wr)) (fun i _ => m - (intOf i).toNat)
  case atStart => exact ⟨0, Nat.zero_le _, rfl, by rw [Nat.mul_zero, Nat.pow_zero, Nat.mod_one, Nat.zero_mul]; exact HO, (Below.refl _ _).alloc (Nat.le_refl _) _⟩
  case round =>
    clear HO hmk
    obtain ⟨k, hk, rfl, HOwn, HB⟩ := hrel
    by_cases hlt : k < m
    · have hc : wr.cell? ⟨g, k, none⟩ = some (.int .u64 (dgt N k : Int)) := (HB.out.cell (p := ⟨g, k, none⟩) hg).trans (hrow.out k hlt)
      have h1 := HOwn.out.cell (i := k + q) (by omega)
      have h2 := HOwn.out.cell (i := k + q + 1) (by omega)
      have f1 := HOwn.out.frozen (k + q)
      have f2 := HOwn.out.frozen (k + q + 1)
      have b1 := dgt_lt ((N % 2 ^ (32 * k)) * 2 ^ n) (k + q)
      have b2 := dgt_lt N k
      have HS := fun D X (hD : D = dgt N k) (hX : X = D * 2 ^ r) => shift_step HOwn.out HN.out hr1 hD hX (by omega)
      have HS := hide HS
      generalize hA : dgt ((N % 2 ^ (32 * k)) * 2 ^ n) (k + q) = A at h1 b1 HS
      generalize hE : dgt ((N % 2 ^ (32 * k)) * 2 ^ n) (k + q + 1) = E at h2
      generalize hD : dgt N k = D at hc b2
      have HD := hide hD
      clear hA hE hD
      have hX : IntKind.u64.wrap ((D : Int) * 2 ^ r) = ((D * 2 ^ r : Nat) : Int) := by
        have e1 : ((D : Int) * 2 ^ r) = ((D * 2 ^ r : Nat) : Int) := by rw [Int.natCast_mul, Int.natCast_pow]; rfl
        have h3 : (2 : Nat) ^ r ≤ 2 ^ 31 := Nat.pow_le_pow_right (by decide) (by omega)
        have h4 : D * 2 ^ r ≤ D * 2 ^ 31 := Nat.mul_le_mul_left _ h3
        rw [e1, IntKind.wrap_u64]; omega
      have hXb : D * 2 ^ r < 9223372036854775808 := by
        have h3 : (2 : Nat) ^ r ≤ 2 ^ 31 := Nat.pow_le_pow_right (by decide) (by omega)
        have h4 : D * 2 ^ r ≤ D * 2 ^ 31 := Nat.mul_le_mul_left _ h3
        omega
      generalize hXX : D * 2 ^ r = X at hX hXb
      have HXX := hide hXX
      clear hXX
      go_wp2
      go_roundw
      case rel => exact ⟨k + 1, by omega, by go_num, HS.out D X HD.out.symm HXX.out.symm, (HB.out.setCell (Nat.le_refl _) _).setCell (Nat.le_refl _) _⟩
      case measure => simp [intOf]; omega
    · obtain rfl : k = m := by omega
      have e : N % 2 ^ (32 * k) = N := Nat.mod_eq_of_lt hN.out
      rw [e] at HOwn
      have hM : Hid (N * 2 ^ n < 2 ^ (32 * (k + q + 1))) := by
        show _ < _
        have h1 : N * 2 ^ n < 2 ^ (32 * k) * 2 ^ n := Nat.mul_lt_mul_of_pos_right hN.out (Nat.two_pow_pos _)
        rw [← Nat.pow_add] at h1
        refine Nat.lt_of_lt_of_le h1 (Nat.pow_le_pow_right (by decide) ?_)
        have := HN.out; omega
      have hlt2 := HOwn.out.lt
      have HD := hide (dn_mk HOwn.out.row hM.out (Nat.le_refl _) hlt2)
      clear e
      go_wp2_with fail
      refine (trim_row _ _ _ _ _ HOwn.out.row hM.out (Nat.le_refl _) (by omega)).mono ?_
      rintro e w' ⟨rfl, rfl⟩
      go_wp2_with fail
      go_ret
      exact ⟨_, rfl, HD.out, from_at _ _ _ _ (Nat.le_refl _), HB.out⟩

theorem shiftUp_new (v : Value) (N n : Nat) (w : World) (h : DN w v N) (hb : nd N ≤ 10000000) (hn : n ≤ 100000000) :
    Calls Tryz.prog 71 #[v, .int .i64 n] w fun e w' => ∃ v, e = .returned v ∧ DN w' v (N * 2 ^ n) ∧ From w.heap.size v ∧ Below w.heap.size w w' := by
  rcases h with ⟨h0, p, c, rfl⟩ | ⟨h0, g, c, rfl, hc, hg, hr⟩
  · refine (shiftUp_nil p c n w).mono ?_
    rintro e w' ⟨rfl, rfl⟩
    exact ⟨_, rfl, Or.inl ⟨by rw [h0, Nat.zero_mul], none, 0, rfl⟩, from_nil _, Below.refl _ _⟩
  · exact shiftUp_row g c N (nd N) n (n / 32) (n % 32) w (nd_pos h0) hb hn (by omega) (by omega) hr hg (nd_lt N)
theorem shiftUp_any (v : Value) (N n : Nat) (w : World) (h : DN w v N) (hb : nd N ≤ 10000000) (hn : n ≤ 100000000) :
    Calls Tryz.prog 71 #[v, .int .i64 n] w fun e w' => ∃ v, e = .returned v ∧ DN w' v (N * 2 ^ n) ∧ Below w.heap.size w w' :=
  (shiftUp_new v N n w h hb hn).mono fun _ _ ⟨v, a, b, _, d⟩ => ⟨v, a, b, d⟩

end Go.Proofs.YtnmjljijgmmakabGreat
