/- Rows of floats: what came in, and rows of one's own. The contracts of the document's Kind, times, above, long: rates. Tables as whole numbers and lists: no word of the program. Curves as whole numbers and lists: no word of the program. Slices of plain values that are only read. The contract of the document's Check of curves. The contract of the document's Check of tables. -/
import Derived.Test.YtcmbfflemoccmaaGreatHao
import Derived.WalkKit
import Derived.LoopTactic
import Derived.BigCall
import Derived.BigQuiet
import Derived.Maps.AppendAt
import Derived.Laws.OwnMore
import Derived.Deep.OwnRows
namespace Go.Proofs.YtcmbfflemoccmaaGreat
open Go.RowKit

theorem hideS {p : Prop} (h : p) : Hid p := h
theorem turned {P : Program} {f : Nat} {args : Array Value} {w : World} {Q : Ending → Prop} (h : Calls P f args w fun e w' => Q e ∧ w' = w) : Calls P f args w fun e w' => Q e ∧ w = w' :=
  h.mono fun _ _ ⟨a, b⟩ => ⟨a, b.symm⟩
theorem infoU : (Tryz.prog.info? 51).map (fun i => (i.zero, i.size, i.bytes)) = some (some (.int .u64 0), 1, 8) := by kernel_rfl
theorem own_below {w w' : World} {B e size n : Nat} {v : Value} {xs : List Value} (h : w.ownsRow B e size v n xs) (hb : Below w.heap.size w w') : w'.ownsRow B e size v n xs := by
  refine ⟨h.1, ?_⟩
  rcases h.2 with hn | ⟨g, cap, cur, rfl, hg, hgg, rest⟩
  · exact .inl hn
  · exact .inr ⟨g, cap, cur, rfl, hg, by rw [hb.block g (Array.getElem?_eq_some_iff.1 hgg).1]; exact hgg, rest⟩

def uV (x : Nat) : Value := .int .u64 (x : Int)
def fV (x : Nat) : Value := .float .f64 x
theorem getD_some {l : List Nat} {i : Nat} (hi : i < l.length) : l[i]? = some (l.getD i 0) := by simp [List.getD, List.getElem?_eq_getElem hi]
def rowOf (f : Nat → Value) (l : List Nat) (k : Nat) : List Value := (l.take k).map f
theorem take_next {f : Nat → Value} {l : List Nat} {k : Nat} (hk : k < l.length) : rowOf f l (k + 1) = rowOf f l k ++ [f (l.getD k 0)] := by
  unfold rowOf
  rw [List.take_add_one, getD_some hk, List.map_append]; rfl
theorem rowOf_all (f : Nat → Value) (l : List Nat) : rowOf f l l.length = l.map f := by unfold rowOf; rw [List.take_length]

structure Src (w : World) (p : Option Addr) (b off : Nat) (xs : List Nat) : Prop where
  at_ : 0 < xs.length → p = some ⟨b, off, none⟩
  lt : 0 < xs.length → b < w.heap.size
  cell : ∀ j, j < xs.length → w.cell? ⟨b, off + j, none⟩ = some (.float .f64 (xs.getD j 0))
theorem Src.below {w w' : World} {p : Option Addr} {b off : Nat} {xs : List Nat} (h : Src w p b off xs) (hb : Below w.heap.size w w') : Src w' p b off xs :=
  ⟨h.at_, fun hx => Nat.lt_of_lt_of_le (h.lt hx) hb.size, fun j hj => (hb.cell (p := ⟨b, off + j, none⟩) (h.lt (by omega))).trans (h.cell j hj)⟩

structure OwnF (w : World) (B t : Nat) (f : Nat → Value) (v : Value) (xs : List Nat) : Prop where
  own : w.ownsRow B t 1 v xs.length (xs.map f)
theorem OwnF.below {w w' : World} {B t : Nat} {f : Nat → Value} {v : Value} {xs : List Nat} (h : OwnF w B t f v xs) (hb : Below w.heap.size w w') : OwnF w' B t f v xs := ⟨own_below h.own hb⟩
theorem OwnF.shape {w : World} {B t : Nat} {f : Nat → Value} {v : Value} {xs : List Nat} (h : OwnF w B t f v xs) :
    ∃ p g c, v = .slice p xs.length c ∧ (0 < xs.length → p = some ⟨g, 0, none⟩ ∧ B ≤ g ∧ g < w.heap.size) ∧ ∀ j, j < xs.length → w.cell? ⟨g, j, none⟩ = some (f (xs.getD j 0)) := by
  rcases h.own.2 with ⟨hv, hn⟩ | ⟨g, cap, cur, hv, hb, hg, _⟩
  · exact ⟨none, 0, 0, by rw [hv, hn], fun h0 => by omega, fun j hj => by omega⟩
  · refine ⟨some ⟨g, 0, none⟩, g, cap, hv, fun _ => ⟨rfl, hb, (Array.getElem?_eq_some_iff.1 hg).1⟩, fun j hj => ?_⟩
    have h2 := h.own
    rw [hv] at h2
    rw [h2.cellAt j (by omega), List.getElem?_map, getD_some hj]; rfl
end Go.Proofs.YtcmbfflemoccmaaGreat
namespace Go.Proofs.YtcmbfflemoccmaaGreat
open Go.RowKit

def Stp1 (f : Nat) (u z : Int) : Prop := ∀ w, Calls Tryz.prog f #[.int .u64 u] w fun e w' => e = .returned (.int .u64 z) ∧ Below w.heap.size w w'
def ltB (u v : Int) : Bool := !nanB u && !nanB v && decide (rankI u < rankI v)
def finB (u : Int) : Bool := decide (szI u < 9218868437227405312)
def enyE (f : Int) : Int := if finB f = true then 0 else 91

set_option maxHeartbeats 800000 in
theorem refLt_any (u v : Int) (w : World) (h : U64 u) (h' : U64 v) :
    Calls Tryz.prog 32 #[.int .u64 u, .int .u64 v] w fun e w' => e = .returned (.bool (ltB u v)) ∧ w' = w := by
  have H1 := hideS fun w => refRank_any u w h
  have H2 := hideS fun w => refRank_any v w h'
  unfold ltB
  generalize rankI u = a at *
  generalize rankI v = c at *
  generalize nanB u = m at *
  generalize nanB v = n at *
  clear h h'
  go_enter Tryz.func32, Tryz.ntmps32
  go_wp2_with fail
  refine (H1.out _).mono ?_
  rintro e w' ⟨rfl, rfl⟩
  go_wp2_with fail
  refine (H2.out _).mono ?_
  rintro e w' ⟨rfl, rfl⟩
  cases m <;> cases n
  all_goals go_wp2_with fail
  all_goals go_ret
  all_goals exact ⟨by simp, rfl⟩

set_option maxHeartbeats 400000 in
theorem refNum_any (u : Int) (w : World) (h : U64 u) :
    Calls Tryz.prog 31 #[.int .u64 u] w fun e w' => e = .returned (.bool (finB u)) ∧ w' = w := by
  have hz := andNot_sz h
  unfold finB
  go_enter Tryz.func31, Tryz.ntmps31
  go_wp2
  go_ret
  exact ⟨rfl, rfl⟩

end Go.Proofs.YtcmbfflemoccmaaGreat
namespace Go.Proofs.YtcmbfflemoccmaaGreat
open Go.RowKit

def nodeB (kind : Int) (xs : List Int) (ys : List Nat) (i : Nat) : Bool :=
  decide (xs.getD i 0 < 0) || decide (109572 < xs.getD i 0) || (decide (0 < i) && decide (xs.getD i 0 ≤ xs.getD (i - 1) 0)) || !finB (ys.getD i 0 : Nat) || (decide (kind = 4) && !ltB 0 (ys.getD i 0 : Nat))
structure OkT (kind : Int) (xs : List Int) (ys : List Nat) : Prop where
  k1 : 1 ≤ kind
  k4 : kind ≤ 4
  lo : 1 ≤ xs.length
  hi : xs.length ≤ 256
  len : ys.length = xs.length
  node : ∀ i < xs.length, nodeB kind xs ys i = false
inductive TabR (kind : Int) (xs : List Int) (ys : List Nat) : Int → Prop
  | ok (h : OkT kind xs ys) : TabR kind xs ys 0
  | kind (h : kind < 1 ∨ 4 < kind) : TabR kind xs ys 90
  | len (h1 : 1 ≤ kind) (h4 : kind ≤ 4) (h : xs.length < 1 ∨ 256 < xs.length ∨ ys.length ≠ xs.length) : TabR kind xs ys 100
  | node (h1 : 1 ≤ kind) (h4 : kind ≤ 4) (lo : 1 ≤ xs.length) (hi : xs.length ≤ 256) (len : ys.length = xs.length) (K : Nat) (hK : K < xs.length) (bad : nodeB kind xs ys K = true) (fine : ∀ i < K, nodeB kind xs ys i = false) : TabR kind xs ys 100
theorem least_bad {p : Nat → Bool} : ∀ N, (∃ i < N, p i = true) → ∃ k < N, p k = true ∧ ∀ j < k, p j = false
  | 0, ⟨i, hi, _⟩ => by omega
  | N + 1, ⟨i, hi, hp⟩ => by
    by_cases h : ∃ i < N, p i = true
    · obtain ⟨k, hk, h1, h2⟩ := least_bad N h
      exact ⟨k, by omega, h1, h2⟩
    · have hN : i = N := Classical.byContradiction fun c => h ⟨i, by omega, hp⟩
      subst hN
      exact ⟨i, by omega, hp, fun j hj => by
        cases hc : p j
        · rfl
        · exact absurd ⟨j, hj, hc⟩ h⟩
theorem tabR_ex (kind : Int) (xs : List Int) (ys : List Nat) : ∃ E, TabR kind xs ys E := by
  by_cases hk : kind < 1 ∨ 4 < kind
  · exact ⟨90, .kind hk⟩
  · by_cases hl : xs.length < 1 ∨ 256 < xs.length ∨ ys.length ≠ xs.length
    · exact ⟨100, .len (by omega) (by omega) hl⟩
    · by_cases hb : ∃ i < xs.length, nodeB kind xs ys i = true
      · obtain ⟨K, hK, h1, h2⟩ := least_bad _ hb
        exact ⟨100, .node (by omega) (by omega) (by omega) (by omega) (by omega) K hK h1 h2⟩
      · exact ⟨0, .ok ⟨by omega, by omega, by omega, by omega, by omega, fun i hi => by
          cases hc : nodeB kind xs ys i
          · rfl
          · exact absurd ⟨i, hi, hc⟩ hb⟩⟩
theorem node_fine {kind : Int} {xs : List Int} {ys : List Nat} {i : Nat} (h : nodeB kind xs ys i = false) : 0 ≤ xs.getD i 0 ∧ xs.getD i 0 ≤ 109572 ∧ (0 < i → xs.getD (i - 1) 0 < xs.getD i 0) ∧ finB (ys.getD i 0 : Nat) = true ∧ (kind = 4 → ltB 0 (ys.getD i 0 : Nat) = true) := by
  unfold nodeB at h
  simp only [Bool.or_eq_false_iff, Bool.and_eq_false_iff, decide_eq_false_iff_not, Bool.not_eq_false'] at h
  obtain ⟨⟨⟨⟨a, b⟩, c⟩, d⟩, e⟩ := h
  refine ⟨by omega, by omega, fun hi => ?_, d, fun hk => ?_⟩
  · rcases c with c | c <;> omega
  · rcases e with e | e
    · exact absurd hk e
    · exact e
theorem OkT.step {kind : Int} {xs : List Int} {ys : List Nat} (h : OkT kind xs ys) {i : Nat} (hi : i + 1 < xs.length) : xs.getD i 0 < xs.getD (i + 1) 0 := by
  have := (node_fine (h.node (i + 1) hi)).2.2.1 (by omega)
  simpa using this
theorem OkT.rise {kind : Int} {xs : List Int} {ys : List Nat} (h : OkT kind xs ys) {i j : Nat} (hij : i < j) (hj : j < xs.length) : xs.getD i 0 < xs.getD j 0 := by
  obtain ⟨d, rfl⟩ : ∃ d, j = i + 1 + d := ⟨j - i - 1, by omega⟩
  induction d with
  | zero => exact h.step (by omega)
  | succ d ih =>
    have a := ih (by omega) (by omega)
    have b := h.step (i := i + 1 + d) (by omega)
    exact Int.lt_trans a b
structure FindR (xs : List Int) (x : Int) (k : Nat) : Prop where
  lt : k < xs.length
  le : xs.getD k 0 ≤ x
  gt : k + 1 < xs.length → x < xs.getD (k + 1) 0
theorem find_ex {xs : List Int} {x : Int} (hlo : 0 < xs.length) (h0 : xs.getD 0 0 ≤ x) : ∃ k, FindR xs x k ∧ ∀ j < k, j + 1 < xs.length ∧ xs.getD (j + 1) 0 ≤ x := by
  by_cases hb : ∃ i < xs.length, decide (i + 1 < xs.length → x < xs.getD (i + 1) 0) = true
  · obtain ⟨k, hk, h1, h2⟩ := least_bad (p := fun i => decide (i + 1 < xs.length → x < xs.getD (i + 1) 0)) _ hb
    have h3 : ∀ j < k, j + 1 < xs.length ∧ xs.getD (j + 1) 0 ≤ x := fun j hj => by
      have := h2 j hj
      rw [decide_eq_false_iff_not] at this
      obtain ⟨a, b⟩ := Classical.not_imp.1 this
      exact ⟨a, by omega⟩
    refine ⟨k, ⟨hk, ?_, of_decide_eq_true h1⟩, h3⟩
    by_cases hz : k = 0
    · rw [hz]; exact h0
    · have := (h3 (k - 1) (by omega)).2
      rwa [show k - 1 + 1 = k by omega] at this
  · exact absurd ⟨xs.length - 1, by omega, decide_eq_true (fun c => by omega)⟩ hb
end Go.Proofs.YtcmbfflemoccmaaGreat
namespace Go.Proofs.YtcmbfflemoccmaaGreat
open Go.RowKit

def prvC (base : Int) (ds : List Int) : Nat → Int
  | 0 => base
  | k + 1 => ds.getD k 0
def nodC (base : Int) (ds : List Int) (fs : List Nat) (i : Nat) : Bool := decide (ds.getD i 0 ≤ prvC base ds i) || decide (109572 < ds.getD i 0) || !finB (fs.getD i 0 : Nat) || !ltB 0 (fs.getD i 0 : Nat)
structure OkV (base kind : Int) (ds : List Int) (fs : List Nat) : Prop where
  b0 : 0 ≤ base
  b1 : base ≤ 109572
  k1 : 1 ≤ kind
  k4 : kind ≤ 4
  lo : 1 ≤ ds.length
  hi : ds.length ≤ 255
  len : fs.length = ds.length
  node : ∀ i < ds.length, nodC base ds fs i = false
inductive CurR (base kind : Int) (ds : List Int) (fs : List Nat) : Int → Prop
  | ok (h : OkV base kind ds fs) : CurR base kind ds fs 0
  | base (h : base < 0 ∨ 109572 < base) : CurR base kind ds fs 51
  | kind (b0 : 0 ≤ base) (b1 : base ≤ 109572) (h : kind < 1 ∨ 4 < kind) : CurR base kind ds fs 90
  | len (b0 : 0 ≤ base) (b1 : base ≤ 109572) (h1 : 1 ≤ kind) (h4 : kind ≤ 4) (h : ds.length < 1 ∨ 255 < ds.length ∨ fs.length ≠ ds.length) : CurR base kind ds fs 100
  | node (b0 : 0 ≤ base) (b1 : base ≤ 109572) (h1 : 1 ≤ kind) (h4 : kind ≤ 4) (lo : 1 ≤ ds.length) (hi : ds.length ≤ 255) (len : fs.length = ds.length) (K : Nat) (hK : K < ds.length) (bad : nodC base ds fs K = true) (fine : ∀ i < K, nodC base ds fs i = false) : CurR base kind ds fs 100
theorem curR_ex (base kind : Int) (ds : List Int) (fs : List Nat) : ∃ E, CurR base kind ds fs E := by
  by_cases hb : base < 0 ∨ 109572 < base
  · exact ⟨51, .base hb⟩
  · by_cases hk : kind < 1 ∨ 4 < kind
    · exact ⟨90, .kind (by omega) (by omega) hk⟩
    · by_cases hl : ds.length < 1 ∨ 255 < ds.length ∨ fs.length ≠ ds.length
      · exact ⟨100, .len (by omega) (by omega) (by omega) (by omega) hl⟩
      · by_cases hb : ∃ i < ds.length, nodC base ds fs i = true
        · obtain ⟨K, hK, h1, h2⟩ := least_bad _ hb
          exact ⟨100, .node (by omega) (by omega) (by omega) (by omega) (by omega) (by omega) (by omega) K hK h1 h2⟩
        · exact ⟨0, .ok ⟨by omega, by omega, by omega, by omega, by omega, by omega, by omega, fun i hi => by
            cases hc : nodC base ds fs i
            · rfl
            · exact absurd ⟨i, hi, hc⟩ hb⟩⟩
theorem curR_ok {base kind : Int} {ds : List Int} {fs : List Nat} (h : CurR base kind ds fs 0) : OkV base kind ds fs := by
  generalize hE : (0 : Int) = E at h
  cases h with
  | ok h => exact h
  | base h => cases hE
  | kind => cases hE
  | len => cases hE
  | node => cases hE
theorem nodC_fine {base : Int} {ds : List Int} {fs : List Nat} {i : Nat} (h : nodC base ds fs i = false) : prvC base ds i < ds.getD i 0 ∧ ds.getD i 0 ≤ 109572 ∧ finB (fs.getD i 0 : Nat) = true ∧ ltB 0 (fs.getD i 0 : Nat) = true := by
  unfold nodC at h
  simp only [Bool.or_eq_false_iff, decide_eq_false_iff_not, Bool.not_eq_false'] at h
  obtain ⟨⟨⟨a, b⟩, c⟩, d⟩ := h
  exact ⟨by omega, by omega, c, d⟩
def ctX (base : Int) (ds : List Int) : List Int := base :: ds
def ctY (fs : List Nat) : List Nat := 4607182418800017408 :: fs
theorem ctX_at (base : Int) (ds : List Int) (i : Nat) : (ctX base ds).getD i 0 = prvC base ds i := by
  cases i <;> rfl
theorem OkV.pos {base kind : Int} {ds : List Int} {fs : List Nat} (h : OkV base kind ds fs) : ∀ i ≤ ds.length, 0 ≤ prvC base ds i
  | 0, _ => h.b0
  | i + 1, hi => by
    have := nodC_fine (h.node i (by omega))
    have := OkV.pos h i (by omega)
    show 0 ≤ ds.getD i 0
    omega
theorem OkV.top {base kind : Int} {ds : List Int} {fs : List Nat} (h : OkV base kind ds fs) : ∀ i ≤ ds.length, prvC base ds i ≤ 109572
  | 0, _ => h.b1
  | i + 1, hi => (nodC_fine (h.node i (by omega))).2.1
theorem OkV.table {base kind : Int} {ds : List Int} {fs : List Nat} (h : OkV base kind ds fs) : OkT kind (ctX base ds) (ctY fs) := by
  refine ⟨h.k1, h.k4, by simp [ctX], by have := h.hi; simp [ctX]; omega, by simp [ctX, ctY, h.len], fun i hi => ?_⟩
  have hi' : i ≤ ds.length := by have : i < ds.length + 1 := hi; omega
  have p := h.pos i hi'
  have t := h.top i hi'
  unfold nodeB
  rw [ctX_at, decide_eq_false (show ¬ prvC base ds i < 0 by omega), decide_eq_false (show ¬ 109572 < prvC base ds i by omega)]
  cases i with
  | zero =>
    show (false || false || (decide (0 < 0) && _) || !finB (4607182418800017408 : Nat) || (decide (kind = 4) && !ltB 0 (4607182418800017408 : Nat))) = false
    rw [show finB (4607182418800017408 : Nat) = true by decide, show ltB 0 (4607182418800017408 : Nat) = true by decide]; simp
  | succ i =>
    obtain ⟨a, b, c, d⟩ := nodC_fine (h.node i (by omega))
    have e1 : (ctX base ds).getD (i + 1 - 1) 0 = prvC base ds i := by rw [Nat.add_sub_cancel, ctX_at]
    have e2 : (ctY fs).getD (i + 1) 0 = fs.getD i 0 := rfl
    have e3 : prvC base ds (i + 1) = ds.getD i 0 := rfl
    rw [e1, e2, e3, c, d, decide_eq_false (show ¬ ds.getD i 0 ≤ prvC base ds i by omega)]; simp
end Go.Proofs.YtcmbfflemoccmaaGreat
namespace Go.Proofs.YtcmbfflemoccmaaGreat
open Go.RowKit

structure VSrc (w : World) (p : Option Addr) (b off n : Nat) (f : Nat → Value) : Prop where
  at_ : 0 < n → p = some ⟨b, off, none⟩
  lt : 0 < n → b < w.heap.size
  cell : ∀ j < n, w.cell? ⟨b, off + j, none⟩ = some (f j)
theorem VSrc.below {w w' : World} {p : Option Addr} {b off n : Nat} {f : Nat → Value} (h : VSrc w p b off n f) (hb : Below w.heap.size w w') : VSrc w' p b off n f :=
  ⟨h.at_, fun hx => Nat.lt_of_lt_of_le (h.lt hx) hb.size, fun j hj => (hb.cell (p := ⟨b, off + j, none⟩) (h.lt (by omega))).trans (h.cell j hj)⟩
def xV (xs : List Int) (j : Nat) : Value := .int .i64 (xs.getD j 0)
def yV (ys : List Nat) (j : Nat) : Value := .int .u64 (ys.getD j 0 : Nat)
def flV (ys : List Nat) (j : Nat) : Value := .float .f64 (ys.getD j 0)
structure TBox (w : World) (kind : Int) (vx vy : Value) (wr : World) : Prop where
  t0 : wr.cell? ⟨w.heap.size, 0, none⟩ = some (.int .i64 kind)
  t1 : wr.cell? ⟨w.heap.size, 1, none⟩ = some vx
  t2 : wr.cell? ⟨w.heap.size, 2, none⟩ = some vy
  bl : Below w.heap.size w wr
  lt : w.heap.size < wr.heap.size
theorem tbox_at (w : World) (kind : Int) (vx vy : Value) : TBox w kind vx vy (w.alloc (.cells #[.int .i64 kind, vx, vy] 81)) :=
  ⟨by simp, by simp, by simp, (Below.refl _ _).alloc (Nat.le_refl _) _, by simp⟩
theorem TBox.step {w wr w' : World} {kind : Int} {vx vy : Value} (h : TBox w kind vx vy wr) (hb : Below wr.heap.size wr w') : TBox w kind vx vy w' :=
  ⟨(hb.cell (p := ⟨w.heap.size, 0, none⟩) h.lt).trans h.t0, (hb.cell (p := ⟨w.heap.size, 1, none⟩) h.lt).trans h.t1, (hb.cell (p := ⟨w.heap.size, 2, none⟩) h.lt).trans h.t2, h.bl.trans (hb.mono h.bl.size), Nat.lt_of_lt_of_le h.lt hb.size⟩
end Go.Proofs.YtcmbfflemoccmaaGreat
namespace Go.Proofs.YtcmbfflemoccmaaGreat
open Go.RowKit

structure VBox (w : World) (base kind : Int) (vd vf : Value) (wr : World) : Prop where
  t0 : wr.cell? ⟨w.heap.size, 0, none⟩ = some (.int .i64 base)
  t1 : wr.cell? ⟨w.heap.size, 1, none⟩ = some (.int .i64 kind)
  t2 : wr.cell? ⟨w.heap.size, 2, none⟩ = some vd
  t3 : wr.cell? ⟨w.heap.size, 3, none⟩ = some vf
  bl : Below w.heap.size w wr
  lt : w.heap.size < wr.heap.size
theorem vbox_at (w : World) (base kind : Int) (vd vf : Value) : VBox w base kind vd vf (w.alloc (.cells #[.int .i64 base, .int .i64 kind, vd, vf] 32)) :=
  ⟨by simp, by simp, by simp, by simp, (Below.refl _ _).alloc (Nat.le_refl _) _, by simp⟩
theorem vboxA_at (w : World) (base kind : Int) (vd vf : Value) : VBox w base kind vd vf (w.alloc (.cells #[.int .i64 base, .int .i64 kind, vd, vf] 25)) :=
  ⟨by simp, by simp, by simp, by simp, (Below.refl _ _).alloc (Nat.le_refl _) _, by simp⟩
theorem VBox.step {w wr w' : World} {base kind : Int} {vd vf : Value} (h : VBox w base kind vd vf wr) (hb : Below wr.heap.size wr w') : VBox w base kind vd vf w' :=
  ⟨(hb.cell (p := ⟨w.heap.size, 0, none⟩) h.lt).trans h.t0, (hb.cell (p := ⟨w.heap.size, 1, none⟩) h.lt).trans h.t1, (hb.cell (p := ⟨w.heap.size, 2, none⟩) h.lt).trans h.t2, (hb.cell (p := ⟨w.heap.size, 3, none⟩) h.lt).trans h.t3, h.bl.trans (hb.mono h.bl.size), Nat.lt_of_lt_of_le h.lt hb.size⟩
theorem VBox.drewN {w wr : World} {base kind : Int} {vd vf : Value} (h : VBox w base kind vd vf wr) (m : Nat) : VBox w base kind vd vf (wr.drewN m) := ⟨h.t0, h.t1, h.t2, h.t3, ⟨h.bl.os, h.bl.tape, h.bl.output, h.bl.size, h.bl.block⟩, h.lt⟩
structure CSrcD (w : World) (pd pf : Option Addr) (bd od b2 o2 : Nat) (ds : List Int) (fs : List Nat) : Prop where
  d : VSrc w pd bd od ds.length (xV ds)
  f : VSrc w pf b2 o2 fs.length (yV fs)
  u : ∀ i < fs.length, U64 (fs.getD i 0 : Nat)
theorem CSrcD.below {w w' : World} {pd pf : Option Addr} {bd od b2 o2 : Nat} {ds : List Int} {fs : List Nat} (h : CSrcD w pd pf bd od b2 o2 ds fs) (hb : Below w.heap.size w w') : CSrcD w' pd pf bd od b2 o2 ds fs := ⟨h.d.below hb, h.f.below hb, h.u⟩

set_option maxRecDepth 20000 in
set_option maxHeartbeats 800000 in
theorem ref11Check_base (base kind : Int) (vd vf : Value) (w : World) (h : base < 0 ∨ 109572 < base) :
    Calls Tryz.prog 11 #[.agg #[.int .i64 base, .int .i64 kind, vd, vf]] w fun e w' => e = .returned (.int .i64 51) ∧ Below w.heap.size w w' := by
  have HB := hideS (vbox_at w base kind vd vf)
  rcases (show base < 0 ∨ (0 ≤ base ∧ 109572 < base) by omega) with h1 | ⟨h1, h2⟩
  · have d1 : decide (base < 0) = true := decide_eq_true h1
    clear h h1
    go_enter Tryz.func11, Tryz.ntmps11
    go_wp2_with fail
    go_ret
    exact ⟨rfl, HB.out.bl⟩
  · have d1 : decide (base < 0) = false := decide_eq_false (by omega)
    have d2 : decide (109572 < base) = true := decide_eq_true h2
    clear h h1 h2
    go_enter Tryz.func11, Tryz.ntmps11
    go_wp2_with fail
    go_ret
    exact ⟨rfl, HB.out.bl⟩
set_option maxRecDepth 20000 in
set_option maxHeartbeats 800000 in
theorem ref11Check_kind (base kind : Int) (vd vf : Value) (w : World) (b0 : 0 ≤ base) (b1 : base ≤ 109572) (h : kind < 1 ∨ 4 < kind) :
    Calls Tryz.prog 11 #[.agg #[.int .i64 base, .int .i64 kind, vd, vf]] w fun e w' => e = .returned (.int .i64 90) ∧ Below w.heap.size w w' := by
  have HB := hideS (vbox_at w base kind vd vf)
  have d1 : decide (base < 0) = false := decide_eq_false (by omega)
  have d2 : decide (109572 < base) = false := decide_eq_false (by omega)
  rcases (show kind < 1 ∨ (1 ≤ kind ∧ 4 < kind) by omega) with h1 | ⟨h1, h2⟩
  · have d3 : decide (kind < 1) = true := decide_eq_true h1
    clear h h1
    go_enter Tryz.func11, Tryz.ntmps11
    go_wp2_with fail
    go_ret
    exact ⟨rfl, HB.out.bl⟩
  · have d3 : decide (kind < 1) = false := decide_eq_false (by omega)
    have d4 : decide (4 < kind) = true := decide_eq_true h2
    clear h h1 h2
    go_enter Tryz.func11, Tryz.ntmps11
    go_wp2_with fail
    go_ret
    exact ⟨rfl, HB.out.bl⟩
set_option maxRecDepth 20000 in
set_option maxHeartbeats 1600000 in
theorem ref11Check_len (base kind : Int) (pd pf : Option Addr) (n m cd cf : Nat) (w : World) (b0 : 0 ≤ base) (b1 : base ≤ 109572) (h1 : 1 ≤ kind) (h4 : kind ≤ 4) (h : n < 1 ∨ 255 < n ∨ m ≠ n) :
    Calls Tryz.prog 11 #[.agg #[.int .i64 base, .int .i64 kind, .slice pd n cd, .slice pf m cf]] w fun e w' => e = .returned (.int .i64 100) ∧ Below w.heap.size w w' := by
  have HB := hideS (vbox_at w base kind (.slice pd n cd) (.slice pf m cf))
  have d1 : decide (base < 0) = false := decide_eq_false (by omega)
  have d2 : decide (109572 < base) = false := decide_eq_false (by omega)
  have d3 : decide (kind < 1) = false := decide_eq_false (by omega)
  have d4 : decide (4 < kind) = false := decide_eq_false (by omega)
  rcases (show n < 1 ∨ (1 ≤ n ∧ 255 < n) ∨ (1 ≤ n ∧ n ≤ 255 ∧ m ≠ n) by omega) with a | ⟨a, b⟩ | ⟨a, b, c⟩
  · have d5 : decide ((n : Int) < 1) = true := decide_eq_true (by omega)
    clear h a b0 b1 h1 h4
    go_enter Tryz.func11, Tryz.ntmps11
    go_wp2_with fail
    go_ret
    exact ⟨rfl, HB.out.bl⟩
  · have d5 : decide ((n : Int) < 1) = false := decide_eq_false (by omega)
    have d6 : decide ((255 : Int) < n) = true := decide_eq_true (by omega)
    clear h a b b0 b1 h1 h4
    go_enter Tryz.func11, Tryz.ntmps11
    go_wp2_with fail
    go_ret
    exact ⟨rfl, HB.out.bl⟩
  · have d5 : decide ((n : Int) < 1) = false := decide_eq_false (by omega)
    have d6 : decide ((255 : Int) < n) = false := decide_eq_false (by omega)
    have d7 : ((n : Int) != (m : Int)) = true := bne_iff_ne.2 (by omega)
    clear h a b c b0 b1 h1 h4
    go_enter Tryz.func11, Tryz.ntmps11
    go_wp2_with fail
    go_ret
    exact ⟨rfl, HB.out.bl⟩
inductive NodCC (x q : Int) (f p : Bool) : Bool → Prop
  | back (h : x ≤ q) : NodCC x q f p true
  | far (h : q < x) (h2 : 109572 < x) : NodCC x q f p true
  | inf (h : q < x) (h2 : x ≤ 109572) (hf : f = false) : NodCC x q f p true
  | low (h : q < x) (h2 : x ≤ 109572) (hf : f = true) (hp : p = false) : NodCC x q f p true
  | fine (h : q < x) (h2 : x ≤ 109572) (hf : f = true) (hp : p = true) : NodCC x q f p false
theorem nodCC_of (base : Int) (ds : List Int) (fs : List Nat) (i : Nat) : NodCC (ds.getD i 0) (prvC base ds i) (finB (fs.getD i 0 : Nat)) (ltB 0 (fs.getD i 0 : Nat)) (nodC base ds fs i) := by
  obtain ⟨R, hR⟩ : ∃ R, nodC base ds fs i = R := ⟨_, rfl⟩
  rw [hR]
  unfold nodC at hR
  generalize ds.getD i 0 = x at *
  generalize prvC base ds i = q at *
  generalize finB (fs.getD i 0 : Nat) = f at *
  generalize ltB 0 (fs.getD i 0 : Nat) = p at *
  by_cases a : x ≤ q
  · simp [a] at hR
    subst hR; exact .back a
  · by_cases b : 109572 < x
    · simp [b] at hR
      subst hR; exact .far (by omega) b
    · rw [decide_eq_false a, decide_eq_false b] at hR
      cases f
      · simp at hR
        subst hR; exact .inf (by omega) (by omega) rfl
      · cases p
        · simp at hR
          subst hR; exact .low (by omega) (by omega) rfl rfl
        · simp at hR
          subst hR; exact .fine (by omega) (by omega) rfl rfl

set_option maxRecDepth 20000 in
set_option maxHeartbeats 12800000 in
theorem ref11Check_loop (base kind : Int) (pd pf : Option Addr) (bd od cd b2 o2 cf n K : Nat) (ds : List Int) (fs : List Nat) (w : World) (hX : VSrc w pd bd od n (xV ds)) (hY : VSrc w pf b2 o2 n (yV fs)) (hf : ∀ i < n, U64 (fs.getD i 0 : Nat)) (b0 : 0 ≤ base) (b1 : base ≤ 109572) (h1 : 1 ≤ kind) (h4 : kind ≤ 4) (hn : 1 ≤ n) (hn' : n ≤ 255) (hK : K ≤ n) (hfine : ∀ i < K, nodC base ds fs i = false) (hbad : K < n → nodC base ds fs K = true) :
    Calls Tryz.prog 11 #[.agg #[.int .i64 base, .int .i64 kind, .slice pd n cd, .slice pf n cf]] w fun e w' => e = .returned (.int .i64 (if K < n then 100 else 0)) ∧ Below w.heap.size w w' := by
  obtain ⟨w1, hw1⟩ : ∃ w1, w.alloc (.cells #[.int .i64 base, .int .i64 kind, .slice pd n cd, .slice pf n cf] 32) = w1 := ⟨_, rfl⟩
  have HB : Hid (VBox w base kind (.slice pd n cd) (.slice pf n cf) w1) := by show VBox _ _ _ _ _ _; rw [← hw1]; exact vbox_at w base kind (.slice pd n cd) (.slice pf n cf)
  have HX := hideS (hX.below HB.out.bl)
  have HY := hideS (hY.below HB.out.bl)
  have HF := hideS hf
  have HA := hideS hfine
  have HBd := hideS hbad
  have HNm := hideS fun (u : Int) (wx : World) (hu : U64 u) => refNum_any u wx hu
  have HLt := hideS fun (u : Int) (wx : World) (hu : U64 u) => refLt_any 0 u wx (by unfold U64; decide) hu
  obtain rfl := hX.at_ (by omega)
  obtain rfl := hY.at_ (by omega)
  have d1 : decide (base < 0) = false := decide_eq_false (by omega)
  have d2 : decide (109572 < base) = false := decide_eq_false (by omega)
  have d3 : decide (kind < 1) = false := decide_eq_false (by omega)
  have d4 : decide (4 < kind) = false := decide_eq_false (by omega)
  have d5 : decide ((n : Int) < 1) = false := decide_eq_false (by omega)
  have d6 : decide ((255 : Int) < n) = false := decide_eq_false (by omega)
  have d7 : ((n : Int) != (n : Int)) = false := by simp
  obtain ⟨R, hR⟩ : ∃ R : Int, (if K < n then 100 else 0) = R := ⟨_, rfl⟩
  rw [hR]
  have HR := hideS hR
  have s0 := HB.out.t0
  have s1 := HB.out.t1
  have s2 := HB.out.t2
  have s3 := HB.out.t3
  clear hX hY hf hfine hbad hR b0 b1 h1 h4
  go_enter Tryz.func11, Tryz.ntmps11
  go_wp2_with fail
  clear hw1 s0 s1 s2 s3 d1 d2 d3 d4 d5 d6 d7
  go_loopw [3, 4] (fun l i wr => ∃ k : Nat, k ≤ K ∧ l = .int .i64 (prvC base ds k) ∧ i = .int .i64 k ∧ Hid (wr = w1)) (fun _ i _ => n - (intOf i).toNat)
  case atStart => exact ⟨0, Nat.zero_le _, rfl, rfl, rfl⟩
  case round =>
    obtain ⟨k, hk, rfl, rfl, HQ⟩ := hrel
    have t2 : wr.cell? ⟨w.heap.size, 2, none⟩ = some (.slice (some ⟨bd, od, none⟩) n cd) := by rw [HQ.out]; exact HB.out.t2
    have t3 : wr.cell? ⟨w.heap.size, 3, none⟩ = some (.slice (some ⟨b2, o2, none⟩) n cf) := by rw [HQ.out]; exact HB.out.t3
    by_cases hlt : k < n
    · have hcx : wr.cell? ⟨bd, od + k, none⟩ = some (.int .i64 (ds.getD k 0)) := by rw [HQ.out]; exact HX.out.cell k hlt
      have hcy : wr.cell? ⟨b2, o2 + k, none⟩ = some (.int .u64 (fs.getD k 0 : Nat)) := by rw [HQ.out]; exact HY.out.cell k hlt
      have HC := nodCC_of base ds fs k
      have HU := hideS (HF.out k hlt)
      have HNk := hideS fun wx => HNm.out _ wx HU.out
      have HLk := hideS fun wx => HLt.out _ wx HU.out
      have HP : Hid (prvC base ds (k + 1) = ds.getD k 0) := rfl
      by_cases hkK : k < K
      · rw [HA.out k hkK] at HC
        generalize hZ : false = Z at HC
        cases HC with
        | back => cases hZ
        | far => cases hZ
        | inf => cases hZ
        | low => cases hZ
        | fine a b c d =>
          clear hZ
          rw [c] at HNk
          rw [d] at HLk
          clear c d
          generalize prvC base ds k = q at *
          generalize ds.getD k 0 = x at *
          generalize hyk : ((fs.getD k 0 : Nat) : Int) = y at *
          clear hyk
          have d1 : decide (x ≤ q) = false := decide_eq_false (by omega)
          have d2 : decide (109572 < x) = false := decide_eq_false (by omega)
          clear HA HBd HF HX HY HB HNm HLt HU hn a b
          go_wp2_with (first | (go_at_call 31; refine (HNk.out _).mono ?_; rintro e wn ⟨rfl, rfl⟩) | (go_at_call 32; refine (HLk.out _).mono ?_; rintro e wl ⟨rfl, rfl⟩))
          go_roundw
          case rel => exact ⟨k + 1, by omega, by rw [HP.out], by simp, HQ⟩
          case measure => simp [intOf]; omega
      · obtain rfl : k = K := by omega
        rw [HBd.out hlt] at HC
        have HR1 : Hid ((100 : Int) = R) := by show _ = _; rw [← HR.out, if_pos hlt]
        clear HR HP
        have HBl : Hid (Below w.heap.size w wr) := by show Below _ _ _; rw [HQ.out]; exact HB.out.bl
        generalize prvC base ds k = q at *
        generalize ds.getD k 0 = x at *
        generalize hyk : ((fs.getD k 0 : Nat) : Int) = y at *
        clear hyk
        generalize hZ : true = Z at HC
        cases HC with
        | fine => cases hZ
        | back a =>
          clear hZ
          have d1 : decide (x ≤ q) = true := decide_eq_true a
          clear HA HBd HF HX HY HB HNm HLt HU hn a
          go_wp2_with (first | (go_at_call 31; refine (HNk.out _).mono ?_; rintro e wn ⟨rfl, rfl⟩) | (go_at_call 32; refine (HLk.out _).mono ?_; rintro e wl ⟨rfl, rfl⟩))
          go_ret
          exact ⟨by rw [← HR1.out]; rfl, HBl.out⟩
        | far a b =>
          clear hZ
          have d1 : decide (x ≤ q) = false := decide_eq_false (by omega)
          have d2 : decide (109572 < x) = true := decide_eq_true b
          clear HA HBd HF HX HY HB HNm HLt HU hn a b
          go_wp2_with (first | (go_at_call 31; refine (HNk.out _).mono ?_; rintro e wn ⟨rfl, rfl⟩) | (go_at_call 32; refine (HLk.out _).mono ?_; rintro e wl ⟨rfl, rfl⟩))
          go_ret
          exact ⟨by rw [← HR1.out]; rfl, HBl.out⟩
        | inf a b c =>
          clear hZ
          rw [c] at HNk
          have d1 : decide (x ≤ q) = false := decide_eq_false (by omega)
          have d2 : decide (109572 < x) = false := decide_eq_false (by omega)
          clear HA HBd HF HX HY HB HNm HLt HU hn a b c
          go_wp2_with (first | (go_at_call 31; refine (HNk.out _).mono ?_; rintro e wn ⟨rfl, rfl⟩) | (go_at_call 32; refine (HLk.out _).mono ?_; rintro e wl ⟨rfl, rfl⟩))
          go_ret
          exact ⟨by rw [← HR1.out]; rfl, HBl.out⟩
        | low a b c d =>
          clear hZ
          rw [c] at HNk
          rw [d] at HLk
          have d1 : decide (x ≤ q) = false := decide_eq_false (by omega)
          have d2 : decide (109572 < x) = false := decide_eq_false (by omega)
          clear HA HBd HF HX HY HB HNm HLt HU hn a b c d
          go_wp2_with (first | (go_at_call 31; refine (HNk.out _).mono ?_; rintro e wn ⟨rfl, rfl⟩) | (go_at_call 32; refine (HLk.out _).mono ?_; rintro e wl ⟨rfl, rfl⟩))
          go_ret
          exact ⟨by rw [← HR1.out]; rfl, HBl.out⟩
    · obtain rfl : k = K := by omega
      have HR1 : Hid ((0 : Int) = R) := by show _ = _; rw [← HR.out, if_neg hlt]
      clear HR
      have hge : ¬ (k : Int) < n := by omega
      have HBl : Hid (Below w.heap.size w wr) := by show Below _ _ _; rw [HQ.out]; exact HB.out.bl
      go_wp2_with fail
      go_ret
      exact ⟨by rw [← HR1.out]; rfl, HBl.out⟩
theorem ref11Check_any (base kind : Int) (pd pf : Option Addr) (bd od cd b2 o2 cf : Nat) (ds : List Int) (fs : List Nat) (w : World) (hS : CSrcD w pd pf bd od b2 o2 ds fs) {E : Int} (hE : CurR base kind ds fs E) :
    Calls Tryz.prog 11 #[.agg #[.int .i64 base, .int .i64 kind, .slice pd ds.length cd, .slice pf fs.length cf]] w fun e w' => e = .returned (.int .i64 E) ∧ Below w.heap.size w w' := by
  cases hE with
  | base h => exact ref11Check_base base kind _ _ w h
  | kind b0 b1 h => exact ref11Check_kind base kind _ _ w b0 b1 h
  | len b0 b1 h1 h4 h => exact ref11Check_len base kind pd pf _ _ cd cf w b0 b1 h1 h4 h
  | ok h =>
    have hf := hS.f
    have hu := hS.u
    rw [h.len] at hf hu ⊢
    have := ref11Check_loop base kind pd pf bd od cd b2 o2 cf ds.length ds.length ds fs w hS.d hf hu h.b0 h.b1 h.k1 h.k4 h.lo h.hi (Nat.le_refl _) h.node (fun c => absurd c (Nat.lt_irrefl _))
    rwa [if_neg (Nat.lt_irrefl _)] at this
  | node b0 b1 h1 h4 lo hi len K hK bad fine =>
    have hf := hS.f
    have hu := hS.u
    rw [len] at hf hu ⊢
    have := ref11Check_loop base kind pd pf bd od cd b2 o2 cf ds.length K ds fs w hS.d hf hu b0 b1 h1 h4 lo hi (Nat.le_of_lt hK) fine (fun _ => bad)
    rwa [if_pos hK] at this
end Go.Proofs.YtcmbfflemoccmaaGreat
namespace Go.Proofs.YtcmbfflemoccmaaGreat
open Go.RowKit

set_option maxHeartbeats 800000 in
theorem ref10Check_kind (kind : Int) (px py : Option Addr) (n m cx cy : Nat) (w : World) (h : kind < 1 ∨ 4 < kind) :
    Calls Tryz.prog 95 #[.agg #[.int .i64 kind, .slice px n cx, .slice py m cy]] w fun e w' => e = .returned (.int .i64 90) ∧ Below w.heap.size w w' := by
  have HB := hideS (tbox_at w kind (.slice px n cx) (.slice py m cy))
  rcases (show kind < 1 ∨ (1 ≤ kind ∧ 4 < kind) by omega) with h1 | ⟨h1, h2⟩
  all_goals
    clear h
    go_enter Tryz.func95, Tryz.ntmps95
    go_wp2_with fail
    go_ret
    exact ⟨rfl, HB.out.bl⟩
set_option maxHeartbeats 1600000 in
theorem ref10Check_len (kind : Int) (px py : Option Addr) (n m cx cy : Nat) (w : World) (h1 : 1 ≤ kind) (h4 : kind ≤ 4) (h : n < 1 ∨ 256 < n ∨ m ≠ n) :
    Calls Tryz.prog 95 #[.agg #[.int .i64 kind, .slice px n cx, .slice py m cy]] w fun e w' => e = .returned (.int .i64 100) ∧ Below w.heap.size w w' := by
  have HB := hideS (tbox_at w kind (.slice px n cx) (.slice py m cy))
  rcases (show n = 0 ∨ (1 ≤ n ∧ 256 < n) ∨ (1 ≤ n ∧ n ≤ 256 ∧ m ≠ n) by omega) with a | ⟨a, b⟩ | ⟨a, b, c⟩
  · subst a
    go_enter Tryz.func95, Tryz.ntmps95
    go_wp2_with fail
    go_ret
    exact ⟨rfl, HB.out.bl⟩
  · have a' : ¬ (n : Int) < 1 := by omega
    have b' : (256 : Int) < n := by omega
    go_enter Tryz.func95, Tryz.ntmps95
    go_wp2_with fail
    go_ret
    exact ⟨rfl, HB.out.bl⟩
  · have a' : ¬ (n : Int) < 1 := by omega
    have b' : ¬ (256 : Int) < n := by omega
    have c' : ((n : Int) != (m : Int)) = true := bne_iff_ne.2 (by omega)
    go_enter Tryz.func95, Tryz.ntmps95
    go_wp2_with fail
    go_ret
    exact ⟨rfl, HB.out.bl⟩
inductive NodeC (kind : Int) (i : Nat) (x px : Int) (fin pos : Bool) : Bool → Prop
  | neg (h : x < 0) : NodeC kind i x px fin pos true
  | far (h0 : 0 ≤ x) (h : 109572 < x) : NodeC kind i x px fin pos true
  | back (h0 : 0 ≤ x) (h1 : x ≤ 109572) (hi : 0 < i) (h : x ≤ px) : NodeC kind i x px fin pos true
  | inf (h0 : 0 ≤ x) (h1 : x ≤ 109572) (hi : i = 0 ∨ (0 < i ∧ px < x)) (h : fin = false) : NodeC kind i x px fin pos true
  | low (h0 : 0 ≤ x) (h1 : x ≤ 109572) (hi : i = 0 ∨ (0 < i ∧ px < x)) (h : fin = true) (hk : kind = 4) (hp : pos = false) : NodeC kind i x px fin pos true
  | fine (h0 : 0 ≤ x) (h1 : x ≤ 109572) (hi : i = 0 ∨ (0 < i ∧ px < x)) (h : fin = true) (hk : kind ≠ 4 ∨ (kind = 4 ∧ pos = true)) : NodeC kind i x px fin pos false
theorem nodeC_of (kind : Int) (xs : List Int) (ys : List Nat) (i : Nat) : NodeC kind i (xs.getD i 0) (xs.getD (i - 1) 0) (finB (ys.getD i 0 : Nat)) (ltB 0 (ys.getD i 0 : Nat)) (nodeB kind xs ys i) := by
  obtain ⟨R, hR⟩ : ∃ R, nodeB kind xs ys i = R := ⟨_, rfl⟩
  rw [hR]
  unfold nodeB at hR
  generalize xs.getD i 0 = x at *
  generalize xs.getD (i - 1) 0 = q at *
  generalize finB (ys.getD i 0 : Nat) = f at *
  generalize ltB 0 (ys.getD i 0 : Nat) = p at *
  by_cases a : x < 0
  · simp [a] at hR
    subst hR; exact .neg a
  · by_cases b : 109572 < x
    · simp [b] at hR
      subst hR; exact .far (by omega) b
    · by_cases c : 0 < i ∧ x ≤ q
      · simp [c] at hR
        subst hR; exact .back (by omega) (by omega) c.1 c.2
      · have hi : i = 0 ∨ (0 < i ∧ q < x) := by omega
        have hc : (decide (0 < i) && decide (x ≤ q)) = false := by
          rw [Bool.and_eq_false_iff, decide_eq_false_iff_not, decide_eq_false_iff_not]
          omega
        rw [hc, decide_eq_false a, decide_eq_false b] at hR
        cases f
        · simp at hR
          subst hR; exact .inf (by omega) (by omega) hi rfl
        · by_cases k : kind = 4
          · cases p
            · simp [k] at hR
              subst hR; exact .low (by omega) (by omega) hi rfl k rfl
            · simp at hR
              subst hR; exact .fine (by omega) (by omega) hi rfl (Or.inr ⟨k, rfl⟩)
          · simp [k] at hR
            subst hR; exact .fine (by omega) (by omega) hi rfl (Or.inl k)
def NodeBad (kind : Int) (k : Nat) (x q : Int) (f p : Bool) : Prop :=
  x < 0 ∨ (0 ≤ x ∧ 109572 < x) ∨ (0 ≤ x ∧ x ≤ 109572 ∧ 0 < k ∧ x ≤ q) ∨ (0 ≤ x ∧ x ≤ 109572 ∧ ¬ 0 < k ∧ f = false) ∨ (0 ≤ x ∧ x ≤ 109572 ∧ 0 < k ∧ ¬ x ≤ q ∧ f = false) ∨ (0 ≤ x ∧ x ≤ 109572 ∧ ¬ 0 < k ∧ f = true ∧ kind = 4 ∧ p = false) ∨ (0 ≤ x ∧ x ≤ 109572 ∧ 0 < k ∧ ¬ x ≤ q ∧ f = true ∧ kind = 4 ∧ p = false)
def NodeFine (kind : Int) (k : Nat) (x q : Int) (f p : Bool) : Prop :=
  0 ≤ x ∧ x ≤ 109572 ∧ f = true ∧ ((¬ 0 < k ∧ (kind == 4) = false) ∨ (0 < k ∧ ¬ x ≤ q ∧ (kind == 4) = false) ∨ (¬ 0 < k ∧ (kind == 4) = true ∧ p = true) ∨ (0 < k ∧ ¬ x ≤ q ∧ (kind == 4) = true ∧ p = true))
theorem nodeC_bad {kind : Int} {k : Nat} {x q : Int} {f p : Bool} (h : NodeC kind k x q f p true) : NodeBad kind k x q f p := by
  unfold NodeBad
  generalize hR : true = R at h
  cases h with
  | neg h => exact Or.inl h
  | far h0 h => exact Or.inr (Or.inl ⟨h0, h⟩)
  | back h0 h1 hi h => exact Or.inr (Or.inr (Or.inl ⟨h0, h1, hi, h⟩))
  | inf h0 h1 hi h =>
    rcases hi with a | ⟨a, b⟩
    · exact Or.inr (Or.inr (Or.inr (Or.inl ⟨h0, h1, by omega, h⟩)))
    · exact Or.inr (Or.inr (Or.inr (Or.inr (Or.inl ⟨h0, h1, a, by omega, h⟩))))
  | low h0 h1 hi h hk hp =>
    rcases hi with a | ⟨a, b⟩
    · exact Or.inr (Or.inr (Or.inr (Or.inr (Or.inr (Or.inl ⟨h0, h1, by omega, h, hk, hp⟩)))))
    · exact Or.inr (Or.inr (Or.inr (Or.inr (Or.inr (Or.inr ⟨h0, h1, a, by omega, h, hk, hp⟩)))))
  | fine => cases hR
theorem nodeC_fine {kind : Int} {k : Nat} {x q : Int} {f p : Bool} (h : NodeC kind k x q f p false) : NodeFine kind k x q f p := by
  unfold NodeFine
  generalize hR : false = R at h
  cases h with
  | fine h0 h1 hi h hk =>
    refine ⟨h0, h1, h, ?_⟩
    rcases hi with a | ⟨a, b⟩ <;> rcases hk with c | ⟨c, d⟩
    · exact Or.inl ⟨by omega, beq_false_of_ne c⟩
    · exact Or.inr (Or.inr (Or.inl ⟨by omega, beq_iff_eq.2 c, d⟩))
    · exact Or.inr (Or.inl ⟨a, by omega, beq_false_of_ne c⟩)
    · exact Or.inr (Or.inr (Or.inr ⟨a, by omega, beq_iff_eq.2 c, d⟩))
  | neg => cases hR
  | far => cases hR
  | back => cases hR
  | inf => cases hR
  | low => cases hR

set_option maxHeartbeats 12800000 in
theorem ref10Check_loop (kind : Int) (px py : Option Addr) (bx ox cx b2 oy cy n K : Nat) (xs : List Int) (ys : List Nat) (w : World) (hX : VSrc w px bx ox n (xV xs)) (hY : VSrc w py b2 oy n (yV ys)) (hf : ∀ i < n, U64 (ys.getD i 0 : Nat)) (h1 : 1 ≤ kind) (h4 : kind ≤ 4) (hn : 1 ≤ n) (hn' : n ≤ 256) (hK : K ≤ n) (hfine : ∀ i < K, nodeB kind xs ys i = false) (hbad : K < n → nodeB kind xs ys K = true) :
    Calls Tryz.prog 95 #[.agg #[.int .i64 kind, .slice px n cx, .slice py n cy]] w fun e w' => e = .returned (.int .i64 (if K < n then 100 else 0)) ∧ Below w.heap.size w w' := by
  obtain ⟨w1, hw1⟩ : ∃ w1, w.alloc (.cells #[.int .i64 kind, .slice px n cx, .slice py n cy] 81) = w1 := ⟨_, rfl⟩
  have HB : Hid (TBox w kind (.slice px n cx) (.slice py n cy) w1) := by show TBox _ _ _ _ _; rw [← hw1]; exact tbox_at w kind (.slice px n cx) (.slice py n cy)
  have HX := hideS (hX.below HB.out.bl)
  have HY := hideS (hY.below HB.out.bl)
  have HF := hideS hf
  have HA := hideS hfine
  have HBd := hideS hbad
  have HNm := hideS fun (u : Int) (wx : World) (hu : U64 u) => refNum_any u wx hu
  have HLt := hideS fun (u : Int) (wx : World) (hu : U64 u) => refLt_any 0 u wx (by unfold U64; decide) hu
  obtain rfl := hX.at_ (by omega)
  obtain rfl := hY.at_ (by omega)
  have n1 : ¬ (n : Int) < 1 := by omega
  have n2 : ¬ (256 : Int) < n := by omega
  obtain ⟨R, hR⟩ : ∃ R : Int, (if K < n then 100 else 0) = R := ⟨_, rfl⟩
  rw [hR]
  have HR := hideS hR
  clear hR
  have s0 := HB.out.t0
  have s1 := HB.out.t1
  have s2 := HB.out.t2
  clear hX hY hf hfine hbad
  go_enter Tryz.func95, Tryz.ntmps95
  go_wp2_with fail
  clear hw1 s0 s1 s2
  go_loopw [3] (fun i wr => ∃ k : Nat, k ≤ K ∧ i = .int .i64 k ∧ Hid (∃ q, wr = w1.drewN q)) (fun i _ => n - (intOf i).toNat)
  case atStart => exact ⟨0, Nat.zero_le _, rfl, ⟨0, rfl⟩⟩
  case round =>
    obtain ⟨k, hk, rfl, HQ⟩ := hrel
    have t0 : wr.cell? ⟨w.heap.size, 0, none⟩ = some (.int .i64 kind) := by obtain ⟨q, e⟩ := HQ.out; rw [e]; exact HB.out.t0
    have t1 : wr.cell? ⟨w.heap.size, 1, none⟩ = some (.slice (some ⟨bx, ox, none⟩) n cx) := by obtain ⟨q, e⟩ := HQ.out; rw [e]; exact HB.out.t1
    have t2 : wr.cell? ⟨w.heap.size, 2, none⟩ = some (.slice (some ⟨b2, oy, none⟩) n cy) := by obtain ⟨q, e⟩ := HQ.out; rw [e]; exact HB.out.t2
    by_cases hlt : k < n
    · have hcx : wr.cell? ⟨bx, ox + k, none⟩ = some (.int .i64 (xs.getD k 0)) := by obtain ⟨q, e⟩ := HQ.out; rw [e]; exact HX.out.cell k hlt
      have hcy : wr.cell? ⟨b2, oy + k, none⟩ = some (.int .u64 (ys.getD k 0 : Nat)) := by obtain ⟨q, e⟩ := HQ.out; rw [e]; exact HY.out.cell k hlt
      have hcq : 0 < k → wr.cell? ⟨bx, ox + (k - 1), none⟩ = some (.int .i64 (xs.getD (k - 1) 0)) := fun h => by obtain ⟨q, e⟩ := HQ.out; rw [e]; exact HX.out.cell (k - 1) (by omega)
      have HC := nodeC_of kind xs ys k
      have HU := hideS (HF.out k hlt)
      have HNk := hideS fun wx => HNm.out _ wx HU.out
      have HLk := hideS fun wx => HLt.out _ wx HU.out
      by_cases hkK : k < K
      · rw [HA.out k hkK] at HC
        obtain ⟨g0, g1, g2, HC'⟩ := nodeC_fine HC
        rw [g2] at HNk
        clear HC g2
        generalize xs.getD k 0 = x at *
        generalize xs.getD (k - 1) 0 = q at *
        generalize hyk : ((ys.getD k 0 : Nat) : Int) = y at *
        clear hyk
        generalize ltB 0 y = p at *
        rcases HC' with ⟨a1, a2⟩ | ⟨a1, a2, a3⟩ | ⟨a1, a3, rfl⟩ | ⟨a1, a2, a3, rfl⟩
        · have d1 : decide (x < 0) = false := decide_eq_false (by omega)
          have d2 : decide (109572 < x) = false := decide_eq_false (by omega)
          have d3 : decide (0 < k) = false := decide_eq_false a1
          have d4 : decide ((0 : Int) < (k : Int)) = false := decide_eq_false (by omega)
          clear hcq
          clear HA HBd HF HX HY HB HNm HLt HU n1 n2 h1 h4 hn g0 g1 a1
          go_wp2_with fail
          go_quiet (first | (go_at_call 31; exact Calls.quiet_of_same (HNk.out _)) | (go_at_call 32; exact Calls.quiet_of_same (HLk.out _)))
          go_wp2_with fail
          go_roundw
          case rel => exact ⟨k + 1, by omega, by simp, by obtain ⟨q, e⟩ := HQ.out; exact ⟨q + nq, by rw [e, World.drewN_drewN]⟩⟩
          case measure => simp [intOf]; omega
        · have d1 : decide (x < 0) = false := decide_eq_false (by omega)
          have d2 : decide (109572 < x) = false := decide_eq_false (by omega)
          have d3 : decide (0 < k) = true := decide_eq_true a1
          have d4 : decide ((0 : Int) < (k : Int)) = true := decide_eq_true (by omega)
          obtain ⟨j, hj⟩ : ∃ j, k = j + 1 := ⟨k - 1, by omega⟩
          have hkj : (k : Int) - 1 = (j : Int) := by omega
          have hjn : j < n := by omega
          have hcq' := hcq a1
          rw [show k - 1 = j by omega] at hcq'
          clear hcq hj
          have d5 : decide (x ≤ q) = false := decide_eq_false a2
          clear HA HBd HF HX HY HB HNm HLt HU n1 n2 h1 h4 hn g0 g1 a1
          go_wp2_with fail
          go_quiet (first | (go_at_call 31; exact Calls.quiet_of_same (HNk.out _)) | (go_at_call 32; exact Calls.quiet_of_same (HLk.out _)))
          go_wp2_with fail
          go_roundw
          case rel => exact ⟨k + 1, by omega, by simp, by obtain ⟨q, e⟩ := HQ.out; exact ⟨q + nq, by rw [e, World.drewN_drewN]⟩⟩
          case measure => simp [intOf]; omega
        · have d1 : decide (x < 0) = false := decide_eq_false (by omega)
          have d2 : decide (109572 < x) = false := decide_eq_false (by omega)
          have d3 : decide (0 < k) = false := decide_eq_false a1
          have d4 : decide ((0 : Int) < (k : Int)) = false := decide_eq_false (by omega)
          clear hcq
          clear HA HBd HF HX HY HB HNm HLt HU n1 n2 h1 h4 hn g0 g1 a1
          go_wp2_with fail
          go_quiet (first | (go_at_call 31; exact Calls.quiet_of_same (HNk.out _)) | (go_at_call 32; exact Calls.quiet_of_same (HLk.out _)))
          go_wp2_with fail
          go_roundw
          case rel => exact ⟨k + 1, by omega, by simp, by obtain ⟨q, e⟩ := HQ.out; exact ⟨q + nq, by rw [e, World.drewN_drewN]⟩⟩
          case measure => simp [intOf]; omega
        · have d1 : decide (x < 0) = false := decide_eq_false (by omega)
          have d2 : decide (109572 < x) = false := decide_eq_false (by omega)
          have d3 : decide (0 < k) = true := decide_eq_true a1
          have d4 : decide ((0 : Int) < (k : Int)) = true := decide_eq_true (by omega)
          obtain ⟨j, hj⟩ : ∃ j, k = j + 1 := ⟨k - 1, by omega⟩
          have hkj : (k : Int) - 1 = (j : Int) := by omega
          have hjn : j < n := by omega
          have hcq' := hcq a1
          rw [show k - 1 = j by omega] at hcq'
          clear hcq hj
          have d5 : decide (x ≤ q) = false := decide_eq_false a2
          clear HA HBd HF HX HY HB HNm HLt HU n1 n2 h1 h4 hn g0 g1 a1
          go_wp2_with fail
          go_quiet (first | (go_at_call 31; exact Calls.quiet_of_same (HNk.out _)) | (go_at_call 32; exact Calls.quiet_of_same (HLk.out _)))
          go_wp2_with fail
          go_roundw
          case rel => exact ⟨k + 1, by omega, by simp, by obtain ⟨q, e⟩ := HQ.out; exact ⟨q + nq, by rw [e, World.drewN_drewN]⟩⟩
          case measure => simp [intOf]; omega
      · obtain rfl : k = K := by omega
        rw [HBd.out hlt] at HC
        have HC' := nodeC_bad HC
        clear HC
        have HR1 : Hid ((100 : Int) = R) := by show _ = _; rw [← HR.out, if_pos hlt]
        clear HR
        generalize xs.getD k 0 = x at *
        generalize xs.getD (k - 1) 0 = q at *
        generalize hyk : ((ys.getD k 0 : Nat) : Int) = y at *
        clear hyk
        generalize ltB 0 y = p at *
        generalize finB y = f at *
        have HBl : Hid (∀ m, Below w.heap.size w (wr.drewN m)) := fun m => by obtain ⟨q, e⟩ := HQ.out; rw [e, World.drewN_drewN]; exact ⟨HB.out.bl.os, HB.out.bl.tape, HB.out.bl.output, HB.out.bl.size, HB.out.bl.block⟩
        rcases HC' with a | ⟨a, b⟩ | ⟨a, b, a1, c⟩ | ⟨a, b, a1, rfl⟩ | ⟨a, b, a1, c, rfl⟩ | ⟨a, b, a1, rfl, rfl, rfl⟩ | ⟨a, b, a1, c, rfl, rfl, rfl⟩
        · have d1 : decide (x < 0) = true := decide_eq_true a
          clear hcq
          clear HA HBd HF HX HY HB HNm HLt HU n1 n2 h1 h4 hn
          go_wp2_with fail
          go_quiet (first | (go_at_call 31; exact Calls.quiet_of_same (HNk.out _)) | (go_at_call 32; exact Calls.quiet_of_same (HLk.out _)))
          go_wp2_with fail
          go_ret
          exact ⟨by rw [← HR1.out]; rfl, HBl.out _⟩
        · have d1 : decide (x < 0) = false := decide_eq_false (by omega)
          have d2 : decide (109572 < x) = true := decide_eq_true b
          clear hcq
          clear HA HBd HF HX HY HB HNm HLt HU n1 n2 h1 h4 hn
          go_wp2_with fail
          go_quiet (first | (go_at_call 31; exact Calls.quiet_of_same (HNk.out _)) | (go_at_call 32; exact Calls.quiet_of_same (HLk.out _)))
          go_wp2_with fail
          go_ret
          exact ⟨by rw [← HR1.out]; rfl, HBl.out _⟩
        · skip
          have d1 : decide (x < 0) = false := decide_eq_false (by omega)
          have d2 : decide (109572 < x) = false := decide_eq_false (by omega)
          have d3 : decide (0 < k) = true := decide_eq_true a1
          have d4 : decide ((0 : Int) < (k : Int)) = true := decide_eq_true (by omega)
          obtain ⟨j, hj⟩ : ∃ j, k = j + 1 := ⟨k - 1, by omega⟩
          have hkj : (k : Int) - 1 = (j : Int) := by omega
          have hjn : j < n := by omega
          have hcq' := hcq a1
          rw [show k - 1 = j by omega] at hcq'
          clear hcq hj
          have d5 : decide (x ≤ q) = true := decide_eq_true c
          clear HA HBd HF HX HY HB HNm HLt HU n1 n2 h1 h4 hn
          go_wp2_with fail
          go_quiet (first | (go_at_call 31; exact Calls.quiet_of_same (HNk.out _)) | (go_at_call 32; exact Calls.quiet_of_same (HLk.out _)))
          go_wp2_with fail
          go_ret
          exact ⟨by rw [← HR1.out]; rfl, HBl.out _⟩
        · skip
          have d1 : decide (x < 0) = false := decide_eq_false (by omega)
          have d2 : decide (109572 < x) = false := decide_eq_false (by omega)
          have d3 : decide (0 < k) = false := decide_eq_false a1
          have d4 : decide ((0 : Int) < (k : Int)) = false := decide_eq_false (by omega)
          clear hcq
          clear HA HBd HF HX HY HB HNm HLt HU n1 n2 h1 h4 hn
          go_wp2_with fail
          go_quiet (first | (go_at_call 31; exact Calls.quiet_of_same (HNk.out _)) | (go_at_call 32; exact Calls.quiet_of_same (HLk.out _)))
          go_wp2_with fail
          go_ret
          exact ⟨by rw [← HR1.out]; rfl, HBl.out _⟩
        · skip
          have d1 : decide (x < 0) = false := decide_eq_false (by omega)
          have d2 : decide (109572 < x) = false := decide_eq_false (by omega)
          have d3 : decide (0 < k) = true := decide_eq_true a1
          have d4 : decide ((0 : Int) < (k : Int)) = true := decide_eq_true (by omega)
          obtain ⟨j, hj⟩ : ∃ j, k = j + 1 := ⟨k - 1, by omega⟩
          have hkj : (k : Int) - 1 = (j : Int) := by omega
          have hjn : j < n := by omega
          have hcq' := hcq a1
          rw [show k - 1 = j by omega] at hcq'
          clear hcq hj
          have d5 : decide (x ≤ q) = false := decide_eq_false c
          clear HA HBd HF HX HY HB HNm HLt HU n1 n2 h1 h4 hn
          go_wp2_with fail
          go_quiet (first | (go_at_call 31; exact Calls.quiet_of_same (HNk.out _)) | (go_at_call 32; exact Calls.quiet_of_same (HLk.out _)))
          go_wp2_with fail
          go_ret
          exact ⟨by rw [← HR1.out]; rfl, HBl.out _⟩
        · skip
          have d1 : decide (x < 0) = false := decide_eq_false (by omega)
          have d2 : decide (109572 < x) = false := decide_eq_false (by omega)
          have d3 : decide (0 < k) = false := decide_eq_false a1
          have d4 : decide ((0 : Int) < (k : Int)) = false := decide_eq_false (by omega)
          clear hcq
          clear HA HBd HF HX HY HB HNm HLt HU n1 n2 h1 h4 hn
          go_wp2_with fail
          go_quiet (first | (go_at_call 31; exact Calls.quiet_of_same (HNk.out _)) | (go_at_call 32; exact Calls.quiet_of_same (HLk.out _)))
          go_wp2_with fail
          go_ret
          exact ⟨by rw [← HR1.out]; rfl, HBl.out _⟩
        · skip
          have d1 : decide (x < 0) = false := decide_eq_false (by omega)
          have d2 : decide (109572 < x) = false := decide_eq_false (by omega)
          have d3 : decide (0 < k) = true := decide_eq_true a1
          have d4 : decide ((0 : Int) < (k : Int)) = true := decide_eq_true (by omega)
          obtain ⟨j, hj⟩ : ∃ j, k = j + 1 := ⟨k - 1, by omega⟩
          have hkj : (k : Int) - 1 = (j : Int) := by omega
          have hjn : j < n := by omega
          have hcq' := hcq a1
          rw [show k - 1 = j by omega] at hcq'
          clear hcq hj
          have d5 : decide (x ≤ q) = false := decide_eq_false c
          clear HA HBd HF HX HY HB HNm HLt HU n1 n2 h1 h4 hn
          go_wp2_with fail
          go_quiet (first | (go_at_call 31; exact Calls.quiet_of_same (HNk.out _)) | (go_at_call 32; exact Calls.quiet_of_same (HLk.out _)))
          go_wp2_with fail
          go_ret
          exact ⟨by rw [← HR1.out]; rfl, HBl.out _⟩
    · obtain rfl : k = K := by omega
      have HR1 : Hid ((0 : Int) = R) := by show _ = _; rw [← HR.out, if_neg hlt]
      clear HR
      have hge : ¬ (k : Int) < n := by omega
      have HBl : Hid (Below w.heap.size w wr) := by show Below _ _ _; obtain ⟨q, e⟩ := HQ.out; rw [e]; exact ⟨HB.out.bl.os, HB.out.bl.tape, HB.out.bl.output, HB.out.bl.size, HB.out.bl.block⟩
      go_wp2_with fail
      go_ret
      exact ⟨by rw [← HR1.out]; rfl, HBl.out⟩
end Go.Proofs.YtcmbfflemoccmaaGreat
