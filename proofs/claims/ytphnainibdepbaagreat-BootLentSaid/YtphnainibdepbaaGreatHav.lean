/- Rows of floats: what came in, and rows of one's own. The contracts of the document's Kind, times, above, long: rates. The bits of a binary32, widened: the model's conversion. Tables as whole numbers and lists: no word of the program. Quotes that came in, and what Check tells of them, in plain words. The contract of ShiftUp. The contract of Horner: steps from the right, each rounded. Slices of plain values that are only read. The contract of the document's Check of tables. The contract of the document's Find. What floats tell fits 64 bits. The contract of the document's Held. Steps of floats over what may be a NaN. The walk of InterpAt, over what At, Of, the document's At, Is and awake tell. The contracts of expTerms and lnTerms: new rows of fixed floats. The contracts of whole and Pow where every product is exact; of Pow at 0 and 1. The contract of math.Floor, of numbers below 2^52. How far a sum and a product lie from what they are rounded from; Exp's rest is small. -/
import Derived.Test.YtphnainibdepbaaGreatHat
import Derived.WalkKit
import Derived.LoopTactic
import Derived.BigCall
import Derived.BigQuiet
import Derived.Maps.AppendAt
import Derived.Laws.OwnMore
import Derived.Deep.OwnRows
import Derived.Test.YtphnainibdepbaaGreatHau
import Derived.Test.YtphnainibdepbaaGreatHaj
namespace Go.Proofs.YtphnainibdepbaaGreat
open Go.RowKit

theorem hideS {p : Prop} (h : p) : Hid p := h
theorem turned {P : Program} {f : Nat} {args : Array Value} {w : World} {Q : Ending → Prop} (h : Calls P f args w fun e w' => Q e ∧ w' = w) : Calls P f args w fun e w' => Q e ∧ w = w' :=
  h.mono fun _ _ ⟨a, b⟩ => ⟨a, b.symm⟩
theorem infoU : (Tryz.prog.info? 49).map (fun i => (i.zero, i.size, i.bytes)) = some (some (.int .u64 0), 1, 8) := by kernel_rfl
theorem own_below {w w' : World} {B e size n : Nat} {v : Value} {xs : List Value} (h : w.ownsRow B e size v n xs) (hb : Below w.heap.size w w') : w'.ownsRow B e size v n xs := by
  refine ⟨h.1, ?_⟩
  rcases h.2 with hn | ⟨g, cap, cur, rfl, hg, hgg, rest⟩
  · exact .inl hn
  · exact .inr ⟨g, cap, cur, rfl, hg, by rw [hb.block g (Array.getElem?_eq_some_iff.1 hgg).1]; exact hgg, rest⟩

def uV (x : Nat) : Value := .int .u64 (x : Int)
def fV (x : Nat) : Value := .float .f64 x
theorem getD_some {l : List Nat} {i : Nat} (hi : i < l.length) : l[i]? = some (l.getD i 0) := by simp [List.getD, List.getElem?_eq_getElem hi]
structure Src (w : World) (p : Option Addr) (b off : Nat) (xs : List Nat) : Prop where
  at_ : 0 < xs.length → p = some ⟨b, off, none⟩
  lt : 0 < xs.length → b < w.heap.size
  cell : ∀ j, j < xs.length → w.cell? ⟨b, off + j, none⟩ = some (.float .f64 (xs.getD j 0))
theorem Src.below {w w' : World} {p : Option Addr} {b off : Nat} {xs : List Nat} (h : Src w p b off xs) (hb : Below w.heap.size w w') : Src w' p b off xs :=
  ⟨h.at_, fun hx => Nat.lt_of_lt_of_le (h.lt hx) hb.size, fun j hj => (hb.cell (p := ⟨b, off + j, none⟩) (h.lt (by omega))).trans (h.cell j hj)⟩

structure OwnF (w : World) (B t : Nat) (f : Nat → Value) (v : Value) (xs : List Nat) : Prop where
  own : w.ownsRow B t 1 v xs.length (xs.map f)
theorem OwnF.below {w w' : World} {B t : Nat} {f : Nat → Value} {v : Value} {xs : List Nat} (h : OwnF w B t f v xs) (hb : Below w.heap.size w w') : OwnF w' B t f v xs := ⟨own_below h.own hb⟩
end Go.Proofs.YtphnainibdepbaaGreat
namespace Go.Proofs.YtphnainibdepbaaGreat
open Go.RowKit

def ltB (u v : Int) : Bool := !nanB u && !nanB v && decide (rankI u < rankI v)
def finB (u : Int) : Bool := decide (szI u < 9218868437227405312)
end Go.Proofs.YtphnainibdepbaaGreat
namespace Go.Proofs.YtphnainibdepbaaGreat
open Go.RowKit

def dblZ (b : Nat) : Nat := if b = 0 then 0 else dblS b
def dblW (v : Nat) : Nat := if 2139095040 < v % 2147483648 then 9221120237041090561 else wrd (v / 2147483648 % 2 == 1) (if v % 2147483648 = 2139095040 then 9218868437227405312 else dblZ (v % 2147483648))
theorem dblZ_top {b : Nat} (h : b < 2139095040) : dblZ b < 9218868437227405312 := by
  unfold dblZ
  split
  · omega
  · exact (dblS_fin (by omega) h).2

theorem wrd_sum {s : Bool} {D : Nat} : ((wrd s D : Nat) : Int) = (if s then 9223372036854775808 else 0) + (D : Int) := by
  unfold wrd
  cases s <;> simp
theorem dblW_word {r : Nat} (_h : r < 4294967296) : U64 (dblW r : Int) := by
  unfold dblW
  split
  · unfold U64; omega
  · have : ∀ (s : Bool) (x : Nat), x < 9223372036854775808 → U64 (wrd s x : Int) := fun s x hx => by rw [wrd_sum]; unfold U64; cases s <;> simp <;> omega
    apply this
    split
    · omega
    · by_cases c : r % 2147483648 < 2139095040
      · have := dblZ_top c; omega
      · omega
theorem conv_dblW {b : Nat} (h : b % 2147483648 ≤ 2139095040) : floatToFloatBits .f32 b .f64 = some (dblW b) := by
  unfold dblW
  rw [if_neg (by omega)]
  rcases (show b % 2147483648 = 2139095040 ∨ b % 2147483648 = 0 ∨ (0 < b % 2147483648 ∧ b % 2147483648 < 2139095040) by omega) with h | h | ⟨h1, h2⟩
  · rw [conv_up_inf h, if_pos h]
  · rw [conv_up_zero h, if_neg (by omega), h]; rfl
  · rw [conv_up_num h1 h2, if_neg (by omega)]
    have : dblZ (b % 2147483648) = dblS (b % 2147483648) := by unfold dblZ; rw [if_neg (by omega)]
    rw [this]
theorem wrd_size (s : Bool) {x : Nat} (h : x < 9223372036854775808) : wrd s x % 9223372036854775808 = x := by unfold wrd; cases s <;> simp <;> omega
theorem dblW_size {b : Nat} (h : b % 2147483648 < 2139095040) : dblW b % 9223372036854775808 < 9218868437227405312 := by
  unfold dblW
  have hz := dblZ_top h
  rw [if_neg (by omega), if_neg (by omega), wrd_size _ (by omega)]
  exact hz
theorem dblW_fin {b : Nat} : finB (dblW b : Nat) = decide (b % 2147483648 < 2139095040) := by
  by_cases h : b % 2147483648 < 2139095040
  · rw [decide_eq_true h]
    have := dblW_size h
    unfold finB szI
    exact decide_eq_true (by omega)
  · rw [decide_eq_false h]
    unfold finB szI
    refine decide_eq_false ?_
    have hw : 9218868437227405312 ≤ dblW b % 9223372036854775808 := by
      unfold dblW
      split
      · decide
      · rw [if_pos (by omega), wrd_size _ (by omega)]; omega
    omega
theorem dblW_nan {b : Nat} : nanB (dblW b : Nat) = decide (2139095040 < b % 2147483648) := by
  by_cases h : 2139095040 < b % 2147483648
  · rw [decide_eq_true h]; unfold dblW; rw [if_pos h]; rfl
  · rw [decide_eq_false h]
    unfold nanB szI
    refine decide_eq_false ?_
    have hw : dblW b % 9223372036854775808 ≤ 9218868437227405312 := by
      unfold dblW
      rw [if_neg h]
      have hx : (if b % 2147483648 = 2139095040 then 9218868437227405312 else dblZ (b % 2147483648)) ≤ 9218868437227405312 := by
        split
        · omega
        · have := dblZ_top (b := b % 2147483648) (by omega); omega
      rw [wrd_size _ (by omega)]; exact hx
    omega
theorem dblW_fit (b : Nat) : dblW b < 18446744073709551616 := by
  unfold dblW
  split
  · decide
  · have hx : (if b % 2147483648 = 2139095040 then 9218868437227405312 else dblZ (b % 2147483648)) ≤ 9218868437227405312 := by
      split
      · omega
      · have := dblZ_top (b := b % 2147483648) (by omega); omega
    generalize (if b % 2147483648 = 2139095040 then 9218868437227405312 else dblZ (b % 2147483648)) = x at *
    unfold wrd; split <;> omega
end Go.Proofs.YtphnainibdepbaaGreat
namespace Go.Proofs.YtphnainibdepbaaGreat
open Go.RowKit

def nodeB (kind : Int) (xs : List Int) (ys : List Nat) (i : Nat) : Bool :=
  decide (xs.getD i 0 < 0) || decide (109572 < xs.getD i 0) || (decide (0 < i) && decide (xs.getD i 0 ≤ xs.getD (i - 1) 0)) || !finB (ys.getD i 0 : Nat) || (decide (kind = 4) && !ltB 0 (ys.getD i 0 : Nat))
structure OkT (kind : Int) (xs : List Int) (ys : List Nat) : Prop where
  k1 : 1 ≤ kind
  k4 : kind ≤ 4
  lo : 1 ≤ xs.length
  hi : xs.length ≤ 256
  len : ys.length = xs.length
  node : ∀ i < xs.length, nodeB kind xs ys i = false
inductive TabR (kind : Int) (xs : List Int) (ys : List Nat) : Int → Prop
  | ok (h : OkT kind xs ys) : TabR kind xs ys 0
  | kind (h : kind < 1 ∨ 4 < kind) : TabR kind xs ys 90
  | len (h1 : 1 ≤ kind) (h4 : kind ≤ 4) (h : xs.length < 1 ∨ 256 < xs.length ∨ ys.length ≠ xs.length) : TabR kind xs ys 100
  | node (h1 : 1 ≤ kind) (h4 : kind ≤ 4) (lo : 1 ≤ xs.length) (hi : xs.length ≤ 256) (len : ys.length = xs.length) (K : Nat) (hK : K < xs.length) (bad : nodeB kind xs ys K = true) (fine : ∀ i < K, nodeB kind xs ys i = false) : TabR kind xs ys 100
theorem least_bad {p : Nat → Bool} : ∀ N, (∃ i < N, p i = true) → ∃ k < N, p k = true ∧ ∀ j < k, p j = false
  | 0, ⟨i, hi, _⟩ => by omega
  | N + 1, ⟨i, hi, hp⟩ => by
    by_cases h : ∃ i < N, p i = true
    · obtain ⟨k, hk, h1, h2⟩ := least_bad N h
      exact ⟨k, by omega, h1, h2⟩
    · have hN : i = N := Classical.byContradiction fun c => h ⟨i, by omega, hp⟩
      subst hN
      exact ⟨i, by omega, hp, fun j hj => by
        cases hc : p j
        · rfl
        · exact absurd ⟨j, hj, hc⟩ h⟩
theorem tabR_ex (kind : Int) (xs : List Int) (ys : List Nat) : ∃ E, TabR kind xs ys E := by
  by_cases hk : kind < 1 ∨ 4 < kind
  · exact ⟨90, .kind hk⟩
  · by_cases hl : xs.length < 1 ∨ 256 < xs.length ∨ ys.length ≠ xs.length
    · exact ⟨100, .len (by omega) (by omega) hl⟩
    · by_cases hb : ∃ i < xs.length, nodeB kind xs ys i = true
      · obtain ⟨K, hK, h1, h2⟩ := least_bad _ hb
        exact ⟨100, .node (by omega) (by omega) (by omega) (by omega) (by omega) K hK h1 h2⟩
      · exact ⟨0, .ok ⟨by omega, by omega, by omega, by omega, by omega, fun i hi => by
          cases hc : nodeB kind xs ys i
          · rfl
          · exact absurd ⟨i, hi, hc⟩ hb⟩⟩
theorem node_fine {kind : Int} {xs : List Int} {ys : List Nat} {i : Nat} (h : nodeB kind xs ys i = false) : 0 ≤ xs.getD i 0 ∧ xs.getD i 0 ≤ 109572 ∧ (0 < i → xs.getD (i - 1) 0 < xs.getD i 0) ∧ finB (ys.getD i 0 : Nat) = true ∧ (kind = 4 → ltB 0 (ys.getD i 0 : Nat) = true) := by
  unfold nodeB at h
  simp only [Bool.or_eq_false_iff, Bool.and_eq_false_iff, decide_eq_false_iff_not, Bool.not_eq_false'] at h
  obtain ⟨⟨⟨⟨a, b⟩, c⟩, d⟩, e⟩ := h
  refine ⟨by omega, by omega, fun hi => ?_, d, fun hk => ?_⟩
  · rcases c with c | c <;> omega
  · rcases e with e | e
    · exact absurd hk e
    · exact e
theorem OkT.step {kind : Int} {xs : List Int} {ys : List Nat} (h : OkT kind xs ys) {i : Nat} (hi : i + 1 < xs.length) : xs.getD i 0 < xs.getD (i + 1) 0 := by
  have := (node_fine (h.node (i + 1) hi)).2.2.1 (by omega)
  simpa using this
theorem OkT.rise {kind : Int} {xs : List Int} {ys : List Nat} (h : OkT kind xs ys) {i j : Nat} (hij : i < j) (hj : j < xs.length) : xs.getD i 0 < xs.getD j 0 := by
  obtain ⟨d, rfl⟩ : ∃ d, j = i + 1 + d := ⟨j - i - 1, by omega⟩
  induction d with
  | zero => exact h.step (by omega)
  | succ d ih =>
    have a := ih (by omega) (by omega)
    have b := h.step (i := i + 1 + d) (by omega)
    exact Int.lt_trans a b
structure FindR (xs : List Int) (x : Int) (k : Nat) : Prop where
  lt : k < xs.length
  le : xs.getD k 0 ≤ x
  gt : k + 1 < xs.length → x < xs.getD (k + 1) 0
theorem find_ex {xs : List Int} {x : Int} (hlo : 0 < xs.length) (h0 : xs.getD 0 0 ≤ x) : ∃ k, FindR xs x k ∧ ∀ j < k, j + 1 < xs.length ∧ xs.getD (j + 1) 0 ≤ x := by
  by_cases hb : ∃ i < xs.length, decide (i + 1 < xs.length → x < xs.getD (i + 1) 0) = true
  · obtain ⟨k, hk, h1, h2⟩ := least_bad (p := fun i => decide (i + 1 < xs.length → x < xs.getD (i + 1) 0)) _ hb
    have h3 : ∀ j < k, j + 1 < xs.length ∧ xs.getD (j + 1) 0 ≤ x := fun j hj => by
      have := h2 j hj
      rw [decide_eq_false_iff_not] at this
      obtain ⟨a, b⟩ := Classical.not_imp.1 this
      exact ⟨a, by omega⟩
    refine ⟨k, ⟨hk, ?_, of_decide_eq_true h1⟩, h3⟩
    by_cases hz : k = 0
    · rw [hz]; exact h0
    · have := (h3 (k - 1) (by omega)).2
      rwa [show k - 1 + 1 = k by omega] at this
  · exact absurd ⟨xs.length - 1, by omega, decide_eq_true (fun c => by omega)⟩ hb
end Go.Proofs.YtphnainibdepbaaGreat
namespace Go.Proofs.YtphnainibdepbaaGreat
open Go.RowKit

structure Quo where
  (kind fin count n : Int) (rate : Nat)
def quo0 : Quo := ⟨0, 0, 0, 0, 0⟩
structure QCells (w : World) (b o : Nat) (q : Quo) : Prop where
  c0 : w.cell? ⟨b, o, none⟩ = some (.int .i64 q.kind)
  c1 : w.cell? ⟨b, o + 1, none⟩ = some (.int .i64 q.fin)
  c2 : w.cell? ⟨b, o + 2, none⟩ = some (.int .i64 q.count)
  c3 : w.cell? ⟨b, o + 3, none⟩ = some (.int .i64 q.n)
  c4 : w.cell? ⟨b, o + 4, none⟩ = some (.float .f32 q.rate)
theorem QCells.below {w w' : World} {B b o : Nat} {q : Quo} (h : QCells w b o q) (hb : Below B w w') (hB : b < B) : QCells w' b o q :=
  ⟨(hb.cell (p := ⟨b, o, none⟩) hB).trans h.c0, (hb.cell (p := ⟨b, o + 1, none⟩) hB).trans h.c1, (hb.cell (p := ⟨b, o + 2, none⟩) hB).trans h.c2, (hb.cell (p := ⟨b, o + 3, none⟩) hB).trans h.c3, (hb.cell (p := ⟨b, o + 4, none⟩) hB).trans h.c4⟩
structure QSrc (w : World) (p : Option Addr) (b off : Nat) (qs : List Quo) : Prop where
  at_ : 0 < qs.length → p = some ⟨b, off, none⟩
  lt : 0 < qs.length → b < w.heap.size
  cell : ∀ i, i < qs.length → QCells w b (off + i * 5) (qs.getD i quo0)
theorem QSrc.below {w w' : World} {p : Option Addr} {b off : Nat} {qs : List Quo} (h : QSrc w p b off qs) (hb : Below w.heap.size w w') : QSrc w' p b off qs :=
  ⟨h.at_, fun hx => Nat.lt_of_lt_of_le (h.lt hx) hb.size, fun j hj => (h.cell j hj).below hb (h.lt (by omega))⟩

def badQ (q : Quo) : Bool := (decide (q.kind ≠ 1) && decide (q.kind ≠ 2)) || (decide (q.kind = 1) && decide (q.n ≠ 0)) || (decide (q.kind = 2) && (decide (q.n < 1) || decide (120 < q.n))) || !finB (dblW q.rate : Nat)
def fitQ (q : Quo) (last : Int) : Int := if badQ q = true then 130 else if q.count < 1 ∨ 6 < q.count then 70 else if q.fin ≤ last ∨ 109572 < q.fin then 131 else 0
def prvQ (base : Int) (qs : List Quo) : Nat → Int
  | 0 => base
  | k + 1 => (qs.getD k quo0).fin
inductive QuoR (base : Int) (qs : List Quo) : Int → Int → Prop
  | fine (h : ∀ i < qs.length, fitQ (qs.getD i quo0) (prvQ base qs i) = 0) : QuoR base qs 0 0
  | bad (k : Nat) (hk : k < qs.length) (e : Int) (he : fitQ (qs.getD k quo0) (prvQ base qs k) = e) (h0 : e ≠ 0) (h : ∀ i < k, fitQ (qs.getD i quo0) (prvQ base qs i) = 0) : QuoR base qs e k
theorem quoR_from (base : Int) (qs : List Quo) : ∀ n, (∀ i < n, fitQ (qs.getD i quo0) (prvQ base qs i) = 0) ∨ ∃ k < n, fitQ (qs.getD k quo0) (prvQ base qs k) ≠ 0 ∧ ∀ i < k, fitQ (qs.getD i quo0) (prvQ base qs i) = 0
  | 0 => Or.inl (fun i hi => by omega)
  | n + 1 => by
    rcases quoR_from base qs n with h | ⟨k, hk, h0, h⟩
    · by_cases c : fitQ (qs.getD n quo0) (prvQ base qs n) = 0
      · refine Or.inl (fun i hi => ?_)
        by_cases d : i < n
        · exact h i d
        · obtain rfl : i = n := by omega
          exact c
      · exact Or.inr ⟨n, by omega, c, h⟩
    · exact Or.inr ⟨k, by omega, h0, h⟩
theorem quoR_ex (base : Int) (qs : List Quo) : ∃ e k, QuoR base qs e k := by
  rcases quoR_from base qs qs.length with h | ⟨k, hk, h0, h⟩
  · exact ⟨0, 0, .fine h⟩
  · exact ⟨_, _, .bad k hk _ rfl h0 h⟩
theorem quoR_unique {base : Int} {qs : List Quo} {e e' k k' : Int} (h : QuoR base qs e k) (h' : QuoR base qs e' k') : e = e' ∧ k = k' := by
  cases h with
  | fine h =>
    cases h' with
    | fine h' => exact ⟨rfl, rfl⟩
    | bad k' hk' _ he' h0' _ => exact absurd (he'.symm.trans (h k' hk')) h0'
  | bad k hk _ he h0 hh =>
    cases h' with
    | fine h' => exact absurd (he.symm.trans (h' k hk)) h0
    | bad k' hk' _ he' h0' hh' =>
      rcases Nat.lt_trichotomy k k' with c | c | c
      · exact absurd (he.symm.trans (hh' k c)) h0
      · subst c; exact ⟨he.symm.trans he', rfl⟩
      · exact absurd (he'.symm.trans (hh k' c)) h0'
inductive Chk13 (base kind A : Int) (qs : List Quo) : Int → Int → Prop
  | base (h : base < 0 ∨ 109572 < base) : Chk13 base kind A qs 51 (-1)
  | kind (b0 : 0 ≤ base) (b1 : base ≤ 109572) (h : kind < 1 ∨ 4 < kind) : Chk13 base kind A qs 90 (-1)
  | cal (b0 : 0 ≤ base) (b1 : base ≤ 109572) (k1 : 1 ≤ kind) (k4 : kind ≤ 4) (h : A ≠ 0) : Chk13 base kind A qs A (-1)
  | long (b0 : 0 ≤ base) (b1 : base ≤ 109572) (k1 : 1 ≤ kind) (k4 : kind ≤ 4) (a0 : A = 0) (h : 64 < qs.length) : Chk13 base kind A qs 2 (-1)
  | none (b0 : 0 ≤ base) (b1 : base ≤ 109572) (k1 : 1 ≤ kind) (k4 : kind ≤ 4) (a0 : A = 0) (h : qs.length = 0) : Chk13 base kind A qs 100 (-1)
  | quo (b0 : 0 ≤ base) (b1 : base ≤ 109572) (k1 : 1 ≤ kind) (k4 : kind ≤ 4) (a0 : A = 0) (lo : 1 ≤ qs.length) (hi : qs.length ≤ 64) (e k : Int) (h : QuoR base qs e k) : Chk13 base kind A qs e k
theorem chk13_ex (base kind A : Int) (qs : List Quo) : ∃ e k, Chk13 base kind A qs e k := by
  by_cases h1 : base < 0 ∨ 109572 < base
  · exact ⟨_, _, .base h1⟩
  by_cases h2 : kind < 1 ∨ 4 < kind
  · exact ⟨_, _, .kind (by omega) (by omega) h2⟩
  by_cases h3 : A = 0
  · by_cases h4 : 64 < qs.length
    · exact ⟨_, _, .long (by omega) (by omega) (by omega) (by omega) h3 h4⟩
    · by_cases h5 : qs.length = 0
      · exact ⟨_, _, .none (by omega) (by omega) (by omega) (by omega) h3 h5⟩
      · obtain ⟨e, k, h⟩ := quoR_ex base qs
        exact ⟨e, k, .quo (by omega) (by omega) (by omega) (by omega) h3 (by omega) (by omega) e k h⟩
  · exact ⟨_, _, .cal (by omega) (by omega) (by omega) (by omega) h3⟩
end Go.Proofs.YtphnainibdepbaaGreat
namespace Go.Proofs.YtphnainibdepbaaGreat
open Go.RowKit

def Own (w : World) (b n M : Nat) : Prop := w.rowIs b 49 n (fun i => .int .u64 (dgt M i : Int))
theorem Own.row {w : World} {b n M : Nat} (h : Own w b n M) : RowIs w b n M := fun _ hi => h.cell hi
end Go.Proofs.YtphnainibdepbaaGreat
namespace Go.Proofs.YtphnainibdepbaaGreat
open Go.RowKit

def nanAns (x y : Nat) (w : World) : Nat := (Question.nanBits .f64 x y).cut (w.tape w.drawn (.nanBits .f64 x y))
theorem nanAns_nan (x y : Nat) (w : World) : nanB (nanAns x y w) = true ∧ nanAns x y w < 18446744073709551616 := by
  unfold nanAns
  generalize w.tape w.drawn (.nanBits .f64 x y) = t
  show nanB (((t % 2) * 2 ^ 63 + 0x7ff0000000000000 + 1 + (t / 2) % (2 ^ 52 - 1) : Nat) : Int) = true ∧ ((t % 2) * 2 ^ 63 + 0x7ff0000000000000 + 1 + (t / 2) % (2 ^ 52 - 1) : Nat) < _
  have h1 : t % 2 < 2 := Nat.mod_lt _ (by decide)
  have h2 : (t / 2) % (2 ^ 52 - 1) < 2 ^ 52 - 1 := Nat.mod_lt _ (by decide)
  generalize t % 2 = a at *
  generalize (t / 2) % (2 ^ 52 - 1) = b at *
  unfold nanB szI
  refine ⟨?_, by omega⟩
  rw [decide_eq_true_eq]; omega
theorem run_arith_nan {P : Program} (op : BinOp) (ho : op = .add ∨ op = .sub ∨ op = .mul ∨ op = .quo) (t : TypeId) (x y : Nat) (h : floatBits op .f64 x y = none) (w : World) : (binOp op t (.float .f64 x) (.float .f64 y)).run P w = .ok (.float .f64 (nanAns x y w)) w.drew := by
  rcases ho with rfl | rfl | rfl | rfl <;> unfold floatBits at h <;> simp only at h <;> simp [binOp, Op.floatArith, h, Question.forced, nanAns]
theorem nan_left {op : BinOp} {x y : Nat} (h : nanB x = true) : floatBits op .f64 x y = none := by
  obtain ⟨f, e⟩ := read_nan (nan_true h)
  unfold floatBits
  cases op <;> dsimp only <;> first | rfl | skip
  · show ((Ieee.double.read x).sum (Ieee.double.read y)).map Ieee.double.write = _; rw [e]; rfl
  · show ((Ieee.double.read x).sum (Ieee.double.read y).opposite).map Ieee.double.write = _; rw [e]; rfl
  · show ((Ieee.double.read x).product (Ieee.double.read y)).map Ieee.double.write = _; rw [e]; rfl
  · show ((Ieee.double.read x).quotient 54 (Ieee.double.read y)).map Ieee.double.write = _; rw [e]; rfl
theorem nan_right {op : BinOp} {x y : Nat} (h : nanB y = true) : floatBits op .f64 x y = none := by
  obtain ⟨f, e⟩ := read_nan (nan_true h)
  unfold floatBits
  cases op <;> dsimp only <;> first | rfl | skip
  · show ((Ieee.double.read x).sum (Ieee.double.read y)).map Ieee.double.write = _; rw [e]; cases Ieee.double.read x <;> rfl
  · show ((Ieee.double.read x).sum (Ieee.double.read y).opposite).map Ieee.double.write = _; rw [e]; cases Ieee.double.read x <;> rfl
  · show ((Ieee.double.read x).product (Ieee.double.read y)).map Ieee.double.write = _; rw [e]; cases Ieee.double.read x <;> rfl
  · show ((Ieee.double.read x).quotient 54 (Ieee.double.read y)).map Ieee.double.write = _; rw [e]; cases Ieee.double.read x <;> rfl

def Ag (o : Option Nat) (b : Nat) : Prop := match o with | some r => b = r | none => nanB b = true ∧ b < 18446744073709551616
theorem ag_some {r b : Nat} (h : Ag (some r) b) : b = r := h
theorem ag_none {b : Nat} (h : Ag none b) : nanB b = true ∧ b < 18446744073709551616 := h
def stepO (x : Nat) (p : Option Nat) (c : Nat) : Option Nat := (p.bind fun p => floatBits .mul .f64 p x).bind fun q => floatBits .add .f64 q c
def hornAt (cs : List Nat) (x : Nat) : Nat → Option Nat
  | 0 => some (cs.getD (cs.length - 1) 0)
  | i + 1 => stepO x (hornAt cs x i) (cs.getD (cs.length - 2 - i) 0)
def hornO (cs : List Nat) (x : Nat) : Option Nat := if cs.length = 0 then some 0 else hornAt cs x (cs.length - 1)

theorem bind_ag {o : Option Nat} {a : Nat} (h : Ag o a) (op : BinOp) (x : Nat) : (o.bind fun p => floatBits op .f64 p x) = floatBits op .f64 a x := by
  cases o with
  | some r => rw [ag_some h]; rfl
  | none => rw [nan_left (ag_none h).1]; rfl
theorem stepO_ag {o : Option Nat} {a : Nat} (h : Ag o a) (x y : Nat) : stepO x o y = (floatBits .mul .f64 a x).bind fun q => floatBits .add .f64 q y := by
  unfold stepO; rw [bind_ag h]
theorem drew_one {w wr : World} (h : ∃ q, wr = w.drewN q) : ∃ q, wr.drew = w.drewN q := by
  obtain ⟨q, e⟩ := h; exact ⟨q + 1, by rw [e]; rfl⟩

set_option maxHeartbeats 800000 in
theorem horner_any (p : Option Addr) (g off c x n : Nat) (cs : List Nat) (w : World) (hs : Src w p g off cs) (hN : cs.length = n) (hn : n ≤ 1000000) :
    Calls Tryz.prog 151 #[.slice p n c, .float .f64 x] w fun e w' => ∃ r, e = .returned (.float .f64 r) ∧ Ag (hornO cs x) r ∧ ∃ q, w' = w.drewN q := by
  have HS := hideS hs
  have HN := hideS hN
  by_cases h0 : n = 0
  · subst h0
    have HR : Hid (hornO cs x = some 0) := by show _ = _; unfold hornO; rw [if_pos hN]
    clear hs hN HS HN
    go_enter Tryz.func151, Tryz.ntmps151
    go_wp2
    go_ret
    exact ⟨_, rfl, by rw [HR.out]; rfl, 0, rfl⟩
  obtain ⟨m, rfl⟩ : ∃ m, n = m + 1 := ⟨n - 1, by omega⟩
  obtain rfl := hs.at_ (by omega)
  have hc0 := hs.cell m (by omega)
  have HR : Hid (hornO cs x = hornAt cs x m) := by show _ = _; unfold hornO; rw [if_neg (by omega), hN]; rfl
  have HA0 : Hid (hornAt cs x 0 = some (cs.getD m 0)) := by show _ = _; unfold hornAt; rw [hN]; rfl
  have HA1 : Hid (∀ i, hornAt cs x (i + 1) = stepO x (hornAt cs x i) (cs.getD (m - 1 - i) 0)) := fun i => by
    show stepO x (hornAt cs x i) (cs.getD (cs.length - 2 - i) 0) = _
    rw [hN]; rfl
  generalize cs.getD m 0 = p0 at hc0 HA0
  clear hs hN h0
  go_enter Tryz.func151, Tryz.ntmps151
  go_wp2_with fail
  go_loopw [6, 19] (fun s i wr => ∃ k a : Nat, k ≤ m ∧ i = .int .i64 k ∧ s = .float .f64 a ∧ Hid (Ag (hornAt cs x k) a) ∧ Hid (∃ q, wr = w.drewN q)) (fun _ i _ => m - (intOf i).toNat)
  case atStart => exact ⟨0, p0, Nat.zero_le _, rfl, rfl, by rw [HA0.out]; rfl, ⟨0, rfl⟩⟩
  case round =>
    obtain ⟨k, a, hk, rfl, rfl, HA, HQ⟩ := hrel
    by_cases hlt : k < m
    · have hcx : wr.cell? ⟨g, off + (m - 1 - k), none⟩ = some (.float .f64 (cs.getD (m - 1 - k) 0)) := by
        obtain ⟨q, e⟩ := HQ.out
        rw [e]; exact HS.out.cell (m - 1 - k) (by rw [HN.out]; omega)
      have HA2 := hideS (HA1.out k)
      obtain ⟨j, hj⟩ : ∃ j : Nat, m - 1 - k = j := ⟨_, rfl⟩
      have hj2 : (m : Int) - 1 - k = j := by omega
      rw [hj] at hcx HA2
      clear hj
      generalize cs.getD j 0 = y at hcx HA2
      rw [stepO_ag HA.out] at HA2
      clear HA HA1 HA0
      cases hq : floatBits .mul .f64 a x with
      | some q =>
        have r1 := fun w => run_float_arith (P := Tryz.prog) w .mul 42 .f64 a x q hq
        cases hr : floatBits .add .f64 q y with
        | some r =>
          have r2 := fun w => run_float_arith (P := Tryz.prog) w .add 42 .f64 q y r hr
          have HE : Hid (Ag (hornAt cs x (k + 1)) r) := by rw [HA2.out, hq]; show Ag (floatBits .add .f64 q y) r; rw [hr]; rfl
          clear hq hr HA2
          go_wp2
          go_roundw
          case rel => exact ⟨k + 1, r, by omega, by simp, rfl, HE, HQ⟩
          case measure => simp [intOf]; omega
        | none =>
          have r2 := run_arith_nan (P := Tryz.prog) .add (by simp) 42 q y hr
          have HE : Hid (∀ z, Ag (hornAt cs x (k + 1)) (nanAns q y z)) := fun z => by rw [HA2.out, hq]; show Ag (floatBits .add .f64 q y) _; rw [hr]; exact nanAns_nan q y z
          clear hq hr HA2
          go_wp2
          go_roundw
          case rel => exact ⟨k + 1, _, by omega, by simp, rfl, HE.out _, drew_one HQ.out⟩
          case measure => simp [intOf]; omega
      | none =>
        have r1 := run_arith_nan (P := Tryz.prog) .mul (by simp) 42 a x hq
        have r2 := fun z => run_arith_nan (P := Tryz.prog) .add (by simp) 42 (nanAns a x z) y (nan_left (nanAns_nan a x z).1)
        have HE : Hid (∀ z z', Ag (hornAt cs x (k + 1)) (nanAns (nanAns a x z) y z')) := fun z z' => by rw [HA2.out, hq]; exact nanAns_nan _ y z'
        clear hq HA2
        go_wp2
        go_roundw
        case rel => exact ⟨k + 1, _, by omega, by simp, rfl, HE.out _ _, drew_one (drew_one HQ.out)⟩
        case measure => simp [intOf]; omega
    · obtain rfl : k = m := by omega
      go_wp2
      go_ret
      exact ⟨_, rfl, by rw [HR.out]; exact HA.out, HQ.out⟩
end Go.Proofs.YtphnainibdepbaaGreat
namespace Go.Proofs.YtphnainibdepbaaGreat
open Go.RowKit

structure VSrc (w : World) (p : Option Addr) (b off n : Nat) (f : Nat → Value) : Prop where
  at_ : 0 < n → p = some ⟨b, off, none⟩
  lt : 0 < n → b < w.heap.size
  cell : ∀ j < n, w.cell? ⟨b, off + j, none⟩ = some (f j)
theorem VSrc.below {w w' : World} {p : Option Addr} {b off n : Nat} {f : Nat → Value} (h : VSrc w p b off n f) (hb : Below w.heap.size w w') : VSrc w' p b off n f :=
  ⟨h.at_, fun hx => Nat.lt_of_lt_of_le (h.lt hx) hb.size, fun j hj => (hb.cell (p := ⟨b, off + j, none⟩) (h.lt (by omega))).trans (h.cell j hj)⟩
def xV (xs : List Int) (j : Nat) : Value := .int .i64 (xs.getD j 0)
def yV (ys : List Nat) (j : Nat) : Value := .int .u64 (ys.getD j 0 : Nat)
def flV (ys : List Nat) (j : Nat) : Value := .float .f64 (ys.getD j 0)
structure TBox (w : World) (kind : Int) (vx vy : Value) (wr : World) : Prop where
  t0 : wr.cell? ⟨w.heap.size, 0, none⟩ = some (.int .i64 kind)
  t1 : wr.cell? ⟨w.heap.size, 1, none⟩ = some vx
  t2 : wr.cell? ⟨w.heap.size, 2, none⟩ = some vy
  bl : Below w.heap.size w wr
  lt : w.heap.size < wr.heap.size
theorem TBox.step {w wr w' : World} {kind : Int} {vx vy : Value} (h : TBox w kind vx vy wr) (hb : Below wr.heap.size wr w') : TBox w kind vx vy w' :=
  ⟨(hb.cell (p := ⟨w.heap.size, 0, none⟩) h.lt).trans h.t0, (hb.cell (p := ⟨w.heap.size, 1, none⟩) h.lt).trans h.t1, (hb.cell (p := ⟨w.heap.size, 2, none⟩) h.lt).trans h.t2, h.bl.trans (hb.mono h.bl.size), Nat.lt_of_lt_of_le h.lt hb.size⟩
end Go.Proofs.YtphnainibdepbaaGreat
namespace Go.Proofs.YtphnainibdepbaaGreat
open Go.RowKit

end Go.Proofs.YtphnainibdepbaaGreat
namespace Go.Proofs.YtphnainibdepbaaGreat
open Go.RowKit

structure TSrc (w : World) (px py : Option Addr) (bx ox b2 oy : Nat) (xs : List Int) (ys : List Nat) : Prop where
  x : VSrc w px bx ox xs.length (xV xs)
  y : VSrc w py b2 oy ys.length (yV ys)
  f : ∀ i < ys.length, U64 (ys.getD i 0 : Nat)
theorem TSrc.below {w w' : World} {px py : Option Addr} {bx ox b2 oy : Nat} {xs : List Int} {ys : List Nat} (h : TSrc w px py bx ox b2 oy xs ys) (hb : Below w.heap.size w w') : TSrc w' px py bx ox b2 oy xs ys := ⟨h.x.below hb, h.y.below hb, h.f⟩
inductive FindO (kind : Int) (xs : List Int) (ys : List Nat) (x : Int) : Int → Int → Prop
  | bad (E : Int) (h : TabR kind xs ys E) (hE : E ≠ 0) : FindO kind xs ys x 0 E
  | out (h : OkT kind xs ys) (hx : x < xs.getD 0 0 ∨ xs.getD (xs.length - 1) 0 < x) : FindO kind xs ys x 0 51
  | at_ (h : OkT kind xs ys) (hlo : xs.getD 0 0 ≤ x) (hhi : x ≤ xs.getD (xs.length - 1) 0) (k : Nat) (hk : FindR xs x k) (hj : ∀ j < k, j + 1 < xs.length ∧ xs.getD (j + 1) 0 ≤ x) : FindO kind xs ys x (k : Int) 0
theorem tabR_ok {kind : Int} {xs : List Int} {ys : List Nat} (h : TabR kind xs ys 0) : OkT kind xs ys := by
  generalize hE : (0 : Int) = E at h
  cases h with
  | ok h => exact h
  | kind h => cases hE
  | len h1 h4 h => cases hE
  | node => cases hE
theorem findO_ex (kind : Int) (xs : List Int) (ys : List Nat) (x : Int) : ∃ k E, FindO kind xs ys x k E := by
  obtain ⟨E, h⟩ := tabR_ex kind xs ys
  by_cases hE : E = 0
  · subst hE
    have ok := tabR_ok h
    by_cases hx : x < xs.getD 0 0 ∨ xs.getD (xs.length - 1) 0 < x
    · exact ⟨_, _, .out ok hx⟩
    · obtain ⟨k, hk, hj⟩ := find_ex (x := x) ok.lo (by omega)
      exact ⟨_, _, .at_ ok (by omega) (by omega) k hk hj⟩
  · exact ⟨_, _, .bad E h hE⟩

end Go.Proofs.YtphnainibdepbaaGreat
namespace Go.Proofs.YtphnainibdepbaaGreat
open Go.RowKit

theorem wrd_lt {s : Bool} {r : Nat} (h : r ≤ 9218868437227405312) : wrd s r < 18446744073709551616 := by unfold wrd; split <;> omega
theorem write_lt (d : Ieee.Datum) (h : ∀ s f, d ≠ .nan s f) : Ieee.double.write d < 18446744073709551616 := by
  cases d with
  | nan s f => exact absurd rfl (h s f)
  | infinity s => rw [show Ieee.double.write (.infinity s) = wrd s 9218868437227405312 by cases s <;> decide +kernel]; exact wrd_lt (Nat.le_refl _)
  | number s m i =>
    show Ieee.double.nearest s m i < _
    by_cases h0 : m = 0
    · rw [h0, nearest_zero, word_eq]; exact wrd_lt (Nat.zero_le _)
    · rw [nearest_eq s h0, word_eq]; exact wrd_lt (Nat.min_le_right _ _)
theorem sum_ok {a b d : Ieee.Datum} (h : a.sum b = some d) : ∀ s f, d ≠ .nan s f := by
  intro s f e
  subst e
  cases a <;> cases b <;> simp [Ieee.Datum.sum] at h
theorem product_ok {a b d : Ieee.Datum} (h : a.product b = some d) : ∀ s f, d ≠ .nan s f := by
  intro s f e
  subst e
  cases a <;> cases b <;> simp [Ieee.Datum.product] at h
theorem quotient_ok {a b d : Ieee.Datum} {k : Nat} (h : a.quotient k b = some d) : ∀ s f, d ≠ .nan s f := by
  intro s f e
  subst e
  cases a <;> cases b <;> simp [Ieee.Datum.quotient] at h
  split at h
  · split at h <;> cases h
  · cases h
theorem map_lt {o : Option Ieee.Datum} {r : Nat} (ho : ∀ d, o = some d → ∀ s f, d ≠ .nan s f) (h : o.map Ieee.double.write = some r) : r < 18446744073709551616 := by
  cases o with
  | none => cases h
  | some d =>
    have : Ieee.double.write d = r := Option.some.inj h
    rw [← this]; exact write_lt d (ho d rfl)
theorem float_lt {op : BinOp} (ho : op = .add ∨ op = .sub ∨ op = .mul ∨ op = .quo) {x y r : Nat} (h : floatBits op .f64 x y = some r) : r < 18446744073709551616 := by
  rcases ho with rfl | rfl | rfl | rfl
  · exact map_lt (o := (Ieee.double.read x).sum (Ieee.double.read y)) (fun d hd => sum_ok hd) h
  · exact map_lt (o := (Ieee.double.read x).sum (Ieee.double.read y).opposite) (fun d hd => sum_ok hd) h
  · exact map_lt (o := (Ieee.double.read x).product (Ieee.double.read y)) (fun d hd => product_ok hd) h
  · exact map_lt (o := (Ieee.double.read x).quotient 54 (Ieee.double.read y)) (fun d hd => quotient_ok hd) h
end Go.Proofs.YtphnainibdepbaaGreat
namespace Go.Proofs.YtphnainibdepbaaGreat
open Go.RowKit

def heldB (v a b : Int) : Int :=
  if ltB b a then (if ltB v b then b else if ltB a v then a else v)
  else if ltB a b then (if ltB v a then a else if ltB b v then b else v)
  else (if ltB v a then a else if ltB a v then a else v)
theorem held_u64 {v a b : Int} (hv : U64 v) (ha : U64 a) (hb : U64 b) : U64 (heldB v a b) := by
  unfold heldB
  (repeat' split) <;> assumption
theorem ltB_iff {u v : Int} (hu : nanB u = false) (hv : nanB v = false) : ltB u v = decide (rankI u < rankI v) := by
  unfold ltB
  rw [hu, hv]; simp
theorem held_up {v a b : Int} (hv : nanB v = false) (ha : nanB a = false) (hb : nanB b = false) (h : rankI a ≤ rankI b) : nanB (heldB v a b) = false ∧ rankI a ≤ rankI (heldB v a b) ∧ rankI (heldB v a b) ≤ rankI b := by
  unfold heldB
  rw [ltB_iff hb ha, ltB_iff hv hb, ltB_iff ha hv, ltB_iff ha hb, ltB_iff hv ha, ltB_iff hb hv]
  simp only [decide_eq_true_eq]
  rw [if_neg (by omega)]
  (repeat' split) <;> exact ⟨by assumption, by omega, by omega⟩
theorem held_down {v a b : Int} (hv : nanB v = false) (ha : nanB a = false) (hb : nanB b = false) (h : rankI b ≤ rankI a) : nanB (heldB v a b) = false ∧ rankI b ≤ rankI (heldB v a b) ∧ rankI (heldB v a b) ≤ rankI a := by
  unfold heldB
  rw [ltB_iff hb ha, ltB_iff hv hb, ltB_iff ha hv, ltB_iff ha hb, ltB_iff hv ha, ltB_iff hb hv]
  simp only [decide_eq_true_eq]
  (repeat' split) <;> exact ⟨by assumption, by omega, by omega⟩
end Go.Proofs.YtphnainibdepbaaGreat
namespace Go.Proofs.YtphnainibdepbaaGreat
open Go.RowKit

def opO (op : BinOp) (a b : Option Nat) : Option Nat := a.bind fun a => b.bind fun b => floatBits op .f64 a b
theorem opO_ag {op : BinOp} {o o' : Option Nat} {a c : Nat} (h : Ag o a) (h' : Ag o' c) : opO op o o' = floatBits op .f64 a c := by
  unfold opO
  cases o with
  | none => rw [nan_left (ag_none h).1]; rfl
  | some r =>
    rw [ag_some h]
    cases o' with
    | none => rw [nan_right (ag_none h').1]; rfl
    | some r' => rw [ag_some h']; rfl
theorem run_op_ag (op : BinOp) (ho : op = .add ∨ op = .sub ∨ op = .mul ∨ op = .quo) (t : TypeId) (a c : Nat) (w : World) : ∃ r, (∃ q, (binOp op t (.float .f64 a) (.float .f64 c)).run Tryz.prog w = .ok (.float .f64 r) (w.drewN q)) ∧ Ag (floatBits op .f64 a c) r := by
  cases h : floatBits op .f64 a c with
  | some r => exact ⟨r, ⟨0, run_float_arith (P := Tryz.prog) w op t .f64 a c r h⟩, rfl⟩
  | none => exact ⟨_, ⟨1, run_arith_nan (P := Tryz.prog) op ho t a c h w⟩, nanAns_nan a c w⟩
end Go.Proofs.YtphnainibdepbaaGreat
namespace Go.Proofs.YtphnainibdepbaaGreat
open Go.RowKit

theorem abox_at (w : World) (kind : Int) (vx vy : Value) : TBox w kind vx vy (w.alloc (.cells #[.int .i64 kind, vx, vy] 105)) :=
  ⟨by simp, by simp, by simp, (Below.refl _ _).alloc (Nat.le_refl _) _, by simp⟩

end Go.Proofs.YtphnainibdepbaaGreat
namespace Go.Proofs.YtphnainibdepbaaGreat
open Go.RowKit

theorem floatOf_fi (m : Int) : floatOfInt .f64 m = fi m := by
  show Ieee.double.nearest (decide (m < 0)) m.natAbs 0 = _
  unfold fi joinN
  by_cases h0 : m = 0
  · subst h0; rfl
  · rw [if_neg h0, nearest_eq _ (by omega)]
    by_cases hn : m < 0
    · simp only [hn, decide_true, if_true]; rw [word_true]
    · simp only [hn, decide_false, if_false]; rw [word_false]
theorem store_f64 (P : Program) (w : World) (a : Addr) (x : Nat) (z : Value) (h : w.cell? a = some z) (hf : w.frozen? a = false) : (store a (.float .f64 x)).run P w = .ok () (w.setCell a (.float .f64 x)) := by
  rw [run_store P w a _ _ rfl, h]; simp [hf]
theorem info_f64 : (Tryz.prog.info? 42).map (fun i => (i.zero, i.size, i.bytes)) = some (some (.float .f64 0), 1, 8) := by kernel_rfl

def expL : List Nat := [4607182418800017408, 4607182418800017408, 4602678819172646912, 4595172819793696085, 4586165620538955093, 4575957461383581969, 4564047942368979991, 4551452160554016794, 4537941361671905306, 4523617214285662004, 4508805057796939612, 4493156764026750180, 4477122120089393304, 4460272573143870729]
def lnL : List Nat := [4607182418800017408, 4599676419421066581, 4596373779694328218, 4594314991293244562, 4592670820000712476, 4591215111030249286, 4590207312512236308, 4589468260265693457, 4588638185040256542, 4587745830934523688, 4587023449039406616]
def facN : Nat → Nat
  | 0 => 1
  | k + 1 => facN k * max k 1
theorem exp_row : ∀ k, k < 14 → floatBits .quo .f64 4607182418800017408 (fi (facN (k + 1) : Int)) = some (expL.getD k 0) := by decide +kernel
theorem ln_row : ∀ k, k < 11 → floatBits .quo .f64 4607182418800017408 (fi ((2 * k + 1 : Nat) : Int)) = some (lnL.getD k 0) := by decide +kernel
theorem fac_bd : ∀ k, k < 15 → 1 ≤ facN k ∧ facN k ≤ 6227020800 := by decide +kernel

def HalfF (w : World) (b n : Nat) (l : List Nat) (j : Nat) : Prop := w.rowIs b 42 n (fun i => .float .f64 (if i < j then l.getD i 0 else 0))
theorem halfF_made (w : World) (n : Nat) (l : List Nat) : HalfF (w.alloc (.cells (madeCells #[.float .f64 0] n) 42)) w.heap.size n l 0 :=
  (World.rowIs_made w (.float .f64 0) n 42).congr (fun i _ => by rw [if_neg (by omega)])
theorem halfF_step {w : World} {b n j x : Nat} {l : List Nat} (h : HalfF w b n l j) (hx : x = l.getD j 0) : HalfF (w.setCell ⟨b, j, none⟩ (.float .f64 x)) b n l (j + 1) := by
  refine (h.set j (.float .f64 x)).congr fun i _ => ?_
  by_cases c : i = j
  · rw [if_pos c, if_pos (by omega), hx, c]
  · rw [if_neg c]
    by_cases d : i < j
    · rw [if_pos d, if_pos (by omega)]
    · rw [if_neg d, if_neg (by omega)]
theorem halfF_src {w : World} {b n : Nat} {l : List Nat} (h : HalfF w b n l n) (hn : l.length = n) : Src w (some ⟨b, 0, none⟩) b 0 l :=
  ⟨fun _ => rfl, fun _ => h.lt, fun j hj => by
    rw [Nat.zero_add]
    have := h.cell (i := j) (by omega)
    rw [if_pos (by omega)] at this; exact this⟩

set_option maxHeartbeats 800000 in
theorem expTerms_any (w : World) :
    Calls Tryz.prog 152 #[] w fun e w' => e = .returned (.slice (some ⟨w.heap.size, 0, none⟩) 14 14) ∧ Src w' (some ⟨w.heap.size, 0, none⟩) w.heap.size 0 expL ∧ Below w.heap.size w w' := by
  have hmk := fun w => run_make_row' (P := Tryz.prog) 32 42 (.float .f64 0) 8 Tryz.underlying32 info_f64 rfl .i64 .i64 14 (by omega) (by omega) w
  rw [show ((14 : Nat) : Int) = 14 from rfl] at hmk
  have HO := hideS (halfF_made w 14 expL)
  go_enter Tryz.func152, Tryz.ntmps152
  go_wp2_with fail
  go_loopw [2, 5] (fun s i wr => ∃ k f : Nat, k ≤ 14 ∧ i = .int .i64 k ∧ s = .int .i64 f ∧ Hid (f = facN k) ∧ Hid (HalfF wr w.heap.size 14 expL k) ∧ Hid (Below w.heap.size w wr)) (fun _ i _ => 14 - (intOf i).toNat)
  case atStart => exact ⟨0, 1, Nat.zero_le _, rfl, rfl, rfl, HO, (Below.refl _ _).alloc (Nat.le_refl _) _⟩
  case round =>
    clear HO hmk
    obtain ⟨k, f, hk, rfl, rfl, HF, HH, HB⟩ := hrel
    by_cases hlt : k < 14
    · have hb := fac_bd k (by omega)
      have hb2 := fac_bd (k + 1) (by omega)
      rw [← HF.out] at hb
      have hdv := exp_row k hlt
      obtain ⟨f', hf'⟩ : ∃ f', facN (k + 1) = f' := ⟨_, rfl⟩
      have HF' : Hid (f' = facN (k + 1)) := hf'.symm
      rw [hf'] at hdv hb2
      have hmx : max (k : Int) 1 = ((max k 1 : Nat) : Int) := by omega
      have hml : (f : Int) * ((max k 1 : Nat) : Int) = (f' : Int) := by rw [← hf']; show _ = ((facN k * max k 1 : Nat) : Int); rw [HF.out, Int.natCast_mul]
      clear hf' HF
      generalize ((max k 1 : Nat) : Int) = mx at hmx hml
      obtain ⟨x, hx⟩ : ∃ x, expL.getD k 0 = x := ⟨_, rfl⟩
      have HX : Hid (x = expL.getD k 0) := hx.symm
      rw [hx] at hdv
      clear hx
      have hfo := floatOf_fi (f' : Int)
      have r1 := fun w => run_float_arith (P := Tryz.prog) w .quo 42 .f64 4607182418800017408 (fi (f' : Int)) x hdv
      clear hdv
      generalize fi (f' : Int) = y at hfo r1
      have hcz := HH.out.cell (i := k) hlt
      rw [if_neg (by omega)] at hcz
      have hfz := HH.out.frozen k
      have hst := store_f64 Tryz.prog wr ⟨w.heap.size, k, none⟩ x _ hcz hfz
      go_wp2_with fail
      go_roundw
      case rel => exact ⟨k + 1, f', by omega, by simp, rfl, HF', halfF_step HH.out HX.out, HB.out.setCell (Nat.le_refl _) _⟩
      case measure => simp [intOf]; omega
    · obtain rfl : k = 14 := by omega
      have HS := hideS (halfF_src HH.out (by rfl))
      go_wp2_with fail
      go_ret
      exact ⟨rfl, HS.out, HB.out⟩

set_option maxHeartbeats 800000 in
theorem lnTerms_any (w : World) :
    Calls Tryz.prog 154 #[] w fun e w' => e = .returned (.slice (some ⟨w.heap.size, 0, none⟩) 11 11) ∧ Src w' (some ⟨w.heap.size, 0, none⟩) w.heap.size 0 lnL ∧ Below w.heap.size w w' := by
  have hmk := fun w => run_make_row' (P := Tryz.prog) 32 42 (.float .f64 0) 8 Tryz.underlying32 info_f64 rfl .i64 .i64 11 (by omega) (by omega) w
  rw [show ((11 : Nat) : Int) = 11 from rfl] at hmk
  have HO := hideS (halfF_made w 11 lnL)
  go_enter Tryz.func154, Tryz.ntmps154
  go_wp2_with fail
  go_loopw [4] (fun i wr => ∃ k : Nat, k ≤ 11 ∧ i = .int .i64 k ∧ Hid (HalfF wr w.heap.size 11 lnL k) ∧ Hid (Below w.heap.size w wr)) (fun i _ => 11 - (intOf i).toNat)
  case atStart => exact ⟨0, Nat.zero_le _, rfl, HO, (Below.refl _ _).alloc (Nat.le_refl _) _⟩
  case round =>
    clear HO hmk
    obtain ⟨k, hk, rfl, HH, HB⟩ := hrel
    by_cases hlt : k < 11
    · have hdv := ln_row k hlt
      have hml : (2 : Int) * (k : Int) + 1 = ((2 * k + 1 : Nat) : Int) := by omega
      obtain ⟨m, hm⟩ : ∃ m : Int, ((2 * k + 1 : Nat) : Int) = m := ⟨_, rfl⟩
      rw [hm] at hdv hml
      clear hm
      obtain ⟨x, hx⟩ : ∃ x, lnL.getD k 0 = x := ⟨_, rfl⟩
      have HX : Hid (x = lnL.getD k 0) := hx.symm
      rw [hx] at hdv
      clear hx
      have hfo := floatOf_fi m
      have r1 := fun w => run_float_arith (P := Tryz.prog) w .quo 42 .f64 4607182418800017408 (fi m) x hdv
      clear hdv
      generalize fi m = y at hfo r1
      have hcz := HH.out.cell (i := k) hlt
      rw [if_neg (by omega)] at hcz
      have hfz := HH.out.frozen k
      have hst := store_f64 Tryz.prog wr ⟨w.heap.size, k, none⟩ x _ hcz hfz
      go_wp2_with fail
      go_roundw
      case rel => exact ⟨k + 1, by omega, by simp, halfF_step HH.out HX.out, HB.out.setCell (Nat.le_refl _) _⟩
      case measure => simp [intOf]; omega
    · obtain rfl : k = 11 := by omega
      have HS := hideS (halfF_src HH.out (by rfl))
      go_wp2_with fail
      go_ret
      exact ⟨rfl, HS.out, HB.out⟩
end Go.Proofs.YtphnainibdepbaaGreat
namespace Go.Proofs.YtphnainibdepbaaGreat
open Go.RowKit

end Go.Proofs.YtphnainibdepbaaGreat
namespace Go.Proofs.YtphnainibdepbaaGreat
open Go.RowKit

theorem rank_small {b : Nat} (h : b < 9218868437227405312) : U64 (b : Int) ∧ nanB (b : Int) = false ∧ rankI (b : Int) = b := by
  have h1 : szI (b : Int) = b := by unfold szI; omega
  have h2 : nanB (b : Int) = false := by unfold nanB; rw [h1]; simp; omega
  have h3 : sgB (b : Int) = false := by simp [sgB]; omega
  exact ⟨by unfold U64; omega, h2, by rw [rank_pos h2 h3, h1]⟩
theorem cut_down (neg : Bool) (n drop : Nat) : Ieee.Toward.down.cut neg n drop = n / 2 ^ drop + (if neg = true ∧ n % 2 ^ drop ≠ 0 then 1 else 0) := by
  show n / (1 <<< min drop (n.log2 + 2)) + (neg && n % (1 <<< min drop (n.log2 + 2)) != 0).toNat = _
  rw [Nat.one_shiftLeft]
  have key : n / 2 ^ min drop (n.log2 + 2) = n / 2 ^ drop ∧ n % 2 ^ min drop (n.log2 + 2) = n % 2 ^ drop := by
    by_cases h : drop ≤ n.log2 + 2
    · rw [Nat.min_eq_left h]; exact ⟨rfl, rfl⟩
    · rw [Nat.min_eq_right (by omega)]
      have hl : n < 2 ^ (n.log2 + 1) := Nat.lt_log2_self
      have h1 : (2 : Nat) ^ (n.log2 + 1) ≤ 2 ^ (n.log2 + 2) := Nat.pow_le_pow_right (by decide) (by omega)
      have h2 : (2 : Nat) ^ (n.log2 + 2) ≤ 2 ^ drop := Nat.pow_le_pow_right (by decide) (by omega)
      rw [Nat.div_eq_of_lt (by omega), Nat.div_eq_of_lt (by omega), Nat.mod_eq_of_lt (by omega), Nat.mod_eq_of_lt (by omega)]
      exact ⟨rfl, rfl⟩
  rw [key.1, key.2]
  congr 1
  cases neg
  · rfl
  · by_cases h0 : n % 2 ^ drop = 0
    · rw [h0]; rfl
    · rw [if_pos ⟨rfl, h0⟩]; simp [h0]
theorem cut_scale (m p K : Nat) : (m <<< (-(K : Int) + (p : Int)).toNat) / 2 ^ (-(-(K : Int) + (p : Int))).toNat = m * 2 ^ p / 2 ^ K ∧ ((m <<< (-(K : Int) + (p : Int)).toNat) % 2 ^ (-(-(K : Int) + (p : Int))).toNat = 0 ↔ m * 2 ^ p % 2 ^ K = 0) := by
  rw [Nat.shiftLeft_eq]
  by_cases h : p ≤ K
  · have e1 : (-(K : Int) + (p : Int)).toNat = 0 := by omega
    have e2 : (-(-(K : Int) + (p : Int))).toNat = K - p := by omega
    have e3 : (2 : Nat) ^ K = 2 ^ (K - p) * 2 ^ p := by rw [← Nat.pow_add, show K - p + p = K by omega]
    have hp := Nat.two_pow_pos p
    rw [e1, e2, e3, Nat.pow_zero, Nat.mul_one, Nat.mul_div_mul_right _ _ hp, Nat.mul_mod_mul_right]
    refine ⟨rfl, ?_⟩
    constructor
    · intro h; rw [h, Nat.zero_mul]
    · intro h; rcases Nat.mul_eq_zero.1 h with h | h
      · exact h
      · omega
  · have e1 : (-(K : Int) + (p : Int)).toNat = p - K := by omega
    have e2 : (-(-(K : Int) + (p : Int))).toNat = 0 := by omega
    have e3 : (2 : Nat) ^ p = 2 ^ (p - K) * 2 ^ K := by rw [← Nat.pow_add, show p - K + K = p by omega]
    have hp := Nat.two_pow_pos K
    rw [e1, e2, e3, Nat.pow_zero, Nat.div_one, Nat.mod_one, ← Nat.mul_assoc, Nat.mul_div_cancel _ hp, Nat.mul_mod_left]
    exact ⟨rfl, Iff.rfl⟩
theorem floor_word {b K : Nat} (hK : K = 1074) (h : NumB b) (hz : b % 9223372036854775808 ≠ 0 ∨ sB b = false) :
    ∃ k : Int, Ieee.double.write ((Ieee.double.read b).integral .down) = fi k ∧ k * ((2 ^ K : Nat) : Int) ≤ vI b ∧ vI b < (k + 1) * ((2 ^ K : Nat) : Int) := by
  rw [read_num h]
  have hv := vI_eq b
  have hs : (b / 9223372036854775808 % 2 == 1) = sB b := rfl
  have hm0 : b % 9223372036854775808 ≠ 0 → mg (b % 9223372036854775808) ≠ 0 := fun h => by unfold mg; split <;> omega
  rw [hs] at hv ⊢
  generalize b % 9223372036854775808 = r at *
  generalize hm : mg r = m at *
  generalize pl r = p at *
  have hP := Nat.two_pow_pos K
  have hp2 := Nat.two_pow_pos p
  obtain ⟨c1, c2⟩ := cut_scale m p K
  have key : ∀ s, Ieee.double.write ((Ieee.Datum.number s m (-1074 + (p : Int))).integral .down) = Ieee.double.nearest s (m * 2 ^ p / 2 ^ K + (if s = true ∧ m * 2 ^ p % 2 ^ K ≠ 0 then 1 else 0)) 0 := fun s => by
    show Ieee.double.nearest s (Ieee.Toward.down.cut s (m <<< (-1074 + (p : Int)).toNat) (-(-1074 + (p : Int))).toNat) 0 = _
    have e : (-1074 + (p : Int)) = -(K : Int) + (p : Int) := by omega
    rw [cut_down, e, c1]
    congr 2
    simp only [ne_eq, c2]
  rw [key]
  obtain ⟨A, hA⟩ : ∃ A, m * 2 ^ p = A := ⟨_, rfl⟩
  obtain ⟨P, hPP⟩ : ∃ P, 2 ^ K = P := ⟨_, rfl⟩
  rw [hA] at hv ⊢
  rw [hPP] at hP ⊢
  have hd := Nat.div_add_mod A P
  have hlt := Nat.mod_lt A hP
  generalize A / P = q at *
  generalize A % P = t at *
  clear key c1 c2
  cases hsb : sB b with
  | false =>
    rw [hsb] at hv
    refine ⟨(q : Nat), ?_, ?_, ?_⟩
    · rw [if_neg (by simp), Nat.add_zero]
      unfold fi joinN
      by_cases h0 : q = 0
      · rw [h0, nearest_zero]; rfl
      · rw [nearest_eq _ h0, word_false, if_neg (by omega), if_neg (by omega), Int.natAbs_natCast]
    · rw [hv]; show ((q : Nat) : Int) * (P : Int) ≤ (A : Int)
      rw [← Int.natCast_mul, Nat.mul_comm]; omega
    · rw [hv]; show (A : Int) < (((q : Nat) : Int) + 1) * (P : Int)
      rw [Int.add_mul, ← Int.natCast_mul, Nat.mul_comm]; omega
  | true =>
    rw [hsb] at hv
    have hr0 : r ≠ 0 := by
      rcases hz with h | h
      · exact h
      · rw [hsb] at h; cases h
    have hA0 : A ≠ 0 := by rw [← hA]; exact Nat.mul_ne_zero (hm0 hr0) (by omega)
    by_cases hr : t = 0
    · refine ⟨-((q : Nat) : Int), ?_, ?_, ?_⟩
      · rw [if_neg (by simp [hr]), Nat.add_zero]
        have h0 : q ≠ 0 := by
          intro h0; rw [h0, Nat.mul_zero] at hd; omega
        unfold fi joinN
        rw [nearest_eq _ h0, word_true, if_neg (by omega), if_pos (by omega), Int.natAbs_neg, Int.natAbs_natCast]
      · rw [hv]; show -((q : Nat) : Int) * (P : Int) ≤ -(A : Int)
        rw [Int.neg_mul, ← Int.natCast_mul, Nat.mul_comm]; omega
      · rw [hv]; show -(A : Int) < (-((q : Nat) : Int) + 1) * (P : Int)
        rw [Int.add_mul, Int.neg_mul, ← Int.natCast_mul, Nat.mul_comm]; omega
    · refine ⟨-((q + 1 : Nat) : Int), ?_, ?_, ?_⟩
      · rw [if_pos ⟨rfl, hr⟩]
        unfold fi joinN
        rw [nearest_eq _ (by omega), word_true, if_neg (by omega), if_pos (by omega), Int.natAbs_neg, Int.natAbs_natCast]
      · rw [hv]; show -((q + 1 : Nat) : Int) * (P : Int) ≤ -(A : Int)
        rw [Int.neg_mul, ← Int.natCast_mul, Nat.add_mul, Nat.mul_comm (q)]; omega
      · rw [hv]; show -(A : Int) < (-((q + 1 : Nat) : Int) + 1) * (P : Int)
        rw [Int.add_mul, Int.neg_mul, ← Int.natCast_mul, Nat.add_mul, Nat.mul_comm (q)]; omega

theorem toIntegral_num (b : Nat) (s : Bool) (m : Nat) (i : Int) (hd : FloatKind.f64.decode b = .number s m i) : Extern.MathFloor.toIntegral "math.archFloor" .down #[.float .f64 b] = pure (.float .f64 (FloatKind.f64.encode ((Ieee.Datum.number s m i).integral .down))) := by
  conv => lhs; whnf
  rw [hd]
theorem call_archFloor (b : Nat) (h : NumB b) (w : World) : (callFunc 158 #[.float .f64 b]).run Tryz.prog w = .ok (.value (.float .f64 (Ieee.double.write ((Ieee.double.read b).integral .down)))) w := by
  refine (run_callFunc_extern (e := Extern.MathFloor.toIntegral "math.archFloor" .down) Tryz.func158 (by kernel_rfl) (by kernel_rfl) (by kernel_rfl) (by kernel_rfl) _ w).trans ?_
  have e : FloatKind.f64.decode b = _ := read_num h
  rw [toIntegral_num b _ _ _ e, read_num h]
  rfl

set_option maxHeartbeats 800000 in
theorem floor_at (b f : Nat) (w : World) (h : NumB b) (hf : Ieee.double.write ((Ieee.double.read b).integral .down) = f) :
    Calls Tryz.prog 149 #[.float .f64 b] w fun e w' => e = .returned (.float .f64 f) ∧ w' = w := by
  have h1 := call_archFloor b h
  rw [hf] at h1
  clear hf h
  go_enter Tryz.func149, Tryz.ntmps149
  go_wp2
  go_ret
  exact ⟨rfl, rfl⟩
end Go.Proofs.YtphnainibdepbaaGreat
namespace Go.Proofs.YtphnainibdepbaaGreat

theorem vI_wrd {s : Bool} {r : Nat} (h : r < 9218868437227405312) : vI (wrd s r) = sgZ s (V r) ∧ NumB (wrd s r) ∧ wrd s r < 18446744073709551616 ∧ sB (wrd s r) = s := by
  cases s
  · have e : wrd false r = r := rfl
    rw [e]
    refine ⟨?_, ?_, by omega, ?_⟩
    · rw [vI_sgZ]
      unfold sB aV
      rw [show r / 9223372036854775808 % 2 = 0 by omega, show r % 9223372036854775808 = r by omega]; rfl
    · unfold NumB; omega
    · unfold sB; rw [show r / 9223372036854775808 % 2 = 0 by omega]; rfl
  · have e : wrd true r = 9223372036854775808 + r := rfl
    rw [e]
    refine ⟨?_, ?_, by omega, ?_⟩
    · rw [vI_sgZ]
      unfold sB aV
      rw [show (9223372036854775808 + r) / 9223372036854775808 % 2 = 1 by omega, show (9223372036854775808 + r) % 9223372036854775808 = r by omega]; rfl
    · unfold NumB; omega
    · unfold sB; rw [show (9223372036854775808 + r) / 9223372036854775808 % 2 = 1 by omega]; rfl
theorem joinN_wrd {T e : Int} (h : T ≠ 0) : joinN T e = wrd (decide (T < 0)) (nearR T.natAbs e) := by
  unfold joinN wrd
  rw [if_neg h]
  by_cases hn : T < 0
  · rw [if_pos hn, if_pos (by simpa using hn)]
  · rw [if_neg hn, if_neg (by simpa using hn)]
theorem sgZ_rI {k : Nat} {T : Int} : sgZ (decide (T < 0)) (V (nearR T.natAbs (-1074 - (k : Int)))) = rI k T := by
  unfold sgZ rI
  by_cases hn : T < 0
  · rw [if_pos (by simpa using hn), if_pos hn]
  · rw [if_neg (by simpa using hn), if_neg hn]
theorem rI_zero (k : Nat) : rI k 0 = 0 := by
  unfold rI
  rw [if_neg (by decide), Int.natAbs_zero, nearR_zero (by omega), V_zero]; rfl
theorem add_worth {x y : Nat} (hx : NumB x) (hy : NumB y) (hf : FinR 0 (vI x + vI y)) : ∃ z, floatBits .add .f64 x y = some z ∧ NumB z ∧ z < 18446744073709551616 ∧ vI z = rI 0 (vI x + vI y) := by
  refine ⟨_, add_num hx hy, ?_⟩
  unfold addR
  generalize vI x + vI y = T at *
  by_cases h0 : T = 0
  · rw [if_pos h0, h0, rI_zero]
    split
    · exact ⟨by unfold NumB; decide, by decide, by decide⟩
    · exact ⟨by unfold NumB; decide, by decide, by decide⟩
  · rw [if_neg h0, joinN_wrd h0]
    have hf' : nearR T.natAbs (-1074) < 9218868437227405312 := hf
    obtain ⟨a, b, c, _⟩ := vI_wrd (s := decide (T < 0)) hf'
    refine ⟨b, c, ?_⟩
    rw [a]
    exact sgZ_rI (k := 0)
theorem sub_worth {x y : Nat} (hx : NumB x) (hy : NumB y) (hf : FinR 0 (vI x - vI y)) : ∃ z, floatBits .sub .f64 x y = some z ∧ NumB z ∧ z < 18446744073709551616 ∧ vI z = rI 0 (vI x - vI y) := by
  refine ⟨_, sub_num hx hy, ?_⟩
  unfold addR
  generalize vI x - vI y = T at *
  by_cases h0 : T = 0
  · rw [if_pos h0, h0, rI_zero]
    split
    · exact ⟨by unfold NumB; decide, by decide, by decide⟩
    · exact ⟨by unfold NumB; decide, by decide, by decide⟩
  · rw [if_neg h0, joinN_wrd h0]
    have hf' : nearR T.natAbs (-1074) < 9218868437227405312 := hf
    obtain ⟨a, b, c, _⟩ := vI_wrd (s := decide (T < 0)) hf'
    refine ⟨b, c, ?_⟩
    rw [a]
    exact sgZ_rI (k := 0)
theorem natAbs_vI (x : Nat) : (vI x).natAbs = aV x := by rw [vI_sgZ]; unfold sgZ; cases sB x <;> simp
theorem vI_neg_iff {x : Nat} (h : vI x ≠ 0) : decide (vI x < 0) = sB x := by
  rw [vI_sgZ] at h ⊢
  unfold sgZ at *
  cases sB x
  · simp
  · simp only [if_true] at *; simp; omega
theorem sign_mul {a b : Int} (ha : a ≠ 0) (hb : b ≠ 0) : (decide (a < 0) ^^ decide (b < 0)) = decide (a * b < 0) := by
  rcases Int.lt_or_lt_of_ne ha with pa | pa <;> rcases Int.lt_or_lt_of_ne hb with pb | pb
  · have := Int.mul_pos_of_neg_of_neg pa pb; simp [pa, pb]; omega
  · have := Int.mul_neg_of_neg_of_pos pa pb; simp [pa, this]; omega
  · have := Int.mul_neg_of_pos_of_neg pa pb; simp [pb, this]; omega
  · have := Int.mul_pos pa pb
    rw [decide_eq_false (show ¬ a < 0 by omega), decide_eq_false (show ¬ b < 0 by omega), decide_eq_false (show ¬ a * b < 0 by omega)]; rfl
theorem mul_worth {x y K : Nat} (hK : K = 1074) (hx : NumB x) (hy : NumB y) (hf : FinR K (vI x * vI y)) : ∃ z, floatBits .mul .f64 x y = some z ∧ NumB z ∧ z < 18446744073709551616 ∧ vI z = rI K (vI x * vI y) := by
  refine ⟨_, mul_num hx hy, ?_⟩
  unfold mulR
  rw [← natAbs_vI, ← natAbs_vI, ← Int.natAbs_mul]
  by_cases h0 : vI x * vI y = 0
  · rw [h0, Int.natAbs_zero, if_pos rfl, rI_zero]
    obtain ⟨a, b, c, _⟩ := vI_wrd (s := sB x ^^ sB y) (r := 0) (by decide)
    refine ⟨b, c, ?_⟩
    rw [a, V_zero]; unfold sgZ; split <;> rfl
  · have hx0 : vI x ≠ 0 := fun h => h0 (by rw [h, Int.zero_mul])
    have hy0 : vI y ≠ 0 := fun h => h0 (by rw [h, Int.mul_zero])
    rw [if_neg (by omega), ← vI_neg_iff hx0, ← vI_neg_iff hy0, sign_mul hx0 hy0]
    unfold FinR at hf
    rw [show (-1074 - (K : Int)) = -2148 by omega] at hf
    obtain ⟨a, b, c, _⟩ := vI_wrd (s := decide (vI x * vI y < 0)) hf
    refine ⟨b, c, ?_⟩
    rw [a]
    have := sgZ_rI (k := K) (T := vI x * vI y)
    rw [show (-1074 - (K : Int)) = -2148 by omega] at this
    exact this
end Go.Proofs.YtphnainibdepbaaGreat
