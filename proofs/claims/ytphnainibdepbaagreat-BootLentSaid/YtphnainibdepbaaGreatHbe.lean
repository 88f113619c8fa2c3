/- Quotes' cuts and interests, in plain words. The contract of the document's Slopes. The contract of the document's Points. -/
import Derived.Test.YtphnainibdepbaaGreatHav
import Derived.Test.YtphnainibdepbaaGreatHao
import Derived.Test.YtphnainibdepbaaGreatHal
import Derived.Test.YtphnainibdepbaaGreatHbc
import Derived.Test.YtphnainibdepbaaGreatHax
namespace Go.Proofs.YtphnainibdepbaaGreat
open Go.RowKit

def spcQ (base : Int) (q : Quo) : Spc := ⟨base, q.fin, q.n, 3, 1, 0, 0, 0⟩
inductive CutR (base : Int) (q : Quo) : Int → List Int → Prop
  | dep (h : q.kind = 1) : CutR base q 0 [base, q.fin]
  | long (K : Nat) (h : q.kind = 2) (hK : DatR (spcQ base q) K) (hl : 1200 ≤ K) : CutR base q 81 []
  | swap (K : Nat) (h : q.kind = 2) (hK : DatR (spcQ base q) K) (hl : K < 1200) : CutR base q 0 (datL (spcQ base q) (cutN (spcQ base q) K))
structure OkQ (base : Int) (q : Quo) : Prop where
  kd : q.kind = 1 ∧ q.n = 0 ∨ q.kind = 2 ∧ 1 ≤ q.n ∧ q.n ≤ 120
  fn : finB (dblW q.rate : Nat) = true
  c1 : 1 ≤ q.count
  c6 : q.count ≤ 6
  b0 : 0 ≤ base
  lt : base < q.fin
  hi : q.fin ≤ 109572
theorem badQ_no {q : Quo} (h : badQ q = false) : (q.kind = 1 ∧ q.n = 0 ∨ q.kind = 2 ∧ 1 ≤ q.n ∧ q.n ≤ 120) ∧ finB (dblW q.rate : Nat) = true := by
  unfold badQ at h
  simp only [Bool.or_eq_false_iff, Bool.and_eq_false_iff, Bool.not_eq_false', decide_eq_false_iff_not, Decidable.not_not] at h
  obtain ⟨⟨⟨h1, h2⟩, h3⟩, h4⟩ := h
  refine ⟨?_, h4⟩
  rcases h1 with h1 | h1
  · exact Or.inl ⟨h1, h2.resolve_left (fun c => c h1)⟩
  · have := h3.resolve_left (fun c => c h1)
    exact Or.inr ⟨h1, by omega, by omega⟩
theorem fitQ_ok {base last : Int} {q : Quo} (h : fitQ q last = 0) (b0 : 0 ≤ base) (hl : base ≤ last) : OkQ base q := by
  unfold fitQ at h
  cases hb : badQ q with
  | true => rw [hb, if_pos rfl] at h; omega
  | false =>
    rw [hb, if_neg (by simp)] at h
    obtain ⟨h1, h2⟩ := badQ_no hb
    by_cases c : q.count < 1 ∨ 6 < q.count
    · rw [if_pos c] at h; omega
    · rw [if_neg c] at h
      by_cases d : q.fin ≤ last ∨ 109572 < q.fin
      · rw [if_pos d] at h; omega
      · exact ⟨h1, h2, by omega, by omega, b0, by omega, by omega⟩
theorem okQ_fit {base : Int} {q : Quo} (h : OkQ base q) : fitQ q base = 0 := by
  have hb : badQ q = false := by
    unfold badQ
    simp only [Bool.or_eq_false_iff, Bool.and_eq_false_iff, Bool.not_eq_false', decide_eq_false_iff_not, Decidable.not_not]
    have := h.fn
    refine ⟨⟨⟨?_, ?_⟩, ?_⟩, this⟩ <;> rcases h.kd with ⟨a, b⟩ | ⟨a, b, c⟩ <;> omega
  unfold fitQ
  have := h.c1; have := h.c6; have := h.lt; have := h.hi
  rw [hb, if_neg (by simp), if_neg (by omega), if_neg (by omega)]
theorem okQ_spc {base : Int} {q : Quo} (h : OkQ base q) (hk : q.kind = 2) : SpcOk (spcQ base q) := by
  have := h.b0; have := h.lt; have := h.hi
  have hn : 1 ≤ q.n ∧ q.n ≤ 120 := by rcases h.kd with ⟨a, b⟩ | ⟨a, b, c⟩ <;> omega
  unfold spcQ
  constructor <;> (try unfold isDayP) <;> dsimp only <;> omega
theorem cutR_ex {base : Int} {q : Quo} (h : OkQ base q) : ∃ E L, CutR base q E L := by
  rcases h.kd with ⟨a, _⟩ | ⟨a, _⟩
  · exact ⟨_, _, .dep a⟩
  · obtain ⟨K, hK⟩ := dat_ex (okQ_spc h a)
    by_cases hl : K < 1200
    · exact ⟨_, _, .swap K a hK hl⟩
    · exact ⟨_, _, .long K a hK (by omega)⟩
structure CutF (base : Int) (q : Quo) (n : Nat) (L : List Int) : Prop where
  len : L.length = n + 1
  lo : 1 ≤ n
  hi : n ≤ 1201
  fst : L.getD 0 0 = base
  lst : L.getD n 0 = q.fin
  up : ∀ i < n, L.getD i 0 < L.getD (i + 1) 0
  day : ∀ i ≤ n, isDayP (L.getD i 0)
theorem cutR_ok {base : Int} {q : Quo} {L : List Int} (h : OkQ base q) (hc : CutR base q 0 L) : ∃ n, CutF base q n L := by
  have h0 := h.b0; have h1 := h.lt; have h2 := h.hi
  generalize hz : (0 : Int) = z at hc
  cases hc with
  | dep hk =>
    refine ⟨1, rfl, by omega, by omega, rfl, rfl, fun i hi => ?_, fun i hi => ?_⟩
    · obtain rfl : i = 0 := by omega
      exact h1
    · rcases (show i = 0 ∨ i = 1 by omega) with rfl | rfl
      · show isDayP base; unfold isDayP; omega
      · show isDayP q.fin; unfold isDayP; omega
  | long K hk hK hl => omega
  | swap K hk hK hl =>
    have ok := okQ_spc h hk
    have hC := cut_le (spcQ base q) K
    refine ⟨cutN (spcQ base q) K + 1, dat_len _ _, by omega, by omega, rfl, dat_last _ _, fun i hi => dat_lt ok hK hC hi, fun i hi => dat_day ok hK hC (by omega)⟩
theorem CutF.le {base : Int} {q : Quo} {n : Nat} {L : List Int} (h : CutF base q n L) : ∀ d i, i + d ≤ n → L.getD i 0 ≤ L.getD (i + d) 0
  | 0, i, _ => Int.le_refl _
  | d + 1, i, hi => by
    have := h.le d i (by omega)
    have := h.up (i + d) (by omega)
    rw [show i + (d + 1) = i + d + 1 by omega]; omega
theorem CutF.in_ {base : Int} {q : Quo} {n i : Nat} {L : List Int} (h : CutF base q n L) (hi : i ≤ n) : base ≤ L.getD i 0 ∧ L.getD i 0 ≤ q.fin := by
  have a := h.le i 0 (by omega)
  have b := h.le (n - i) i (by omega)
  rw [Nat.zero_add, h.fst] at a
  rw [show i + (n - i) = n by omega, h.lst] at b
  exact ⟨a, b⟩
noncomputable def yeaV (W : Int) (rs : List Rul) (q : Quo) (a b : Int) : Nat := yW (fracS (opB W rs) q.count a b) (fracQ q.count)
theorem yea_frac {base W a b : Int} {rs : List Rul} {q : Quo} (h : OkQ base q) (hC : OkC W rs) (ha : isDayP a) (hb : isDayP b) : FracR q.count W a b rs (fracS (opB W rs) q.count a b) (fracQ q.count) 0 := .fine h.c1 h.c6 ha hb (fun _ => hC)
theorem yea_num (W : Int) (rs : List Rul) (q : Quo) {a b : Int} (ha : isDayP a) (hb : isDayP b) : yeaV W rs q a b < 18446744073709551616 ∧ yeaV W rs q a b % 9223372036854775808 < 9218868437227405312 := by
  obtain ⟨h1, h2⟩ := fracS_bd (opB W rs) (kind := q.count) ha hb
  unfold yeaV
  refine ⟨yW_lt h1 h2, ?_⟩
  unfold yW
  split
  · decide
  · have := yearR_fin (X := (fracS (opB W rs) q.count a b).natAbs) (Y := (fracQ q.count).natAbs) (by omega)
    rw [wrd_size _ (by omega)]; exact this
noncomputable def amtV (W : Int) (rs : List Rul) (q : Quo) (a b : Int) : Nat := mulR (sB (dblW q.rate) ^^ sB (yeaV W rs q a b)) (aV (dblW q.rate) * aV (yeaV W rs q a b))
theorem finB_size {u : Nat} (h : finB (u : Nat) = true) : u % 9223372036854775808 < 9218868437227405312 := by
  unfold finB szI at h
  have := of_decide_eq_true h
  omega
theorem amt_is (W : Int) (rs : List Rul) {q : Quo} {a b : Int} (hq : finB (dblW q.rate : Nat) = true) (ha : isDayP a) (hb : isDayP b) : floatBits .mul .f64 (dblW q.rate) (yeaV W rs q a b) = some (amtV W rs q a b) := mul_num (finB_size hq) (yea_num W rs q ha hb).2
noncomputable def intF (W : Int) (rs : List Rul) (q : Quo) (L : List Int) (j : Nat) : Itr := ⟨L.getD (j + 1) 0, amtV W rs q (L.getD j 0) (L.getD (j + 1) 0)⟩
noncomputable def intL (W : Int) (rs : List Rul) (q : Quo) (L : List Int) (n : Nat) : List Itr := (List.range n).map (intF W rs q L)
theorem intL_len (W : Int) (rs : List Rul) (q : Quo) (L : List Int) (n : Nat) : (intL W rs q L n).length = n := by unfold intL; simp
theorem intL_succ (W : Int) (rs : List Rul) (q : Quo) (L : List Int) (n : Nat) : intL W rs q L (n + 1) = intL W rs q L n ++ [intF W rs q L n] := by
  unfold intL; rw [List.range_succ, List.map_append]; rfl
theorem intL_at (W : Int) (rs : List Rul) (q : Quo) (L : List Int) {n j : Nat} (h : j < n) : (intL W rs q L n).getD j itr0 = intF W rs q L j := by
  unfold intL; simp [List.getD, h]
end Go.Proofs.YtphnainibdepbaaGreat
namespace Go.Proofs.YtphnainibdepbaaGreat
open Go.RowKit

def slB (a b : Nat) : Nat := if (ltB 0 (a : Nat) && ltB 0 (b : Nat)) || (ltB (a : Nat) 0 && ltB (b : Nat) 0) then sDiv 4611686018427387904 (sAdd (sDiv 4607182418800017408 a) (sDiv 4607182418800017408 b)) else 0
def slopP (xs : List Int) (ys : List Nat) : Nat → List Nat
  | 0 => [steepB xs ys 0]
  | k + 1 => slopP xs ys k ++ [slB (steepB xs ys k) (steepB xs ys (k + 1))]
def slopL (xs : List Int) (ys : List Nat) (n : Nat) : List Nat := if n = 1 then [0] else slopP xs ys (n - 2) ++ [steepB xs ys (n - 2)]
theorem slopP_len (xs : List Int) (ys : List Nat) : ∀ k, (slopP xs ys k).length = k + 1
  | 0 => rfl
  | k + 1 => by show (slopP xs ys k ++ [_]).length = _; rw [List.length_append, slopP_len xs ys k]; rfl
theorem slopP_next (xs : List Int) (ys : List Nat) (k : Nat) : slopP xs ys (k + 1) = slopP xs ys k ++ [slB (steepB xs ys k) (steepB xs ys (k + 1))] := rfl
inductive SlO (a b : Nat) : Nat → Prop
  | up (h1 : ltB 0 (a : Nat) = true) (h2 : ltB 0 (b : Nat) = true) : SlO a b (sDiv 4611686018427387904 (sAdd (sDiv 4607182418800017408 a) (sDiv 4607182418800017408 b)))
  | down1 (h1 : ltB 0 (a : Nat) = false) (h3 : ltB (a : Nat) 0 = true) (h4 : ltB (b : Nat) 0 = true) : SlO a b (sDiv 4611686018427387904 (sAdd (sDiv 4607182418800017408 a) (sDiv 4607182418800017408 b)))
  | flat1 (h1 : ltB 0 (a : Nat) = false) (h3 : ltB (a : Nat) 0 = true) (h4 : ltB (b : Nat) 0 = false) : SlO a b 0
  | flat2 (h1 : ltB 0 (a : Nat) = false) (h3 : ltB (a : Nat) 0 = false) : SlO a b 0
  | flat3 (h1 : ltB 0 (a : Nat) = true) (h2 : ltB 0 (b : Nat) = false) (h3 : ltB (a : Nat) 0 = false) : SlO a b 0
theorem ltB_asym {u v : Int} (h : ltB u v = true) : ltB v u = false := by
  unfold ltB at h ⊢
  simp only [Bool.and_eq_true, Bool.not_eq_true', decide_eq_true_eq] at h
  rw [h.1.1, h.1.2]
  simp
  omega
theorem slO_of (a b : Nat) : SlO a b (slB a b) := by
  unfold slB
  cases h1 : ltB 0 (a : Nat)
  · cases h3 : ltB (a : Nat) 0
    · simp; exact .flat2 h1 h3
    · cases h4 : ltB (b : Nat) 0
      · simp; exact .flat1 h1 h3 h4
      · simp; exact .down1 h1 h3 h4
  · have h3 := ltB_asym h1
    cases h2 : ltB 0 (b : Nat)
    · rw [h3]; simp; exact .flat3 h1 h2 h3
    · simp; exact .up h1 h2
end Go.Proofs.YtphnainibdepbaaGreat
namespace Go.Proofs.YtphnainibdepbaaGreat
open Go.RowKit

def heldN (v a b : Nat) : Nat := (heldB (v : Nat) (a : Nat) (b : Nat)).toNat
theorem heldN_cast {v a b : Nat} (hv : v < 18446744073709551616) (ha : a < 18446744073709551616) (hb : b < 18446744073709551616) : ((heldN v a b : Nat) : Int) = heldB (v : Nat) (a : Nat) (b : Nat) := by
  have := (held_u64 (u64N hv) (u64N ha) (u64N hb)).1
  unfold heldN; omega
theorem heldN_lt {v a b : Nat} (hv : v < 18446744073709551616) (ha : a < 18446744073709551616) (hb : b < 18446744073709551616) : heldN v a b < 18446744073709551616 := by
  have := held_u64 (u64N hv) (u64N ha) (u64N hb)
  have e := heldN_cast hv ha hb
  have := this.2
  omega
def ptP (h d a b : Nat) : Nat := heldN (sAdd a (sDiv (sMul d h) (fi 3))) a b
def ptQ (h d b p : Nat) : Nat := heldN (sSub b (sDiv (sMul d h) (fi 3))) p b
structure PRd (w : World) (B : Nat) (vx vy : Value) (bx ox b2 oy bd k : Nat) (x0 x1 : Int) (y0 y1 d0 d1 : Nat) : Prop where
  t1 : w.cell? ⟨B, 1, none⟩ = some vx
  t2 : w.cell? ⟨B, 2, none⟩ = some vy
  a0 : w.cell? ⟨bx, ox + k, none⟩ = some (.int .i64 x0)
  a1 : w.cell? ⟨bx, ox + (k + 1), none⟩ = some (.int .i64 x1)
  b0 : w.cell? ⟨b2, oy + k, none⟩ = some (.int .u64 (y0 : Int))
  b1 : w.cell? ⟨b2, oy + (k + 1), none⟩ = some (.int .u64 (y1 : Int))
  e0 : w.cell? ⟨bd, k, none⟩ = some (.int .u64 (d0 : Int))
  e1 : w.cell? ⟨bd, k + 1, none⟩ = some (.int .u64 (d1 : Int))
  lB : B < w.heap.size
  lx : bx < w.heap.size
  ly : b2 < w.heap.size
  ld : bd < w.heap.size
theorem PRd.step {w w' : World} {B : Nat} {vx vy : Value} {bx ox b2 oy bd k : Nat} {x0 x1 : Int} {y0 y1 d0 d1 : Nat} (h : PRd w B vx vy bx ox b2 oy bd k x0 x1 y0 y1 d0 d1) (hb : Below w.heap.size w w') : PRd w' B vx vy bx ox b2 oy bd k x0 x1 y0 y1 d0 d1 :=
  ⟨(hb.cell (p := ⟨B, 1, none⟩) h.lB).trans h.t1, (hb.cell (p := ⟨B, 2, none⟩) h.lB).trans h.t2, (hb.cell (p := ⟨bx, ox + k, none⟩) h.lx).trans h.a0, (hb.cell (p := ⟨bx, ox + (k + 1), none⟩) h.lx).trans h.a1, (hb.cell (p := ⟨b2, oy + k, none⟩) h.ly).trans h.b0, (hb.cell (p := ⟨b2, oy + (k + 1), none⟩) h.ly).trans h.b1, (hb.cell (p := ⟨bd, k, none⟩) h.ld).trans h.e0, (hb.cell (p := ⟨bd, k + 1, none⟩) h.ld).trans h.e1, Nat.lt_of_lt_of_le h.lB hb.size, Nat.lt_of_lt_of_le h.lx hb.size, Nat.lt_of_lt_of_le h.ly hb.size, Nat.lt_of_lt_of_le h.ld hb.size⟩
def ptL (xs : List Int) (ys : List Nat) (k : Nat) : List Nat :=
  [ys.getD k 0, ptP (fi (xs.getD (k + 1) 0 - xs.getD k 0)) ((slopL xs ys xs.length).getD k 0) (ys.getD k 0) (ys.getD (k + 1) 0), ptQ (fi (xs.getD (k + 1) 0 - xs.getD k 0)) ((slopL xs ys xs.length).getD (k + 1) 0) (ys.getD (k + 1) 0) (ptP (fi (xs.getD (k + 1) 0 - xs.getD k 0)) ((slopL xs ys xs.length).getD k 0) (ys.getD k 0) (ys.getD (k + 1) 0)), ys.getD (k + 1) 0]
end Go.Proofs.YtphnainibdepbaaGreat
