/- The contract of Horner: steps from the right, each rounded. The contract of the document's Held. Steps of floats over what may be a NaN. The contracts of expTerms and lnTerms: new rows of fixed floats. The contracts of whole and Pow where every product is exact; of Pow at 0 and 1. The contract of math.Floor, of numbers below 2^52. How far a sum and a product lie from what they are rounded from; Exp's rest is small. Sums and products against a grid; the rest that Exp's polynomial is asked at is at most a half. The contracts of logs and Exp, step by step. The steps of Exp between its bounds: each is a number, and the rest is at most a half. -/
import Derived.Test.YtnmjljijgmmakabGreatHaj
import Derived.Test.YtnmjljijgmmakabGreatHai
import Derived.Deep.OwnRows
import Derived.Test.YtnmjljijgmmakabGreatHag
import Derived.Test.YtnmjljijgmmakabGreatHah
namespace Go.Proofs.YtnmjljijgmmakabGreat
open Go.RowKit

/-- The NaN that the tape gives. -/
def nanAns (x y : Nat) (w : World) : Nat := (Question.nanBits .f64 x y).cut (w.tape w.drawn (.nanBits .f64 x y))
theorem nanAns_nan (x y : Nat) (w : World) : nanB (nanAns x y w) = true ∧ nanAns x y w < 18446744073709551616 := by
  unfold nanAns
  generalize w.tape w.drawn (.nanBits .f64 x y) = t
  show nanB (((t % 2) * 2 ^ 63 + 0x7ff0000000000000 + 1 + (t / 2) % (2 ^ 52 - 1) : Nat) : Int) = true ∧ ((t % 2) * 2 ^ 63 + 0x7ff0000000000000 + 1 + (t / 2) % (2 ^ 52 - 1) : Nat) < _
  have h1 : t % 2 < 2 := Nat.mod_lt _ (by decide)
  have h2 : (t / 2) % (2 ^ 52 - 1) < 2 ^ 52 - 1 := Nat.mod_lt _ (by decide)
  generalize t % 2 = a at *
  generalize (t / 2) % (2 ^ 52 - 1) = b at *
  unfold nanB szI
  refine ⟨?_, by omega⟩
  rw [decide_eq_true_eq]; omega
theorem run_arith_nan {P : Program} (op : BinOp) (ho : op = .add ∨ op = .sub ∨ op = .mul ∨ op = .quo) (t : TypeId) (x y : Nat) (h : floatBits op .f64 x y = none) (w : World) : (binOp op t (.float .f64 x) (.float .f64 y)).run P w = .ok (.float .f64 (nanAns x y w)) w.drew := by
  rcases ho with rfl | rfl | rfl | rfl <;> unfold floatBits at h <;> simp only at h <;> simp [binOp, Op.floatArith, h, Question.forced, nanAns]
theorem nan_left {op : BinOp} {x y : Nat} (h : nanB x = true) : floatBits op .f64 x y = none := by
  obtain ⟨f, e⟩ := read_nan (nan_true h)
  unfold floatBits
  cases op <;> dsimp only <;> first | rfl | skip
  · show ((Ieee.double.read x).sum (Ieee.double.read y)).map Ieee.double.write = _; rw [e]; rfl
  · show ((Ieee.double.read x).sum (Ieee.double.read y).opposite).map Ieee.double.write = _; rw [e]; rfl
  · show ((Ieee.double.read x).product (Ieee.double.read y)).map Ieee.double.write = _; rw [e]; rfl
  · show ((Ieee.double.read x).quotient 54 (Ieee.double.read y)).map Ieee.double.write = _; rw [e]; rfl
theorem nan_right {op : BinOp} {x y : Nat} (h : nanB y = true) : floatBits op .f64 x y = none := by
  obtain ⟨f, e⟩ := read_nan (nan_true h)
  unfold floatBits
  cases op <;> dsimp only <;> first | rfl | skip
  · show ((Ieee.double.read x).sum (Ieee.double.read y)).map Ieee.double.write = _; rw [e]; cases Ieee.double.read x <;> rfl
  · show ((Ieee.double.read x).sum (Ieee.double.read y).opposite).map Ieee.double.write = _; rw [e]; cases Ieee.double.read x <;> rfl
  · show ((Ieee.double.read x).product (Ieee.double.read y)).map Ieee.double.write = _; rw [e]; cases Ieee.double.read x <;> rfl
  · show ((Ieee.double.read x).quotient 54 (Ieee.double.read y)).map Ieee.double.write = _; rw [e]; cases Ieee.double.read x <;> rfl

/-- Bits that are what is told; where nothing is told, a NaN. -/
def Ag (o : Option Nat) (b : Nat) : Prop := match o with | some r => b = r | none => nanB b = true ∧ b < 18446744073709551616
theorem ag_some {r b : Nat} (h : Ag (some r) b) : b = r := h
theorem ag_none {b : Nat} (h : Ag none b) : nanB b = true ∧ b < 18446744073709551616 := h
def stepO (x : Nat) (p : Option Nat) (c : Nat) : Option Nat := (p.bind fun p => floatBits .mul .f64 p x).bind fun q => floatBits .add .f64 q c
def hornAt (cs : List Nat) (x : Nat) : Nat → Option Nat
  | 0 => some (cs.getD (cs.length - 1) 0)
  | i + 1 => stepO x (hornAt cs x i) (cs.getD (cs.length - 2 - i) 0)
def hornO (cs : List Nat) (x : Nat) : Option Nat := if cs.length = 0 then some 0 else hornAt cs x (cs.length - 1)

theorem bind_ag {o : Option Nat} {a : Nat} (h : Ag o a) (op : BinOp) (x : Nat) : (o.bind fun p => floatBits op .f64 p x) = floatBits op .f64 a x := by
  cases o with
  | some r => rw [ag_some h]; rfl
  | none => rw [nan_left (ag_none h).1]; rfl
theorem stepO_ag {o : Option Nat} {a : Nat} (h : Ag o a) (x y : Nat) : stepO x o y = (floatBits .mul .f64 a x).bind fun q => floatBits .add .f64 q y := by
  unfold stepO; rw [bind_ag h]
theorem drew_one {w wr : World} (h : ∃ q, wr = w.drewN q) : ∃ q, wr.drew = w.drewN q := by
  obtain ⟨q, e⟩ := h; exact ⟨q + 1, by rw [e]; rfl⟩

set_option maxHeartbeats 800000 in
theorem horner_any (p : Option Addr) (g off c x n : Nat) (cs : List Nat) (w : World) (hs : Src w p g off cs) (hN : cs.length = n) (hn : n ≤ 1000000) :
    Calls Tryz.prog 108 #[.slice p n c, .float .f64 x] w fun e w' => ∃ r, e = .returned (.float .f64 r) ∧ Ag (hornO cs x) r ∧ ∃ q, w' = w.drewN q := by
  have HS := hideS hs
  have HN := hideS hN
  by_cases h0 : n = 0
  · subst h0
    have HR : Hid (hornO cs x = some 0) := by show _ = _; unfold hornO; rw [if_pos hN]
    clear hs hN HS HN
    go_enter Tryz.func108, Tryz.ntmps108
    go_wp2
    go_ret
    exact ⟨_, rfl, by rw [HR.out]; rfl, 0, rfl⟩
  obtain ⟨m, rfl⟩ : ∃ m, n = m + 1 := ⟨n - 1, by omega⟩
  obtain rfl := hs.at_ (by omega)
  have hc0 := hs.cell m (by omega)
  have HR : Hid (hornO cs x = hornAt cs x m) := by show _ = _; unfold hornO; rw [if_neg (by omega), hN]; rfl
  have HA0 : Hid (hornAt cs x 0 = some (cs.getD m 0)) := by show _ = _; unfold hornAt; rw [hN]; rfl
  have HA1 : Hid (∀ i, hornAt cs x (i + 1) = stepO x (hornAt cs x i) (cs.getD (m - 1 - i) 0)) := fun i => by
    show stepO x (hornAt cs x i) (cs.getD (cs.length - 2 - i) 0) = _
    rw [hN]; rfl
  generalize cs.getD m 0 = p0 at hc0 HA0
  clear hs hN h0
  go_enter Tryz.func108, Tryz.ntmps108
  go_wp2_with fail
  go_loopw [6, 19] (fun s i wr => ∃ k a : Nat, k ≤ m ∧ i = .int .i64 k ∧ s = .float .f64 a ∧ Hid (Ag (hornAt cs x k) a) ∧ Hid (∃ q, wr = w.drewN q)) (fun _ i _ => m - (intOf i).toNat)
  case atStart => exact ⟨0, p0, Nat.zero_le _, rfl, rfl, by rw [HA0.out]; rfl, ⟨0, rfl⟩⟩
  case round =>
    obtain ⟨k, a, hk, rfl, rfl, HA, HQ⟩ := hrel
    by_cases hlt : k < m
    · have hcx : wr.cell? ⟨g, off + (m - 1 - k), none⟩ = some (.float .f64 (cs.getD (m - 1 - k) 0)) := by
        obtain ⟨q, e⟩ := HQ.out
        rw [e]; exact HS.out.cell (m - 1 - k) (by rw [HN.out]; omega)
      have HA2 := hideS (HA1.out k)
      obtain ⟨j, hj⟩ : ∃ j : Nat, m - 1 - k = j := ⟨_, rfl⟩
      have hj2 : (m : Int) - 1 - k = j := by omega
      rw [hj] at hcx HA2
      clear hj
      generalize cs.getD j 0 = y at hcx HA2
      rw [stepO_ag HA.out] at HA2
      clear HA HA1 HA0
      cases hq : floatBits .mul .f64 a x with
      | some q =>
        have r1 := fun w => run_float_arith (P := Tryz.prog) w .mul 31 .f64 a x q hq
        cases hr : floatBits .add .f64 q y with
        | some r =>
          have r2 := fun w => run_float_arith (P := Tryz.prog) w .add 31 .f64 q y r hr
          have HE : Hid (Ag (hornAt cs x (k + 1)) r) := by rw [HA2.out, hq]; show Ag (floatBits .add .f64 q y) r; rw [hr]; rfl
          clear hq hr HA2
          go_wp2
          go_roundw
          case rel => exact ⟨k + 1, r, by omega, by simp, rfl, HE, HQ⟩
          case measure => simp [intOf]; omega
        | none =>
          have r2 := run_arith_nan (P := Tryz.prog) .add (by simp) 31 q y hr
          have HE : Hid (∀ z, Ag (hornAt cs x (k + 1)) (nanAns q y z)) := fun z => by rw [HA2.out, hq]; show Ag (floatBits .add .f64 q y) _; rw [hr]; exact nanAns_nan q y z
          clear hq hr HA2
          go_wp2
          go_roundw
          case rel => exact ⟨k + 1, _, by omega, by simp, rfl, HE.out _, drew_one HQ.out⟩
          case measure => simp [intOf]; omega
      | none =>
        have r1 := run_arith_nan (P := Tryz.prog) .mul (by simp) 31 a x hq
        have r2 := fun z => run_arith_nan (P := Tryz.prog) .add (by simp) 31 (nanAns a x z) y (nan_left (nanAns_nan a x z).1)
        have HE : Hid (∀ z z', Ag (hornAt cs x (k + 1)) (nanAns (nanAns a x z) y z')) := fun z z' => by rw [HA2.out, hq]; exact nanAns_nan _ y z'
        clear hq HA2
        go_wp2
        go_roundw
        case rel => exact ⟨k + 1, _, by omega, by simp, rfl, HE.out _ _, drew_one (drew_one HQ.out)⟩
        case measure => simp [intOf]; omega
    · obtain rfl : k = m := by omega
      go_wp2
      go_ret
      exact ⟨_, rfl, by rw [HR.out]; exact HA.out, HQ.out⟩
end Go.Proofs.YtnmjljijgmmakabGreat
namespace Go.Proofs.YtnmjljijgmmakabGreat
open Go.RowKit

/-- v held between a and b. -/
def heldB (v a b : Int) : Int :=
  if ltB b a then (if ltB v b then b else if ltB a v then a else v)
  else if ltB a b then (if ltB v a then a else if ltB b v then b else v)
  else (if ltB v a then a else if ltB a v then a else v)
set_option maxHeartbeats 1600000 in
theorem held_any (v a b : Int) (w : World) (hv : U64 v) (ha : U64 a) (hb : U64 b) :
    Calls Tryz.prog 27 #[.int .u64 v, .int .u64 a, .int .u64 b] w fun e w' => e = .returned (.int .u64 (heldB v a b)) ∧ w' = w := by
  have HL := hideS fun (x y : Int) (wx : World) (hx : U64 x) (hy : U64 y) => refLt_any x y wx hx hy
  unfold heldB
  cases h1 : ltB b a
  · cases h2 : ltB a b
    · cases h3 : ltB v a <;> cases h4 : ltB a v
      all_goals
        go_enter Tryz.func27, Tryz.ntmps27
        go_wp2_with (go_at_call 23; refine (HL.out _ _ _ (by assumption) (by assumption)).mono ?_; rintro e w' ⟨rfl, rfl⟩)
        go_ret
        exact ⟨rfl, rfl⟩
    · cases h3 : ltB v a <;> cases h4 : ltB b v
      all_goals
        go_enter Tryz.func27, Tryz.ntmps27
        go_wp2_with (go_at_call 23; refine (HL.out _ _ _ (by assumption) (by assumption)).mono ?_; rintro e w' ⟨rfl, rfl⟩)
        go_ret
        exact ⟨rfl, rfl⟩
  · cases h3 : ltB v b <;> cases h4 : ltB a v
    all_goals
      go_enter Tryz.func27, Tryz.ntmps27
      go_wp2_with (go_at_call 23; refine (HL.out _ _ _ (by assumption) (by assumption)).mono ?_; rintro e w' ⟨rfl, rfl⟩)
      go_ret
      exact ⟨rfl, rfl⟩
theorem held_u64 {v a b : Int} (hv : U64 v) (ha : U64 a) (hb : U64 b) : U64 (heldB v a b) := by
  unfold heldB
  (repeat' split) <;> assumption
theorem ltB_iff {u v : Int} (hu : nanB u = false) (hv : nanB v = false) : ltB u v = decide (rankI u < rankI v) := by
  unfold ltB
  rw [hu, hv]; simp
/-- Nothing held falls out of the two. -/
theorem held_up {v a b : Int} (hv : nanB v = false) (ha : nanB a = false) (hb : nanB b = false) (h : rankI a ≤ rankI b) : nanB (heldB v a b) = false ∧ rankI a ≤ rankI (heldB v a b) ∧ rankI (heldB v a b) ≤ rankI b := by
  unfold heldB
  rw [ltB_iff hb ha, ltB_iff hv hb, ltB_iff ha hv, ltB_iff ha hb, ltB_iff hv ha, ltB_iff hb hv]
  simp only [decide_eq_true_eq]
  rw [if_neg (by omega)]
  (repeat' split) <;> exact ⟨by assumption, by omega, by omega⟩
theorem held_down {v a b : Int} (hv : nanB v = false) (ha : nanB a = false) (hb : nanB b = false) (h : rankI b ≤ rankI a) : nanB (heldB v a b) = false ∧ rankI b ≤ rankI (heldB v a b) ∧ rankI (heldB v a b) ≤ rankI a := by
  unfold heldB
  rw [ltB_iff hb ha, ltB_iff hv hb, ltB_iff ha hv, ltB_iff ha hb, ltB_iff hv ha, ltB_iff hb hv]
  simp only [decide_eq_true_eq]
  (repeat' split) <;> exact ⟨by assumption, by omega, by omega⟩
end Go.Proofs.YtnmjljijgmmakabGreat
namespace Go.Proofs.YtnmjljijgmmakabGreat
open Go.RowKit

def opO (op : BinOp) (a b : Option Nat) : Option Nat := a.bind fun a => b.bind fun b => floatBits op .f64 a b
theorem opO_ag {op : BinOp} {o o' : Option Nat} {a c : Nat} (h : Ag o a) (h' : Ag o' c) : opO op o o' = floatBits op .f64 a c := by
  unfold opO
  cases o with
  | none => rw [nan_left (ag_none h).1]; rfl
  | some r =>
    rw [ag_some h]
    cases o' with
    | none => rw [nan_right (ag_none h').1]; rfl
    | some r' => rw [ag_some h']; rfl
theorem run_op_ag (op : BinOp) (ho : op = .add ∨ op = .sub ∨ op = .mul ∨ op = .quo) (t : TypeId) (a c : Nat) (w : World) : ∃ r, (∃ q, (binOp op t (.float .f64 a) (.float .f64 c)).run Tryz.prog w = .ok (.float .f64 r) (w.drewN q)) ∧ Ag (floatBits op .f64 a c) r := by
  cases h : floatBits op .f64 a c with
  | some r => exact ⟨r, ⟨0, run_float_arith (P := Tryz.prog) w op t .f64 a c r h⟩, rfl⟩
  | none => exact ⟨_, ⟨1, run_arith_nan (P := Tryz.prog) op ho t a c h w⟩, nanAns_nan a c w⟩
end Go.Proofs.YtnmjljijgmmakabGreat
namespace Go.Proofs.YtnmjljijgmmakabGreat
open Go.RowKit

theorem floatOf_fi (m : Int) : floatOfInt .f64 m = fi m := by
  show Ieee.double.nearest (decide (m < 0)) m.natAbs 0 = _
  unfold fi joinN
  by_cases h0 : m = 0
  · subst h0; rfl
  · rw [if_neg h0, nearest_eq _ (by omega)]
    by_cases hn : m < 0
    · simp only [hn, decide_true, if_true]; rw [word_true]
    · simp only [hn, decide_false, if_false]; rw [word_false]
theorem store_f64 (P : Program) (w : World) (a : Addr) (x : Nat) (z : Value) (h : w.cell? a = some z) (hf : w.frozen? a = false) : (store a (.float .f64 x)).run P w = .ok () (w.setCell a (.float .f64 x)) := by
  rw [run_store P w a _ _ rfl, h]; simp [hf]
theorem info_f64 : (Tryz.prog.info? 31).map (fun i => (i.zero, i.size, i.bytes)) = some (some (.float .f64 0), 1, 8) := by kernel_rfl

def expL : List Nat := [4607182418800017408, 4607182418800017408, 4602678819172646912, 4595172819793696085, 4586165620538955093, 4575957461383581969, 4564047942368979991, 4551452160554016794, 4537941361671905306, 4523617214285662004, 4508805057796939612, 4493156764026750180, 4477122120089393304, 4460272573143870729]
def lnL : List Nat := [4607182418800017408, 4599676419421066581, 4596373779694328218, 4594314991293244562, 4592670820000712476, 4591215111030249286, 4590207312512236308, 4589468260265693457, 4588638185040256542, 4587745830934523688, 4587023449039406616]
/-- The product ahead of round k. -/
def facN : Nat → Nat
  | 0 => 1
  | k + 1 => facN k * max k 1
theorem exp_row : ∀ k, k < 14 → floatBits .quo .f64 4607182418800017408 (fi (facN (k + 1) : Int)) = some (expL.getD k 0) := by decide +kernel
theorem ln_row : ∀ k, k < 11 → floatBits .quo .f64 4607182418800017408 (fi ((2 * k + 1 : Nat) : Int)) = some (lnL.getD k 0) := by decide +kernel
theorem fac_bd : ∀ k, k < 15 → 1 ≤ facN k ∧ facN k ≤ 6227020800 := by decide +kernel

/-- A new row, filled up to j. -/
def HalfF (w : World) (b n : Nat) (l : List Nat) (j : Nat) : Prop := w.rowIs b 31 n (fun i => .float .f64 (if i < j then l.getD i 0 else 0))
theorem halfF_made (w : World) (n : Nat) (l : List Nat) : HalfF (w.alloc (.cells (madeCells #[.float .f64 0] n) 31)) w.heap.size n l 0 :=
  (World.rowIs_made w (.float .f64 0) n 31).congr (fun i _ => by rw [if_neg (by omega)])
theorem halfF_step {w : World} {b n j x : Nat} {l : List Nat} (h : HalfF w b n l j) (hx : x = l.getD j 0) : HalfF (w.setCell ⟨b, j, none⟩ (.float .f64 x)) b n l (j + 1) := by
  refine (h.set j (.float .f64 x)).congr fun i _ => ?_
  by_cases c : i = j
  · rw [if_pos c, if_pos (by omega), hx, c]
  · rw [if_neg c]
    by_cases d : i < j
    · rw [if_pos d, if_pos (by omega)]
    · rw [if_neg d, if_neg (by omega)]
theorem halfF_src {w : World} {b n : Nat} {l : List Nat} (h : HalfF w b n l n) (hn : l.length = n) : Src w (some ⟨b, 0, none⟩) b 0 l :=
  ⟨fun _ => rfl, fun _ => h.lt, fun j hj => by
    rw [Nat.zero_add]
    have := h.cell (i := j) (by omega)
    rw [if_pos (by omega)] at this; exact this⟩

set_option maxHeartbeats 800000 in
theorem expTerms_any (w : World) :
    Calls Tryz.prog 109 #[] w fun e w' => e = .returned (.slice (some ⟨w.heap.size, 0, none⟩) 14 14) ∧ Src w' (some ⟨w.heap.size, 0, none⟩) w.heap.size 0 expL ∧ Below w.heap.size w w' := by
  have hmk := fun w => run_make_row' (P := Tryz.prog) 23 31 (.float .f64 0) 8 Tryz.underlying23 info_f64 rfl .i64 .i64 14 (by omega) (by omega) w
  rw [show ((14 : Nat) : Int) = 14 from rfl] at hmk
  have HO := hideS (halfF_made w 14 expL)
  go_enter Tryz.func109, Tryz.ntmps109
  go_wp2_with fail
  go_loopw [2, 5] (fun s i wr => ∃ k f : Nat, k ≤ 14 ∧ i = .int .i64 k ∧ s = .int .i64 f ∧ Hid (f = facN k) ∧ Hid (HalfF wr w.heap.size 14 expL k) ∧ Hid (Below w.heap.size w wr)) (fun _ i _ => 14 - (intOf i).toNat)
  case atStart => exact ⟨0, 1, Nat.zero_le _, rfl, rfl, rfl, HO, (Below.refl _ _).alloc (Nat.le_refl _) _⟩
  case round =>
    clear HO hmk
    obtain ⟨k, f, hk, rfl, rfl, HF, HH, HB⟩ := hrel
    by_cases hlt : k < 14
    · have hb := fac_bd k (by omega)
      have hb2 := fac_bd (k + 1) (by omega)
      rw [← HF.out] at hb
      have hdv := exp_row k hlt
      obtain ⟨f', hf'⟩ : ∃ f', facN (k + 1) = f' := ⟨_, rfl⟩
      have HF' : Hid (f' = facN (k + 1)) := hf'.symm
      rw [hf'] at hdv hb2
      have hmx : max (k : Int) 1 = ((max k 1 : Nat) : Int) := by omega
      have hml : (f : Int) * ((max k 1 : Nat) : Int) = (f' : Int) := by rw [← hf']; show _ = ((facN k * max k 1 : Nat) : Int); rw [HF.out, Int.natCast_mul]
      clear hf' HF
      generalize ((max k 1 : Nat) : Int) = mx at hmx hml
      obtain ⟨x, hx⟩ : ∃ x, expL.getD k 0 = x := ⟨_, rfl⟩
      have HX : Hid (x = expL.getD k 0) := hx.symm
      rw [hx] at hdv
      clear hx
      have hfo := floatOf_fi (f' : Int)
      have r1 := fun w => run_float_arith (P := Tryz.prog) w .quo 31 .f64 4607182418800017408 (fi (f' : Int)) x hdv
      clear hdv
      generalize fi (f' : Int) = y at hfo r1
      have hcz := HH.out.cell (i := k) hlt
      rw [if_neg (by omega)] at hcz
      have hfz := HH.out.frozen k
      have hst := store_f64 Tryz.prog wr ⟨w.heap.size, k, none⟩ x _ hcz hfz
      go_wp2_with fail
      go_roundw
      case rel => exact ⟨k + 1, f', by omega, by simp, rfl, HF', halfF_step HH.out HX.out, HB.out.setCell (Nat.le_refl _) _⟩
      case measure => simp [intOf]; omega
    · obtain rfl : k = 14 := by omega
      have HS := hideS (halfF_src HH.out (by rfl))
      go_wp2_with fail
      go_ret
      exact ⟨rfl, HS.out, HB.out⟩

set_option maxHeartbeats 800000 in
theorem lnTerms_any (w : World) :
    Calls Tryz.prog 113 #[] w fun e w' => e = .returned (.slice (some ⟨w.heap.size, 0, none⟩) 11 11) ∧ Src w' (some ⟨w.heap.size, 0, none⟩) w.heap.size 0 lnL ∧ Below w.heap.size w w' := by
  have hmk := fun w => run_make_row' (P := Tryz.prog) 23 31 (.float .f64 0) 8 Tryz.underlying23 info_f64 rfl .i64 .i64 11 (by omega) (by omega) w
  rw [show ((11 : Nat) : Int) = 11 from rfl] at hmk
  have HO := hideS (halfF_made w 11 lnL)
  go_enter Tryz.func113, Tryz.ntmps113
  go_wp2_with fail
  go_loopw [4] (fun i wr => ∃ k : Nat, k ≤ 11 ∧ i = .int .i64 k ∧ Hid (HalfF wr w.heap.size 11 lnL k) ∧ Hid (Below w.heap.size w wr)) (fun i _ => 11 - (intOf i).toNat)
  case atStart => exact ⟨0, Nat.zero_le _, rfl, HO, (Below.refl _ _).alloc (Nat.le_refl _) _⟩
  case round =>
    clear HO hmk
    obtain ⟨k, hk, rfl, HH, HB⟩ := hrel
    by_cases hlt : k < 11
    · have hdv := ln_row k hlt
      have hml : (2 : Int) * (k : Int) + 1 = ((2 * k + 1 : Nat) : Int) := by omega
      obtain ⟨m, hm⟩ : ∃ m : Int, ((2 * k + 1 : Nat) : Int) = m := ⟨_, rfl⟩
      rw [hm] at hdv hml
      clear hm
      obtain ⟨x, hx⟩ : ∃ x, lnL.getD k 0 = x := ⟨_, rfl⟩
      have HX : Hid (x = lnL.getD k 0) := hx.symm
      rw [hx] at hdv
      clear hx
      have hfo := floatOf_fi m
      have r1 := fun w => run_float_arith (P := Tryz.prog) w .quo 31 .f64 4607182418800017408 (fi m) x hdv
      clear hdv
      generalize fi m = y at hfo r1
      have hcz := HH.out.cell (i := k) hlt
      rw [if_neg (by omega)] at hcz
      have hfz := HH.out.frozen k
      have hst := store_f64 Tryz.prog wr ⟨w.heap.size, k, none⟩ x _ hcz hfz
      go_wp2_with fail
      go_roundw
      case rel => exact ⟨k + 1, by omega, by simp, halfF_step HH.out HX.out, HB.out.setCell (Nat.le_refl _) _⟩
      case measure => simp [intOf]; omega
    · obtain rfl : k = 11 := by omega
      have HS := hideS (halfF_src HH.out (by rfl))
      go_wp2_with fail
      go_ret
      exact ⟨rfl, HS.out, HB.out⟩
end Go.Proofs.YtnmjljijgmmakabGreat
namespace Go.Proofs.YtnmjljijgmmakabGreat
open Go.RowKit

end Go.Proofs.YtnmjljijgmmakabGreat
namespace Go.Proofs.YtnmjljijgmmakabGreat
open Go.RowKit

theorem rank_small {b : Nat} (h : b < 9218868437227405312) : U64 (b : Int) ∧ nanB (b : Int) = false ∧ rankI (b : Int) = b := by
  have h1 : szI (b : Int) = b := by unfold szI; omega
  have h2 : nanB (b : Int) = false := by unfold nanB; rw [h1]; simp; omega
  have h3 : sgB (b : Int) = false := by simp [sgB]; omega
  exact ⟨by unfold U64; omega, h2, by rw [rank_pos h2 h3, h1]⟩
theorem cut_down (neg : Bool) (n drop : Nat) : Ieee.Toward.down.cut neg n drop = n / 2 ^ drop + (if neg = true ∧ n % 2 ^ drop ≠ 0 then 1 else 0) := by
  show n / (1 <<< min drop (n.log2 + 2)) + (neg && n % (1 <<< min drop (n.log2 + 2)) != 0).toNat = _
  rw [Nat.one_shiftLeft]
  have key : n / 2 ^ min drop (n.log2 + 2) = n / 2 ^ drop ∧ n % 2 ^ min drop (n.log2 + 2) = n % 2 ^ drop := by
    by_cases h : drop ≤ n.log2 + 2
    · rw [Nat.min_eq_left h]; exact ⟨rfl, rfl⟩
    · rw [Nat.min_eq_right (by omega)]
      have hl : n < 2 ^ (n.log2 + 1) := Nat.lt_log2_self
      have h1 : (2 : Nat) ^ (n.log2 + 1) ≤ 2 ^ (n.log2 + 2) := Nat.pow_le_pow_right (by decide) (by omega)
      have h2 : (2 : Nat) ^ (n.log2 + 2) ≤ 2 ^ drop := Nat.pow_le_pow_right (by decide) (by omega)
      rw [Nat.div_eq_of_lt (by omega), Nat.div_eq_of_lt (by omega), Nat.mod_eq_of_lt (by omega), Nat.mod_eq_of_lt (by omega)]
      exact ⟨rfl, rfl⟩
  rw [key.1, key.2]
  congr 1
  cases neg
  · rfl
  · by_cases h0 : n % 2 ^ drop = 0
    · rw [h0]; rfl
    · rw [if_pos ⟨rfl, h0⟩]; simp [h0]
theorem cut_scale (m p K : Nat) : (m <<< (-(K : Int) + (p : Int)).toNat) / 2 ^ (-(-(K : Int) + (p : Int))).toNat = m * 2 ^ p / 2 ^ K ∧ ((m <<< (-(K : Int) + (p : Int)).toNat) % 2 ^ (-(-(K : Int) + (p : Int))).toNat = 0 ↔ m * 2 ^ p % 2 ^ K = 0) := by
  rw [Nat.shiftLeft_eq]
  by_cases h : p ≤ K
  · have e1 : (-(K : Int) + (p : Int)).toNat = 0 := by omega
    have e2 : (-(-(K : Int) + (p : Int))).toNat = K - p := by omega
    have e3 : (2 : Nat) ^ K = 2 ^ (K - p) * 2 ^ p := by rw [← Nat.pow_add, show K - p + p = K by omega]
    have hp := Nat.two_pow_pos p
    rw [e1, e2, e3, Nat.pow_zero, Nat.mul_one, Nat.mul_div_mul_right _ _ hp, Nat.mul_mod_mul_right]
    refine ⟨rfl, ?_⟩
    constructor
    · intro h; rw [h, Nat.zero_mul]
    · intro h; rcases Nat.mul_eq_zero.1 h with h | h
      · exact h
      · omega
  · have e1 : (-(K : Int) + (p : Int)).toNat = p - K := by omega
    have e2 : (-(-(K : Int) + (p : Int))).toNat = 0 := by omega
    have e3 : (2 : Nat) ^ p = 2 ^ (p - K) * 2 ^ K := by rw [← Nat.pow_add, show p - K + K = p by omega]
    have hp := Nat.two_pow_pos K
    rw [e1, e2, e3, Nat.pow_zero, Nat.div_one, Nat.mod_one, ← Nat.mul_assoc, Nat.mul_div_cancel _ hp, Nat.mul_mod_left]
    exact ⟨rfl, Iff.rfl⟩
/-- The greatest whole number that is not above. -/
theorem floor_word {b K : Nat} (hK : K = 1074) (h : NumB b) (hz : b % 9223372036854775808 ≠ 0 ∨ sB b = false) :
    ∃ k : Int, Ieee.double.write ((Ieee.double.read b).integral .down) = fi k ∧ k * ((2 ^ K : Nat) : Int) ≤ vI b ∧ vI b < (k + 1) * ((2 ^ K : Nat) : Int) := by
  rw [read_num h]
  have hv := vI_eq b
  have hs : (b / 9223372036854775808 % 2 == 1) = sB b := rfl
  have hm0 : b % 9223372036854775808 ≠ 0 → mg (b % 9223372036854775808) ≠ 0 := fun h => by unfold mg; split <;> omega
  rw [hs] at hv ⊢
  generalize b % 9223372036854775808 = r at *
  generalize hm : mg r = m at *
  generalize pl r = p at *
  have hP := Nat.two_pow_pos K
  have hp2 := Nat.two_pow_pos p
  obtain ⟨c1, c2⟩ := cut_scale m p K
  have key : ∀ s, Ieee.double.write ((Ieee.Datum.number s m (-1074 + (p : Int))).integral .down) = Ieee.double.nearest s (m * 2 ^ p / 2 ^ K + (if s = true ∧ m * 2 ^ p % 2 ^ K ≠ 0 then 1 else 0)) 0 := fun s => by
    show Ieee.double.nearest s (Ieee.Toward.down.cut s (m <<< (-1074 + (p : Int)).toNat) (-(-1074 + (p : Int))).toNat) 0 = _
    have e : (-1074 + (p : Int)) = -(K : Int) + (p : Int) := by omega
    rw [cut_down, e, c1]
    congr 2
    simp only [ne_eq, c2]
  rw [key]
  obtain ⟨A, hA⟩ : ∃ A, m * 2 ^ p = A := ⟨_, rfl⟩
  obtain ⟨P, hPP⟩ : ∃ P, 2 ^ K = P := ⟨_, rfl⟩
  rw [hA] at hv ⊢
  rw [hPP] at hP ⊢
  have hd := Nat.div_add_mod A P
  have hlt := Nat.mod_lt A hP
  generalize A / P = q at *
  generalize A % P = t at *
  clear key c1 c2
  cases hsb : sB b with
  | false =>
    rw [hsb] at hv
    refine ⟨(q : Nat), ?_, ?_, ?_⟩
    · rw [if_neg (by simp), Nat.add_zero]
      unfold fi joinN
      by_cases h0 : q = 0
      · rw [h0, nearest_zero]; rfl
      · rw [nearest_eq _ h0, word_false, if_neg (by omega), if_neg (by omega), Int.natAbs_natCast]
    · rw [hv]; show ((q : Nat) : Int) * (P : Int) ≤ (A : Int)
      rw [← Int.natCast_mul, Nat.mul_comm]; omega
    · rw [hv]; show (A : Int) < (((q : Nat) : Int) + 1) * (P : Int)
      rw [Int.add_mul, ← Int.natCast_mul, Nat.mul_comm]; omega
  | true =>
    rw [hsb] at hv
    have hr0 : r ≠ 0 := by
      rcases hz with h | h
      · exact h
      · rw [hsb] at h; cases h
    have hA0 : A ≠ 0 := by rw [← hA]; exact Nat.mul_ne_zero (hm0 hr0) (by omega)
    by_cases hr : t = 0
    · refine ⟨-((q : Nat) : Int), ?_, ?_, ?_⟩
      · rw [if_neg (by simp [hr]), Nat.add_zero]
        have h0 : q ≠ 0 := by
          intro h0; rw [h0, Nat.mul_zero] at hd; omega
        unfold fi joinN
        rw [nearest_eq _ h0, word_true, if_neg (by omega), if_pos (by omega), Int.natAbs_neg, Int.natAbs_natCast]
      · rw [hv]; show -((q : Nat) : Int) * (P : Int) ≤ -(A : Int)
        rw [Int.neg_mul, ← Int.natCast_mul, Nat.mul_comm]; omega
      · rw [hv]; show -(A : Int) < (-((q : Nat) : Int) + 1) * (P : Int)
        rw [Int.add_mul, Int.neg_mul, ← Int.natCast_mul, Nat.mul_comm]; omega
    · refine ⟨-((q + 1 : Nat) : Int), ?_, ?_, ?_⟩
      · rw [if_pos ⟨rfl, hr⟩]
        unfold fi joinN
        rw [nearest_eq _ (by omega), word_true, if_neg (by omega), if_pos (by omega), Int.natAbs_neg, Int.natAbs_natCast]
      · rw [hv]; show -((q + 1 : Nat) : Int) * (P : Int) ≤ -(A : Int)
        rw [Int.neg_mul, ← Int.natCast_mul, Nat.add_mul, Nat.mul_comm (q)]; omega
      · rw [hv]; show -(A : Int) < (-((q + 1 : Nat) : Int) + 1) * (P : Int)
        rw [Int.add_mul, Int.neg_mul, ← Int.natCast_mul, Nat.add_mul, Nat.mul_comm (q)]; omega

theorem toIntegral_num (b : Nat) (s : Bool) (m : Nat) (i : Int) (hd : FloatKind.f64.decode b = .number s m i) : Extern.MathFloor.toIntegral "math.archFloor" .down #[.float .f64 b] = pure (.float .f64 (FloatKind.f64.encode ((Ieee.Datum.number s m i).integral .down))) := by
  conv => lhs; whnf
  rw [hd]
theorem call_archFloor (b : Nat) (h : NumB b) (w : World) : (callFunc 125 #[.float .f64 b]).run Tryz.prog w = .ok (.value (.float .f64 (Ieee.double.write ((Ieee.double.read b).integral .down)))) w := by
  refine (run_callFunc_extern (e := Extern.MathFloor.toIntegral "math.archFloor" .down) Tryz.func125 (by kernel_rfl) (by kernel_rfl) (by kernel_rfl) (by kernel_rfl) _ w).trans ?_
  have e : FloatKind.f64.decode b = _ := read_num h
  rw [toIntegral_num b _ _ _ e, read_num h]
  rfl

set_option maxHeartbeats 800000 in
theorem floor_at (b f : Nat) (w : World) (h : NumB b) (hf : Ieee.double.write ((Ieee.double.read b).integral .down) = f) :
    Calls Tryz.prog 106 #[.float .f64 b] w fun e w' => e = .returned (.float .f64 f) ∧ w' = w := by
  have h1 := call_archFloor b h
  rw [hf] at h1
  clear hf h
  go_enter Tryz.func106, Tryz.ntmps106
  go_wp2
  go_ret
  exact ⟨rfl, rfl⟩
end Go.Proofs.YtnmjljijgmmakabGreat
namespace Go.Proofs.YtnmjljijgmmakabGreat

theorem vI_wrd {s : Bool} {r : Nat} (h : r < 9218868437227405312) : vI (wrd s r) = sgZ s (V r) ∧ NumB (wrd s r) ∧ wrd s r < 18446744073709551616 ∧ sB (wrd s r) = s := by
  cases s
  · have e : wrd false r = r := rfl
    rw [e]
    refine ⟨?_, ?_, by omega, ?_⟩
    · rw [vI_sgZ]
      unfold sB aV
      rw [show r / 9223372036854775808 % 2 = 0 by omega, show r % 9223372036854775808 = r by omega]; rfl
    · unfold NumB; omega
    · unfold sB; rw [show r / 9223372036854775808 % 2 = 0 by omega]; rfl
  · have e : wrd true r = 9223372036854775808 + r := rfl
    rw [e]
    refine ⟨?_, ?_, by omega, ?_⟩
    · rw [vI_sgZ]
      unfold sB aV
      rw [show (9223372036854775808 + r) / 9223372036854775808 % 2 = 1 by omega, show (9223372036854775808 + r) % 9223372036854775808 = r by omega]; rfl
    · unfold NumB; omega
    · unfold sB; rw [show (9223372036854775808 + r) / 9223372036854775808 % 2 = 1 by omega]; rfl
theorem joinN_wrd {T e : Int} (h : T ≠ 0) : joinN T e = wrd (decide (T < 0)) (nearR T.natAbs e) := by
  unfold joinN wrd
  rw [if_neg h]
  by_cases hn : T < 0
  · rw [if_pos hn, if_pos (by simpa using hn)]
  · rw [if_neg hn, if_neg (by simpa using hn)]
theorem sgZ_rI {k : Nat} {T : Int} : sgZ (decide (T < 0)) (V (nearR T.natAbs (-1074 - (k : Int)))) = rI k T := by
  unfold sgZ rI
  by_cases hn : T < 0
  · rw [if_pos (by simpa using hn), if_pos hn]
  · rw [if_neg (by simpa using hn), if_neg hn]
theorem rI_zero (k : Nat) : rI k 0 = 0 := by
  unfold rI
  rw [if_neg (by decide), Int.natAbs_zero, nearR_zero (by omega), V_zero]; rfl
/-- A sum's worth. -/
theorem add_worth {x y : Nat} (hx : NumB x) (hy : NumB y) (hf : FinR 0 (vI x + vI y)) : ∃ z, floatBits .add .f64 x y = some z ∧ NumB z ∧ z < 18446744073709551616 ∧ vI z = rI 0 (vI x + vI y) := by
  refine ⟨_, add_num hx hy, ?_⟩
  unfold addR
  generalize vI x + vI y = T at *
  by_cases h0 : T = 0
  · rw [if_pos h0, h0, rI_zero]
    split
    · exact ⟨by unfold NumB; decide, by decide, by decide⟩
    · exact ⟨by unfold NumB; decide, by decide, by decide⟩
  · rw [if_neg h0, joinN_wrd h0]
    have hf' : nearR T.natAbs (-1074) < 9218868437227405312 := hf
    obtain ⟨a, b, c, _⟩ := vI_wrd (s := decide (T < 0)) hf'
    refine ⟨b, c, ?_⟩
    rw [a]
    exact sgZ_rI (k := 0)
theorem sub_worth {x y : Nat} (hx : NumB x) (hy : NumB y) (hf : FinR 0 (vI x - vI y)) : ∃ z, floatBits .sub .f64 x y = some z ∧ NumB z ∧ z < 18446744073709551616 ∧ vI z = rI 0 (vI x - vI y) := by
  refine ⟨_, sub_num hx hy, ?_⟩
  unfold addR
  generalize vI x - vI y = T at *
  by_cases h0 : T = 0
  · rw [if_pos h0, h0, rI_zero]
    split
    · exact ⟨by unfold NumB; decide, by decide, by decide⟩
    · exact ⟨by unfold NumB; decide, by decide, by decide⟩
  · rw [if_neg h0, joinN_wrd h0]
    have hf' : nearR T.natAbs (-1074) < 9218868437227405312 := hf
    obtain ⟨a, b, c, _⟩ := vI_wrd (s := decide (T < 0)) hf'
    refine ⟨b, c, ?_⟩
    rw [a]
    exact sgZ_rI (k := 0)
theorem natAbs_vI (x : Nat) : (vI x).natAbs = aV x := by rw [vI_sgZ]; unfold sgZ; cases sB x <;> simp
theorem vI_neg_iff {x : Nat} (h : vI x ≠ 0) : decide (vI x < 0) = sB x := by
  rw [vI_sgZ] at h ⊢
  unfold sgZ at *
  cases sB x
  · simp
  · simp only [if_true] at *; simp; omega
theorem sign_mul {a b : Int} (ha : a ≠ 0) (hb : b ≠ 0) : (decide (a < 0) ^^ decide (b < 0)) = decide (a * b < 0) := by
  rcases Int.lt_or_lt_of_ne ha with pa | pa <;> rcases Int.lt_or_lt_of_ne hb with pb | pb
  · have := Int.mul_pos_of_neg_of_neg pa pb; simp [pa, pb]; omega
  · have := Int.mul_neg_of_neg_of_pos pa pb; simp [pa, this]; omega
  · have := Int.mul_neg_of_pos_of_neg pa pb; simp [pb, this]; omega
  · have := Int.mul_pos pa pb
    rw [decide_eq_false (show ¬ a < 0 by omega), decide_eq_false (show ¬ b < 0 by omega), decide_eq_false (show ¬ a * b < 0 by omega)]; rfl
theorem mul_worth {x y K : Nat} (hK : K = 1074) (hx : NumB x) (hy : NumB y) (hf : FinR K (vI x * vI y)) : ∃ z, floatBits .mul .f64 x y = some z ∧ NumB z ∧ z < 18446744073709551616 ∧ vI z = rI K (vI x * vI y) := by
  refine ⟨_, mul_num hx hy, ?_⟩
  unfold mulR
  rw [← natAbs_vI, ← natAbs_vI, ← Int.natAbs_mul]
  by_cases h0 : vI x * vI y = 0
  · rw [h0, Int.natAbs_zero, if_pos rfl, rI_zero]
    obtain ⟨a, b, c, _⟩ := vI_wrd (s := sB x ^^ sB y) (r := 0) (by decide)
    refine ⟨b, c, ?_⟩
    rw [a, V_zero]; unfold sgZ; split <;> rfl
  · have hx0 : vI x ≠ 0 := fun h => h0 (by rw [h, Int.zero_mul])
    have hy0 : vI y ≠ 0 := fun h => h0 (by rw [h, Int.mul_zero])
    rw [if_neg (by omega), ← vI_neg_iff hx0, ← vI_neg_iff hy0, sign_mul hx0 hy0]
    unfold FinR at hf
    rw [show (-1074 - (K : Int)) = -2148 by omega] at hf
    obtain ⟨a, b, c, _⟩ := vI_wrd (s := decide (vI x * vI y < 0)) hf
    refine ⟨b, c, ?_⟩
    rw [a]
    have := sgZ_rI (k := K) (T := vI x * vI y)
    rw [show (-1074 - (K : Int)) = -2148 by omega] at this
    exact this
end Go.Proofs.YtnmjljijgmmakabGreat
namespace Go.Proofs.YtnmjljijgmmakabGreat

theorem mg_pl_at {q k : Nat} (hk1 : 4503599627370496 ≤ k) (hk2 : k < 9007199254740992) : mg (q * 4503599627370496 + k) = k ∧ pl (q * 4503599627370496 + k) = q := by
  unfold mg pl
  rw [if_neg (by omega)]
  omega
theorem rep_dyad {m E : Nat} (h : m < 9007199254740992) (hE : 52 ≤ E) (hE2 : E ≤ 1900) : Rep ((m * 2 ^ E : Nat) : Int) := by
  by_cases h0 : m = 0
  · subst h0; rw [Nat.zero_mul]; exact rep_zero
  have a := Nat.log2_self_le h0
  have b : m < 2 ^ (m.log2 + 1) := Nat.lt_log2_self
  have hl : m.log2 < 53 := (Nat.log2_lt h0).2 (by omega)
  generalize m.log2 = l at a b hl
  obtain ⟨k, hk⟩ : ∃ k, m * 2 ^ (52 - l) = k := ⟨_, rfl⟩
  have hk1 : 4503599627370496 ≤ k := by
    have := Nat.mul_le_mul_right (2 ^ (52 - l)) a
    rw [← Nat.pow_add, show l + (52 - l) = 52 by omega, hk] at this; exact this
  have hk2 : k < 9007199254740992 := by
    have := Nat.mul_lt_mul_of_pos_right b (Nat.two_pow_pos (52 - l))
    rw [← Nat.pow_add, show l + 1 + (52 - l) = 53 by omega, hk] at this; exact this
  obtain ⟨h1, h2⟩ := mg_pl_at (q := E + l - 52) hk1 hk2
  refine ⟨(E + l - 52) * 4503599627370496 + k, by omega, ?_⟩
  unfold V
  rw [h1, h2, Int.natAbs_natCast, ← hk, Nat.mul_assoc, ← Nat.pow_add, show 52 - l + (E + l - 52) = E by omega]
theorem rep_grid {j : Int} {E : Nat} (h1 : -9007199254740992 < j) (h2 : j < 9007199254740992) (hE : 52 ≤ E) (hE2 : E ≤ 1900) : Rep (j * ((2 ^ E : Nat) : Int)) := by
  obtain ⟨r, hr, e⟩ := rep_dyad (m := j.natAbs) (E := E) (by omega) hE hE2
  refine ⟨r, hr, ?_⟩
  rw [Int.natAbs_natCast] at e
  rw [natAbs_mul_pow]; exact e
/-- Rounded to a number within a step of the grid. -/
theorem near_grid {k E : Nat} {T : Int} (hE : 52 ≤ E) (hE2 : E ≤ 1900) {G P : Int} (hG : G = ((2 ^ E : Nat) : Int)) (hP : P = ((2 ^ k : Nat) : Int)) (h1 : -(2097152 * (G * P)) ≤ T) (h2 : T ≤ 2097152 * (G * P)) :
    FinR k T ∧ -(G * P) ≤ rI k T * P - T ∧ rI k T * P - T ≤ G * P := by
  have hGp : 0 < G := by rw [hG]; have := Nat.two_pow_pos E; omega
  have hPp : 0 < P := by rw [hP]; have := Nat.two_pow_pos k; omega
  have hGP : 0 < G * P := Int.mul_pos hGp hPp
  obtain ⟨j, hj⟩ : ∃ j, T / (G * P) = j := ⟨_, rfl⟩
  have e1 : j * (G * P) ≤ T := by rw [← hj]; exact Int.ediv_mul_le T (by omega)
  have e2 : T < (j + 1) * (G * P) := by rw [← hj]; exact Int.lt_ediv_add_one_mul_self T hGP
  have j1 : -2097152 ≤ j := by
    rw [← hj]
    refine (Int.le_ediv_iff_mul_le hGP).2 ?_
    rw [Int.neg_mul]; exact h1
  have j2 : j ≤ 2097152 := by
    by_cases h : 2097152 < j
    · have := Int.mul_lt_mul_of_pos_right h hGP
      omega
    · omega
  have rA : Rep (j * G) := by rw [hG]; exact rep_grid (by omega) (by omega) hE hE2
  have rB : Rep ((j + 1) * G) := by rw [hG]; exact rep_grid (by omega) (by omega) hE hE2
  have f1 : j * G * ((2 ^ k : Nat) : Int) ≤ T := by rw [← hP, Int.mul_assoc]; exact e1
  have f2 : T ≤ (j + 1) * G * ((2 ^ k : Nat) : Int) := by rw [← hP, Int.mul_assoc]; omega
  have a1 := round_ge rA f1
  have a2 := round_le rB f2
  have b1 := Int.mul_le_mul_of_nonneg_right a1 (show 0 ≤ P by omega)
  have b2 := Int.mul_le_mul_of_nonneg_right a2 (show 0 ≤ P by omega)
  rw [Int.mul_assoc] at b1 b2
  have e3 : (j + 1) * (G * P) = j * (G * P) + G * P := by rw [Int.add_mul, Int.one_mul]
  rw [e3] at e2 b2
  exact ⟨fin_of rA rB f1 f2, by omega, by omega⟩

/-- Powers of 2 as letters: the unit is 2^100 g. -/
structure Scale (K : Nat) (g : Int) : Prop where
  k : K = 1074
  pos : 0 < g
  unit : ((2 ^ K : Nat) : Int) = 1267650600228229401496703205376 * g
  grid : ((2 ^ 1064 : Nat) : Int) = 1237940039285380274899124224 * g
  at_ : ∀ q p : Nat, q + 974 = p → ((2 ^ p : Nat) : Int) = ((2 ^ q : Nat) : Int) * g
theorem pow_split {a b c : Nat} (h : a + b = c) : ((2 ^ c : Nat) : Int) = ((2 ^ a : Nat) : Int) * ((2 ^ b : Nat) : Int) := by
  subst h; rw [Nat.pow_add, Int.natCast_mul]
theorem scale : ∃ K g, Scale K g := by
  obtain ⟨e, he⟩ : ∃ e, e = 974 := ⟨_, rfl⟩
  obtain ⟨K, hK⟩ : ∃ K, K = 1074 := ⟨_, rfl⟩
  obtain ⟨L, hL⟩ : ∃ L, L = 1064 := ⟨_, rfl⟩
  refine ⟨K, ((2 ^ e : Nat) : Int), hK, by have := Nat.two_pow_pos e; omega, ?_, ?_, fun q p h => pow_split (by omega)⟩
  · rw [pow_split (a := 100) (b := e) (c := K) (by omega)]; rfl
  · rw [← hL, pow_split (a := 90) (b := e) (c := L) (by omega)]; rfl

theorem add_near {K : Nat} {g : Int} (hs : Scale K g) {x y : Nat} (hx : NumB x) (hy : NumB y) (h1 : -(2596148429267413814265248164610048 * g) ≤ vI x + vI y) (h2 : vI x + vI y ≤ 2596148429267413814265248164610048 * g) :
    ∃ z, floatBits .add .f64 x y = some z ∧ NumB z ∧ z < 18446744073709551616 ∧ -(1237940039285380274899124224 * g) ≤ vI z - (vI x + vI y) ∧ vI z - (vI x + vI y) ≤ 1237940039285380274899124224 * g := by
  obtain ⟨E, hE⟩ : ∃ E, E = 1064 := ⟨_, rfl⟩
  have hg := hs.grid
  rw [← hE] at hg
  obtain ⟨f, a, b⟩ := near_grid (k := 0) (E := E) (T := vI x + vI y) (by omega) (by omega) (P := 1) rfl rfl (by rw [hg]; omega) (by rw [hg]; omega)
  obtain ⟨z, z1, z2, z3, z4⟩ := add_worth hx hy f
  rw [hg] at a b
  rw [← z4] at a b
  exact ⟨z, z1, z2, z3, by omega, by omega⟩
theorem sub_near {K : Nat} {g : Int} (hs : Scale K g) {x y : Nat} (hx : NumB x) (hy : NumB y) (h1 : -(2596148429267413814265248164610048 * g) ≤ vI x - vI y) (h2 : vI x - vI y ≤ 2596148429267413814265248164610048 * g) :
    ∃ z, floatBits .sub .f64 x y = some z ∧ NumB z ∧ z < 18446744073709551616 ∧ -(1237940039285380274899124224 * g) ≤ vI z - (vI x - vI y) ∧ vI z - (vI x - vI y) ≤ 1237940039285380274899124224 * g := by
  obtain ⟨E, hE⟩ : ∃ E, E = 1064 := ⟨_, rfl⟩
  have hg := hs.grid
  rw [← hE] at hg
  obtain ⟨f, a, b⟩ := near_grid (k := 0) (E := E) (T := vI x - vI y) (by omega) (by omega) (P := 1) rfl rfl (by rw [hg]; omega) (by rw [hg]; omega)
  obtain ⟨z, z1, z2, z3, z4⟩ := sub_worth hx hy f
  rw [hg] at a b
  rw [← z4] at a b
  exact ⟨z, z1, z2, z3, by omega, by omega⟩
/-- A product with a constant of worth c g. -/
theorem mul_near {K : Nat} {g : Int} (hs : Scale K g) {x y : Nat} {c : Int} (hx : NumB x) (hy : NumB y) (hc : vI y = c * g) (h1 : -(3291009114642412084309938365114701009965471731267159726697218048 * g) ≤ c * vI x) (h2 : c * vI x ≤ 3291009114642412084309938365114701009965471731267159726697218048 * g) :
    ∃ z, floatBits .mul .f64 x y = some z ∧ NumB z ∧ z < 18446744073709551616 ∧ -(1569275433846670190958947355801916604025588861116008628224 * g) ≤ 1267650600228229401496703205376 * vI z - c * vI x ∧ 1267650600228229401496703205376 * vI z - c * vI x ≤ 1569275433846670190958947355801916604025588861116008628224 * g := by
  obtain ⟨E, hE⟩ : ∃ E, E = 1064 := ⟨_, rfl⟩
  have hg := hs.grid
  rw [← hE] at hg
  have hgp := hs.pos
  have eT : vI x * vI y = (c * vI x) * g := by rw [hc, ← Int.mul_assoc, Int.mul_comm (vI x) c]
  have eGP : ((2 ^ E : Nat) : Int) * ((2 ^ K : Nat) : Int) = (1569275433846670190958947355801916604025588861116008628224 * g) * g := by
    rw [hg, hs.unit, ← Int.mul_assoc, show (1237940039285380274899124224 * g * 1267650600228229401496703205376 : Int) = 1569275433846670190958947355801916604025588861116008628224 * g by omega]
  have b1 := Int.mul_le_mul_of_nonneg_right h1 (show 0 ≤ g by omega)
  have b2 := Int.mul_le_mul_of_nonneg_right h2 (show 0 ≤ g by omega)
  have e3 : (2097152 : Int) * (1569275433846670190958947355801916604025588861116008628224 * g * g) = 3291009114642412084309938365114701009965471731267159726697218048 * g * g := by rw [← Int.mul_assoc, ← Int.mul_assoc]; rfl
  rw [Int.neg_mul] at b1
  obtain ⟨f, a, b⟩ := near_grid (k := K) (E := E) (T := vI x * vI y) (by omega) (by omega) rfl rfl (by rw [eGP, e3, eT]; exact b1) (by rw [eGP, e3, eT]; exact b2)
  obtain ⟨z, z1, z2, z3, z4⟩ := mul_worth hs.k hx hy f
  rw [eGP, eT, ← eT, ← z4, eT, hs.unit, ← Int.mul_assoc, Int.mul_comm (vI z), ← Int.sub_mul] at a b
  refine ⟨z, z1, z2, z3, ?_, ?_⟩
  · rw [← Int.neg_mul] at a
    exact Int.le_of_mul_le_mul_right a hgp
  · exact Int.le_of_mul_le_mul_right b hgp
end Go.Proofs.YtnmjljijgmmakabGreat
namespace Go.Proofs.YtnmjljijgmmakabGreat
open Go.RowKit

set_option maxHeartbeats 400000 in
theorem isNaN_math (b : Nat) (w : World) (h : U64 b) :
    Calls Tryz.prog 66 #[.float .f64 b] w fun e w' => e = .returned (.bool (nanB b)) ∧ w' = w := by
  have h1 : (FloatKind.f64.format.order b b != some .eq) = nanB b := by rw [bne, eq_self h, Bool.not_not]
  clear h
  go_enter Tryz.func66, Tryz.ntmps66
  go_wp2
  go_ret
  exact ⟨rfl, rfl⟩

set_option maxHeartbeats 400000 in
theorem logs_at (k h l : Nat) (w : World) (h1 : floatBits .mul .f64 k 4604418534311723008 = some h) (h2 : floatBits .mul .f64 k 4461442080421002358 = some l) :
    Calls Tryz.prog 107 #[.float .f64 k] w fun e w' => e = .returned (.tuple #[.float .f64 h, .float .f64 l]) ∧ w' = w := by
  have r1 := fun w => run_float_arith (P := Tryz.prog) w .mul 31 .f64 _ _ _ h1
  have r2 := fun w => run_float_arith (P := Tryz.prog) w .mul 31 .f64 _ _ _ h2
  clear h1 h2
  go_enter Tryz.func107, Tryz.ntmps107
  go_wp2
  go_ret2
  exact ⟨rfl, rfl⟩

set_option maxHeartbeats 400000 in
theorem inf_pos (w : World) :
    Calls Tryz.prog 105 #[.int .i64 1] w fun e w' => e = .returned (.float .f64 9218868437227405312) ∧ w' = w := by
  have h2 := call_frombits
  go_enter Tryz.func105, Tryz.ntmps105
  go_wp2
  go_ret
  exact ⟨rfl, rfl⟩

set_option maxHeartbeats 400000 in
theorem exp_nan (x : Nat) (w : World) (h : U64 x) (hn : nanB x = true) :
    Calls Tryz.prog 87 #[.float .f64 x] w fun e w' => e = .returned (.float .f64 x) ∧ w' = w := by
  have H := hideS (isNaN_math x w h)
  rw [hn] at H
  clear h hn
  go_enter Tryz.func87, Tryz.ntmps87
  go_wp2_with fail
  refine H.out.mono ?_
  rintro e w' ⟨rfl, rfl⟩
  go_wp2_with fail
  go_ret
  exact ⟨rfl, rfl⟩

theorem compare_gt_iff (x y : Int) : (compare x y == .gt) = decide (y < x) := by
  show (compareOfLessAndEq x y == .gt) = _
  unfold compareOfLessAndEq
  by_cases a : x < y
  · have : ¬ y < x := by omega
    simp [a, this]
  · by_cases b : x = y
    · simp [b]
    · have : y < x := by omega
      simp [a, b, this]
theorem gt_rank {a b : Nat} (ha : U64 a) (hb : U64 b) (hna : nanB a = false) (hnb : nanB b = false) : (FloatKind.f64.format.order a b == some .gt) = decide (rankI b < rankI a) := by
  rw [order_rank (by have := ha.2; omega) (by have := hb.2; omega) hna hnb, ← compare_gt_iff]; rfl

set_option maxHeartbeats 400000 in
theorem exp_hi (x : Nat) (g e : Bool) (w : World) (h : U64 x) (hn : nanB x = false) (hg : (FloatKind.f64.format.order x 4649456441864749056 == some .gt) = g) (he : (FloatKind.f64.format.order x 4649456441864749056 == some .eq) = e) (hge : (g || e) = true) :
    Calls Tryz.prog 87 #[.float .f64 x] w fun e w' => e = .returned (.float .f64 9218868437227405312) ∧ w' = w := by
  have H := hideS (isNaN_math x w h)
  rw [hn] at H
  clear h hn
  cases g <;> cases e <;> first | (cases hge; done) | skip
  all_goals
    clear hge
    go_enter Tryz.func87, Tryz.ntmps87
    go_wp2_with fail
    refine H.out.mono ?_
    rintro e w' ⟨rfl, rfl⟩
    go_wp2_with fail
    refine (inf_pos _).mono ?_
    rintro e w' ⟨rfl, rfl⟩
    go_wp2_with fail
    go_ret
    exact ⟨rfl, rfl⟩

set_option maxHeartbeats 400000 in
theorem exp_lo (x : Nat) (g e : Bool) (w : World) (h : U64 x) (hn : nanB x = false) (hg1 : (FloatKind.f64.format.order x 4649456441864749056 == some .gt) = false) (he1 : (FloatKind.f64.format.order x 4649456441864749056 == some .eq) = false)
    (hg : (FloatKind.f64.format.order x 13873145138068324352 == some .lt) = g) (he : (FloatKind.f64.format.order x 13873145138068324352 == some .eq) = e) (hge : (g || e) = true) :
    Calls Tryz.prog 87 #[.float .f64 x] w fun e w' => e = .returned (.float .f64 0) ∧ w' = w := by
  have H := hideS (isNaN_math x w h)
  rw [hn] at H
  clear h hn
  cases g <;> cases e <;> first | (cases hge; done) | skip
  all_goals
    clear hge
    go_enter Tryz.func87, Tryz.ntmps87
    go_wp2_with fail
    refine H.out.mono ?_
    rintro e w' ⟨rfl, rfl⟩
    go_wp2_with fail
    go_ret
    exact ⟨rfl, rfl⟩

set_option maxRecDepth 20000 in
set_option maxHeartbeats 1600000 in
theorem exp_mid (x y t f hi lo d r p : Nat) (k : Int) (w : World) (h : U64 x) (hn : nanB x = false) (hg1 : (FloatKind.f64.format.order x 4649456441864749056 == some .gt) = false) (he1 : (FloatKind.f64.format.order x 4649456441864749056 == some .eq) = false)
    (hg2 : (FloatKind.f64.format.order x 13873145138068324352 == some .lt) = false) (he2 : (FloatKind.f64.format.order x 13873145138068324352 == some .eq) = false)
    (q1 : floatBits .mul .f64 x 4609176140021203710 = some y) (q2 : floatBits .add .f64 y 4602678819172646912 = some t) (hf : Hid (∀ w, Calls Tryz.prog 106 #[.float .f64 t] w fun e w' => e = .returned (.float .f64 f) ∧ w' = w))
    (q3 : floatBits .mul .f64 f 4604418534311723008 = some hi) (q4 : floatBits .mul .f64 f 4461442080421002358 = some lo) (q5 : floatBits .sub .f64 x hi = some d) (q6 : floatBits .sub .f64 d lo = some r)
    (q7 : Hid (hornO expL r = some p)) (up : Hid (U64 p)) (q8 : floatToIntVal .f64 f .i64 = some k) (hk : -2000 ≤ k ∧ k ≤ 2000) (hsp : -2000 ≤ splE p ∧ splE p ≤ 2000) (hsm : -9223372036854775808 ≤ splM p ∧ splM p ≤ 9223372036854775807) :
    Calls Tryz.prog 87 #[.float .f64 x] w fun e w' => e = .returned (.float .f64 (joinN (splM p) (splE p + k))) ∧ Below w.heap.size w w' := by
  have H := hideS (isNaN_math x w h)
  rw [hn] at H
  have r1 := fun w => run_float_arith (P := Tryz.prog) w .mul 31 .f64 _ _ _ q1
  have r2 := fun w => run_float_arith (P := Tryz.prog) w .add 31 .f64 _ _ _ q2
  have r5 := fun w => run_float_arith (P := Tryz.prog) w .sub 31 .f64 _ _ _ q5
  have r6 := fun w => run_float_arith (P := Tryz.prog) w .sub 31 .f64 _ _ _ q6
  have r8 := fun w => run_convert_float_int (P := Tryz.prog) w 31 3 .f64 .i64 f k (by kernel_rfl) Tryz.underlying3 q8
  have HL : Hid (∀ w, Calls Tryz.prog 107 #[.float .f64 f] w fun e w' => e = .returned (.tuple #[.float .f64 hi, .float .f64 lo]) ∧ w' = w) := fun w => logs_at f hi lo w q3 q4
  have HSp : Hid (∀ w, Calls Tryz.prog 96 #[.float .f64 p] w fun e w' => e = .returned (.tuple #[.int .i64 (splM p), .int .i64 (splE p), .bool (splOk p)]) ∧ w' = w) := fun w => split_as p p w rfl up.out
  have HJ : Hid (∀ w, Calls Tryz.prog 110 #[.int .i64 (splM p), .int .i64 (splE p + k)] w fun e w' => e = .returned (.float .f64 (joinN (splM p) (splE p + k))) ∧ ∃ n, w' = w.drewN n) := fun w => join_any _ _ w hsm.1 hsm.2
  clear h hn q1 q2 q3 q4 q5 q6 q8 hsm
  generalize joinN (splM p) (splE p + k) = res at HJ
  generalize splM p = sm at HJ HSp
  generalize splE p = se at HJ HSp hsp
  generalize splOk p = so at HSp
  go_enter Tryz.func87, Tryz.ntmps87
  go_wp2_with fail
  refine (turned H.out).mono ?_
  rintro e w' ⟨rfl, rfl⟩
  clear H
  go_wp2_with fail
  refine (turned (hf.out _)).mono ?_
  rintro e w' ⟨rfl, rfl⟩
  go_wp2_with fail
  refine (turned (HL.out _)).mono ?_
  rintro e w' ⟨rfl, rfl⟩
  go_wp2_with fail
  have HT := hideS (expTerms_any w)
  refine HT.out.mono ?_
  rintro e w1 ⟨rfl, hs, hb⟩
  have HB := hideS hb
  have HH : Hid (Calls Tryz.prog 108 #[.slice (some ⟨w.heap.size, 0, none⟩) 14 14, .float .f64 r] w1 fun e w' => ∃ r', e = .returned (.float .f64 r') ∧ Ag (hornO expL r) r' ∧ ∃ q, w' = w1.drewN q) := horner_any _ _ _ 14 r 14 expL w1 hs rfl (by decide)
  rw [q7.out] at HH
  clear hs hb HT
  go_wp2_with fail
  refine HH.out.mono ?_
  rintro e w2 ⟨r', rfl, hag, q, rfl⟩
  obtain rfl := ag_some hag
  go_wp2_with fail
  refine (turned (HSp.out _)).mono ?_
  rintro e w' ⟨rfl, rfl⟩
  go_wp2_with fail
  refine (HJ.out _).mono ?_
  rintro e w' ⟨rfl, q', rfl⟩
  go_wp2_with fail
  go_ret
  exact ⟨rfl, ⟨HB.out.os, HB.out.tape, HB.out.output, HB.out.size, HB.out.block⟩⟩
end Go.Proofs.YtnmjljijgmmakabGreat
namespace Go.Proofs.YtnmjljijgmmakabGreat

theorem num_dec (b : Nat) (h : decide (b % 9223372036854775808 < 9218868437227405312) = true) : NumB b := by unfold NumB; exact of_decide_eq_true h
theorem const_worth {K : Nat} {g : Int} (hs : Scale K g) {b m p : Nat} (q : Nat) (h0 : sB b = false) (hm : mg (b % 9223372036854775808) = m) (hp : pl (b % 9223372036854775808) = p) (hq : q + 974 = p) : vI b = ((m * 2 ^ q : Nat) : Int) * g := by
  rw [vI_sgZ, h0]
  unfold sgZ aV V
  rw [if_neg (by decide), hm, hp, Int.natCast_mul, hs.at_ q p hq, Int.natCast_mul, Int.mul_assoc]
theorem perLog_worth {K : Nat} {g : Int} (hs : Scale K g) : vI 4609176140021203710 = 1828833234529184396638827839488 * g := by
  rw [const_worth hs (b := 4609176140021203710) 48 (by decide +kernel) (m := 6497320848556798) (by decide +kernel) (p := 1022) (by decide +kernel) rfl]; rfl
theorem half_worth {K : Nat} {g : Int} (hs : Scale K g) : vI 4602678819172646912 = 633825300114114700748351602688 * g := by
  rw [const_worth hs (b := 4602678819172646912) 47 (by decide +kernel) (m := 4503599627370496) (by decide +kernel) (p := 1021) (by decide +kernel) rfl]; rfl
theorem high_worth {K : Nat} {g : Int} (hs : Scale K g) : vI 4604418534311723008 = 878668439241424593572830642176 * g := by
  rw [const_worth hs (b := 4604418534311723008) 47 (by decide +kernel) (m := 6243314766446592) (by decide +kernel) (p := 1021) (by decide +kernel) rfl]; rfl
theorem low_worth {K : Nat} {g : Int} (hs : Scale K g) : vI 4461442080421002358 = 241894980045432881152 * g := by
  rw [const_worth hs (b := 4461442080421002358) 15 (by decide +kernel) (m := 7382048951581814) (by decide +kernel) (p := 989) (by decide +kernel) rfl]; rfl
theorem fi_worth {K : Nat} {g : Int} (hs : Scale K g) {m : Int} (h1 : -9007199254740992 ≤ m) (h2 : m ≤ 9007199254740992) : vI (fi m) = 1267650600228229401496703205376 * (m * g) ∧ NumB (fi m) ∧ fi m < 18446744073709551616 := by
  obtain ⟨a, b, _, d⟩ := vI_fi hs.k h1 h2
  refine ⟨?_, b, d⟩
  rw [a, hs.unit, ← Int.mul_assoc, Int.mul_comm m, Int.mul_assoc]
/-- A sum with a number above 0 is never -0. -/
theorem add_pos_zero {x y t : Nat} (hx : NumB x) (hy : NumB y) (h0 : sB y = false) (ht : floatBits .add .f64 x y = some t) : t % 9223372036854775808 ≠ 0 ∨ sB t = false := by
  rw [add_num hx hy] at ht
  have e : addR (x / 9223372036854775808 % 2 == 1) (y / 9223372036854775808 % 2 == 1) (vI x + vI y) = t := Option.some.inj ht
  have hy0 : (y / 9223372036854775808 % 2 == 1) = false := h0
  rw [hy0] at e
  unfold addR at e
  generalize vI x + vI y = T at e
  by_cases hT : T = 0
  · rw [if_pos hT, Bool.and_false, if_neg (by decide)] at e
    right; rw [← e]; rfl
  · left
    rw [if_neg hT, joinN_wrd hT] at e
    have h1 := near_ge (T := T.natAbs) (r := 1) (k := 0) (by decide) (by rw [show V 1 = 1 by decide]; omega)
    have h2 := nearR_le T.natAbs (-1074)
    have h3 : 1 ≤ nearR T.natAbs (-1074) := h1
    rw [← e]
    unfold wrd
    generalize nearR T.natAbs (-1074) = r at *
    split <;> omega

theorem rest_small {X Y t Q hi lo d r g : Int} (x1 : -(945667347770259133516540591210496 * g) < X) (x2 : X < 900031926162042875062659275816960 * g)
    (y1 : -(1569275433846670190958947355801916604025588861116008628224 * g) ≤ 1267650600228229401496703205376 * Y - 1828833234529184396638827839488 * X) (y2 : 1267650600228229401496703205376 * Y - 1828833234529184396638827839488 * X ≤ 1569275433846670190958947355801916604025588861116008628224 * g)
    (t1 : -(1237940039285380274899124224 * g) ≤ t - (Y + 633825300114114700748351602688 * g)) (t2 : t - (Y + 633825300114114700748351602688 * g) ≤ 1237940039285380274899124224 * g)
    (k1 : 1267650600228229401496703205376 * Q ≤ t) (k2 : t < 1267650600228229401496703205376 * Q + 1267650600228229401496703205376 * g)
    (a1 : -(1569275433846670190958947355801916604025588861116008628224 * g) ≤ 1267650600228229401496703205376 * hi - 878668439241424593572830642176 * (1267650600228229401496703205376 * Q)) (a2 : 1267650600228229401496703205376 * hi - 878668439241424593572830642176 * (1267650600228229401496703205376 * Q) ≤ 1569275433846670190958947355801916604025588861116008628224 * g)
    (b1 : -(1569275433846670190958947355801916604025588861116008628224 * g) ≤ 1267650600228229401496703205376 * lo - 241894980045432881152 * (1267650600228229401496703205376 * Q)) (b2 : 1267650600228229401496703205376 * lo - 241894980045432881152 * (1267650600228229401496703205376 * Q) ≤ 1569275433846670190958947355801916604025588861116008628224 * g)
    (d1 : -(1237940039285380274899124224 * g) ≤ d - (X - hi)) (d2 : d - (X - hi) ≤ 1237940039285380274899124224 * g)
    (r1 : -(1237940039285380274899124224 * g) ≤ r - (d - lo)) (r2 : r - (d - lo) ≤ 1237940039285380274899124224 * g) :
    -(633825300114114700748351602688 * g) ≤ r ∧ r ≤ 633825300114114700748351602688 * g := by
  constructor <;> omega

theorem exp_chain {K : Nat} {g : Int} (hs : Scale K g) {x : Nat} (hx : NumB x) (x1 : -(945667347770259133516540591210496 * g) < vI x) (x2 : vI x < 900031926162042875062659275816960 * g) :
    ∃ (y t hi lo d r : Nat) (k : Int), floatBits .mul .f64 x 4609176140021203710 = some y ∧ floatBits .add .f64 y 4602678819172646912 = some t ∧ NumB t ∧ Ieee.double.write ((Ieee.double.read t).integral .down) = fi k ∧ k * ((2 ^ K : Nat) : Int) ≤ vI t ∧ vI t < (k + 1) * ((2 ^ K : Nat) : Int) ∧ -2000 ≤ k ∧ k ≤ 2000 ∧
      floatBits .mul .f64 (fi k) 4604418534311723008 = some hi ∧ floatBits .mul .f64 (fi k) 4461442080421002358 = some lo ∧ floatBits .sub .f64 x hi = some d ∧ floatBits .sub .f64 d lo = some r ∧ NumB r ∧ r < 18446744073709551616 ∧ -(633825300114114700748351602688 * g) ≤ vI r ∧ vI r ≤ 633825300114114700748351602688 * g := by
  have hg := hs.pos
  obtain ⟨y, y0, yn, _, y1, y2⟩ := mul_near hs hx (num_dec 4609176140021203710 (by decide)) (perLog_worth hs) (by omega) (by omega)
  have hw := half_worth hs
  obtain ⟨t, t0, tn, _, t1, t2⟩ := add_near hs yn (num_dec 4602678819172646912 (by decide)) (by rw [hw]; omega) (by rw [hw]; omega)
  rw [hw] at t1 t2
  obtain ⟨k, k0, k1, k2⟩ := floor_word hs.k tn (add_pos_zero yn (num_dec 4602678819172646912 (by decide)) (by decide +kernel) t0)
  have kk1 := k1
  have kk2 := k2
  rw [hs.unit, ← Int.mul_assoc, Int.mul_comm k, Int.mul_assoc] at k1
  rw [hs.unit, Int.add_mul, Int.one_mul, ← Int.mul_assoc, Int.mul_comm k, Int.mul_assoc] at k2
  have kb1 : -2000 ≤ k := by
    by_cases h : -2000 ≤ k
    · exact h
    · have := Int.mul_le_mul_of_nonneg_right (show k ≤ -2001 by omega) (show 0 ≤ g by omega)
      omega
  have kb2 : k ≤ 2000 := by
    by_cases h : k ≤ 2000
    · exact h
    · have := Int.mul_le_mul_of_nonneg_right (show 2001 ≤ k by omega) (show 0 ≤ g by omega)
      omega
  have kb3 := Int.mul_le_mul_of_nonneg_right kb1 (show 0 ≤ g by omega)
  have kb4 := Int.mul_le_mul_of_nonneg_right kb2 (show 0 ≤ g by omega)
  obtain ⟨f1, fn, _⟩ := fi_worth hs (m := k) (by omega) (by omega)
  obtain ⟨Q, hQ⟩ : ∃ Q, k * g = Q := ⟨_, rfl⟩
  rw [hQ] at f1 k1 k2 kb3 kb4
  obtain ⟨hi, h0, hn, _, a1, a2⟩ := mul_near hs fn (num_dec 4604418534311723008 (by decide)) (high_worth hs) (by rw [f1]; omega) (by rw [f1]; omega)
  obtain ⟨lo, l0, ln, _, b1, b2⟩ := mul_near hs fn (num_dec 4461442080421002358 (by decide)) (low_worth hs) (by rw [f1]; omega) (by rw [f1]; omega)
  rw [f1] at a1 a2 b1 b2
  obtain ⟨d, d0, dn, _, d1, d2⟩ := sub_near hs hx hn (by omega) (by omega)
  obtain ⟨r, r0, rn, r64, r1, r2⟩ := sub_near hs dn ln (by omega) (by omega)
  obtain ⟨z1, z2⟩ := rest_small x1 x2 y1 y2 t1 t2 k1 k2 a1 a2 b1 b2 d1 d2 r1 r2
  exact ⟨y, t, hi, lo, d, r, k, y0, t0, tn, k0, kk1, kk2, kb1, kb2, h0, l0, d0, r0, rn, r64, z1, z2⟩
end Go.Proofs.YtnmjljijgmmakabGreat
