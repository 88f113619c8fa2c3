/- The contract of Horner: steps from the right, each rounded. -/
import Derived.Test.YtlbpekncaikabaaFRow
import Derived.Test.YtlbpekncaikabaaFlo
namespace Go.Proofs.Ytlbpekncaikabaa
open Go.RowKit

/-- The NaN that the tape gives. -/
def nanAns (x y : Nat) (w : World) : Nat := (Question.nanBits .f64 x y).cut (w.tape w.drawn (.nanBits .f64 x y))
theorem nanAns_nan (x y : Nat) (w : World) : nanB (nanAns x y w) = true ∧ nanAns x y w < 18446744073709551616 := by
  unfold nanAns
  generalize w.tape w.drawn (.nanBits .f64 x y) = t
  show nanB (((t % 2) * 2 ^ 63 + 0x7ff0000000000000 + 1 + (t / 2) % (2 ^ 52 - 1) : Nat) : Int) = true ∧ ((t % 2) * 2 ^ 63 + 0x7ff0000000000000 + 1 + (t / 2) % (2 ^ 52 - 1) : Nat) < _
  have h1 : t % 2 < 2 := Nat.mod_lt _ (by decide)
  have h2 : (t / 2) % (2 ^ 52 - 1) < 2 ^ 52 - 1 := Nat.mod_lt _ (by decide)
  generalize t % 2 = a at *
  generalize (t / 2) % (2 ^ 52 - 1) = b at *
  unfold nanB szI
  refine ⟨?_, by omega⟩
  rw [decide_eq_true_eq]; omega
theorem run_arith_nan {P : Program} (op : BinOp) (ho : op = .add ∨ op = .sub ∨ op = .mul ∨ op = .quo) (t : TypeId) (x y : Nat) (h : floatBits op .f64 x y = none) (w : World) : (binOp op t (.float .f64 x) (.float .f64 y)).run P w = .ok (.float .f64 (nanAns x y w)) w.drew := by
  rcases ho with rfl | rfl | rfl | rfl <;> unfold floatBits at h <;> simp only at h <;> simp [binOp, Op.floatArith, h, Question.forced, nanAns]
theorem nan_left {op : BinOp} {x y : Nat} (h : nanB x = true) : floatBits op .f64 x y = none := by
  obtain ⟨f, e⟩ := read_nan (nan_true h)
  unfold floatBits
  cases op <;> dsimp only <;> first | rfl | skip
  · show ((Ieee.double.read x).sum (Ieee.double.read y)).map Ieee.double.write = _; rw [e]; rfl
  · show ((Ieee.double.read x).sum (Ieee.double.read y).opposite).map Ieee.double.write = _; rw [e]; rfl
  · show ((Ieee.double.read x).product (Ieee.double.read y)).map Ieee.double.write = _; rw [e]; rfl
  · show ((Ieee.double.read x).quotient 54 (Ieee.double.read y)).map Ieee.double.write = _; rw [e]; rfl
theorem nan_right {op : BinOp} {x y : Nat} (h : nanB y = true) : floatBits op .f64 x y = none := by
  obtain ⟨f, e⟩ := read_nan (nan_true h)
  unfold floatBits
  cases op <;> dsimp only <;> first | rfl | skip
  · show ((Ieee.double.read x).sum (Ieee.double.read y)).map Ieee.double.write = _; rw [e]; cases Ieee.double.read x <;> rfl
  · show ((Ieee.double.read x).sum (Ieee.double.read y).opposite).map Ieee.double.write = _; rw [e]; cases Ieee.double.read x <;> rfl
  · show ((Ieee.double.read x).product (Ieee.double.read y)).map Ieee.double.write = _; rw [e]; cases Ieee.double.read x <;> rfl
  · show ((Ieee.double.read x).quotient 54 (Ieee.double.read y)).map Ieee.double.write = _; rw [e]; cases Ieee.double.read x <;> rfl

/-- Bits that are what is told; where nothing is told, a NaN. -/
def Ag (o : Option Nat) (b : Nat) : Prop := match o with | some r => b = r | none => nanB b = true ∧ b < 18446744073709551616
theorem ag_some {r b : Nat} (h : Ag (some r) b) : b = r := h
theorem ag_none {b : Nat} (h : Ag none b) : nanB b = true ∧ b < 18446744073709551616 := h
def stepO (x : Nat) (p : Option Nat) (c : Nat) : Option Nat := (p.bind fun p => floatBits .mul .f64 p x).bind fun q => floatBits .add .f64 q c
def hornAt (cs : List Nat) (x : Nat) : Nat → Option Nat
  | 0 => some (cs.getD (cs.length - 1) 0)
  | i + 1 => stepO x (hornAt cs x i) (cs.getD (cs.length - 2 - i) 0)
def hornO (cs : List Nat) (x : Nat) : Option Nat := if cs.length = 0 then some 0 else hornAt cs x (cs.length - 1)

theorem bind_ag {o : Option Nat} {a : Nat} (h : Ag o a) (op : BinOp) (x : Nat) : (o.bind fun p => floatBits op .f64 p x) = floatBits op .f64 a x := by
  cases o with
  | some r => rw [ag_some h]; rfl
  | none => rw [nan_left (ag_none h).1]; rfl
theorem stepO_ag {o : Option Nat} {a : Nat} (h : Ag o a) (x y : Nat) : stepO x o y = (floatBits .mul .f64 a x).bind fun q => floatBits .add .f64 q y := by
  unfold stepO; rw [bind_ag h]
theorem drew_one {w wr : World} (h : ∃ q, wr = w.drewN q) : ∃ q, wr.drew = w.drewN q := by
  obtain ⟨q, e⟩ := h; exact ⟨q + 1, by rw [e]; rfl⟩

set_option maxHeartbeats 800000 in
theorem horner_any (p : Option Addr) (g off c x n : Nat) (cs : List Nat) (w : World) (hs : Src w p g off cs) (hN : cs.length = n) (hn : n ≤ 1000000) :
    Calls Try.prog 19 #[.slice p n c, .float .f64 x] w fun e w' => ∃ r, e = .returned (.float .f64 r) ∧ Ag (hornO cs x) r ∧ ∃ q, w' = w.drewN q := by
  have HS := hideS hs
  have HN := hideS hN
  by_cases h0 : n = 0
  · subst h0
    have HR : Hid (hornO cs x = some 0) := by show _ = _; unfold hornO; rw [if_pos hN]
    clear hs hN HS HN
    go_enter Try.func19, Try.ntmps19
    go_wp2
    go_ret
    exact ⟨_, rfl, by rw [HR.out]; rfl, 0, rfl⟩
  obtain ⟨m, rfl⟩ : ∃ m, n = m + 1 := ⟨n - 1, by omega⟩
  obtain rfl := hs.at_ (by omega)
  have hc0 := hs.cell m (by omega)
  have HR : Hid (hornO cs x = hornAt cs x m) := by show _ = _; unfold hornO; rw [if_neg (by omega), hN]; rfl
  have HA0 : Hid (hornAt cs x 0 = some (cs.getD m 0)) := by show _ = _; unfold hornAt; rw [hN]; rfl
  have HA1 : Hid (∀ i, hornAt cs x (i + 1) = stepO x (hornAt cs x i) (cs.getD (m - 1 - i) 0)) := fun i => by
    show stepO x (hornAt cs x i) (cs.getD (cs.length - 2 - i) 0) = _
    rw [hN]; rfl
  generalize cs.getD m 0 = p0 at hc0 HA0
  clear hs hN h0
  go_enter Try.func19, Try.ntmps19
  go_wp2_with fail
  go_loopw [6, 19] (fun s i wr => ∃ k a : Nat, k ≤ m ∧ i = .int .i64 k ∧ s = .float .f64 a ∧ Hid (Ag (hornAt cs x k) a) ∧ Hid (∃ q, wr = w.drewN q)) (fun _ i _ => m - (intOf i).toNat)
  case atStart => exact ⟨0, p0, Nat.zero_le _, rfl, rfl, by rw [HA0.out]; rfl, ⟨0, rfl⟩⟩
  case round =>
    obtain ⟨k, a, hk, rfl, rfl, HA, HQ⟩ := hrel
    by_cases hlt : k < m
    · have hcx : wr.cell? ⟨g, off + (m - 1 - k), none⟩ = some (.float .f64 (cs.getD (m - 1 - k) 0)) := by
        obtain ⟨q, e⟩ := HQ.out
        rw [e]; exact HS.out.cell (m - 1 - k) (by rw [HN.out]; omega)
      have HA2 := hideS (HA1.out k)
      obtain ⟨j, hj⟩ : ∃ j : Nat, m - 1 - k = j := ⟨_, rfl⟩
      have hj2 : (m : Int) - 1 - k = j := by omega
      rw [hj] at hcx HA2
      clear hj
      generalize cs.getD j 0 = y at hcx HA2
      rw [stepO_ag HA.out] at HA2
      clear HA HA1 HA0
      cases hq : floatBits .mul .f64 a x with
      | some q =>
        have r1 := fun w => run_float_arith (P := Try.prog) w .mul 22 .f64 a x q hq
        cases hr : floatBits .add .f64 q y with
        | some r =>
          have r2 := fun w => run_float_arith (P := Try.prog) w .add 22 .f64 q y r hr
          have HE : Hid (Ag (hornAt cs x (k + 1)) r) := by rw [HA2.out, hq]; show Ag (floatBits .add .f64 q y) r; rw [hr]; rfl
          clear hq hr HA2
          go_wp2
          go_roundw
          case rel => exact ⟨k + 1, r, by omega, by simp, rfl, HE, HQ⟩
          case measure => simp [intOf]; omega
        | none =>
          have r2 := run_arith_nan (P := Try.prog) .add (by simp) 22 q y hr
          have HE : Hid (∀ z, Ag (hornAt cs x (k + 1)) (nanAns q y z)) := fun z => by rw [HA2.out, hq]; show Ag (floatBits .add .f64 q y) _; rw [hr]; exact nanAns_nan q y z
          clear hq hr HA2
          go_wp2
          go_roundw
          case rel => exact ⟨k + 1, _, by omega, by simp, rfl, HE.out _, drew_one HQ.out⟩
          case measure => simp [intOf]; omega
      | none =>
        have r1 := run_arith_nan (P := Try.prog) .mul (by simp) 22 a x hq
        have r2 := fun z => run_arith_nan (P := Try.prog) .add (by simp) 22 (nanAns a x z) y (nan_left (nanAns_nan a x z).1)
        have HE : Hid (∀ z z', Ag (hornAt cs x (k + 1)) (nanAns (nanAns a x z) y z')) := fun z z' => by rw [HA2.out, hq]; exact nanAns_nan _ y z'
        clear hq HA2
        go_wp2
        go_roundw
        case rel => exact ⟨k + 1, _, by omega, by simp, rfl, HE.out _ _, drew_one (drew_one HQ.out)⟩
        case measure => simp [intOf]; omega
    · obtain rfl : k = m := by omega
      go_wp2
      go_ret
      exact ⟨_, rfl, by rw [HR.out]; exact HA.out, HQ.out⟩
end Go.Proofs.Ytlbpekncaikabaa
