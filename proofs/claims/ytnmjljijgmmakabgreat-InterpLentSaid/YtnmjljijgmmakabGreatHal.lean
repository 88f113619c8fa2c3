/- Exp between its bounds tells a float from +0 to +Inf. The contracts of about1 and Ln, step by step. The law's awake: what the document fixes. The contract of the document's Factor. The contract of the document's Yield. The contracts of the document's Forward and Convert. -/
import Derived.Test.YtnmjljijgmmakabGreatHak
import Derived.Test.YtnmjljijgmmakabGreatHad
import Derived.Test.YtnmjljijgmmakabGreatHaj
namespace Go.Proofs.YtnmjljijgmmakabGreat
open Go.RowKit

theorem abs_mul_le {a b A B : Int} (h1 : -A ≤ a) (h2 : a ≤ A) (h3 : -B ≤ b) (h4 : b ≤ B) : -(A * B) ≤ a * b ∧ a * b ≤ A * B := by
  have h5 : (a * b).natAbs ≤ (A * B).natAbs := by
    rw [Int.natAbs_mul, Int.natAbs_mul]
    exact Nat.mul_le_mul (by omega) (by omega)
  have h6 : 0 ≤ A * B := Int.mul_nonneg (by omega) (by omega)
  omega
theorem rep_units {K : Nat} {g : Int} (hs : Scale K g) (j : Int) (h1 : -10 < j) (h2 : j < 10) : Rep (1267650600228229401496703205376 * (j * g)) := by
  have := rep_grid (j := j) (E := K) (by omega) (by omega) (by have := hs.k; omega) (by have := hs.k; omega)
  rw [hs.unit, ← Int.mul_assoc, Int.mul_comm j, Int.mul_assoc] at this
  exact this
theorem mul_held {K : Nat} {g : Int} (hs : Scale K g) {p r : Nat} (hp : NumB p) (hr : NumB r) (p1 : -(2535301200456458802993406410752 * g) ≤ vI p) (p2 : vI p ≤ 2535301200456458802993406410752 * g) (r1 : -(633825300114114700748351602688 * g) ≤ vI r) (r2 : vI r ≤ 633825300114114700748351602688 * g) :
    ∃ z, floatBits .mul .f64 p r = some z ∧ NumB z ∧ z < 18446744073709551616 ∧ -(1267650600228229401496703205376 * g) ≤ vI z ∧ vI z ≤ 1267650600228229401496703205376 * g := by
  obtain ⟨a, b⟩ := abs_mul_le p1 p2 r1 r2
  have rA := rep_units hs (-1) (by decide) (by decide)
  have rB := rep_units hs 1 (by decide) (by decide)
  have e : (2535301200456458802993406410752 * g) * (633825300114114700748351602688 * g) = 1267650600228229401496703205376 * g * (1267650600228229401496703205376 * g) := by
    rw [show (2535301200456458802993406410752 : Int) * g = (1267650600228229401496703205376 * g) * 2 by omega, Int.mul_assoc (1267650600228229401496703205376 * g), show (2 : Int) * (633825300114114700748351602688 * g) = 1267650600228229401496703205376 * g by omega]
  rw [e] at a b
  have f1 : 1267650600228229401496703205376 * (-1 * g) * ((2 ^ K : Nat) : Int) ≤ vI p * vI r := by
    rw [hs.unit, show (1267650600228229401496703205376 : Int) * (-1 * g) = -(1267650600228229401496703205376 * g) by omega, Int.neg_mul]; exact a
  have f2 : vI p * vI r ≤ 1267650600228229401496703205376 * (1 * g) * ((2 ^ K : Nat) : Int) := by
    rw [hs.unit, Int.one_mul]; exact b
  obtain ⟨z, z1, z2, z3, z4⟩ := mul_worth hs.k hp hr (fin_of rA rB f1 f2)
  have a1 := round_ge rA f1
  have a2 := round_le rB f2
  rw [← z4] at a1 a2
  exact ⟨z, z1, z2, z3, by omega, by omega⟩
theorem add_held {K : Nat} {g : Int} (hs : Scale K g) {q c : Nat} (hq : NumB q) (hc : NumB c) (l : Int) (hl1 : -10 < l) (hl2 : l < 10) (t1 : 1267650600228229401496703205376 * (l * g) ≤ vI q + vI c) (t2 : vI q + vI c ≤ 2535301200456458802993406410752 * g) :
    ∃ z, floatBits .add .f64 q c = some z ∧ NumB z ∧ z < 18446744073709551616 ∧ 1267650600228229401496703205376 * (l * g) ≤ vI z ∧ vI z ≤ 2535301200456458802993406410752 * g := by
  have rA := rep_units hs l hl1 hl2
  have rB := rep_units hs 2 (by decide) (by decide)
  have f1 : 1267650600228229401496703205376 * (l * g) * ((2 ^ 0 : Nat) : Int) ≤ vI q + vI c := by rw [show ((2 ^ 0 : Nat) : Int) = 1 from rfl, Int.mul_one]; exact t1
  have f2 : vI q + vI c ≤ 1267650600228229401496703205376 * (2 * g) * ((2 ^ 0 : Nat) : Int) := by rw [show ((2 ^ 0 : Nat) : Int) = 1 from rfl, Int.mul_one]; omega
  obtain ⟨z, z1, z2, z3, z4⟩ := add_worth hq hc (fin_of rA rB f1 f2)
  have a1 := round_ge rA f1
  have a2 := round_le rB f2
  rw [← z4] at a1 a2
  exact ⟨z, z1, z2, z3, a1, by omega⟩
theorem one_worth {K : Nat} {g : Int} (hs : Scale K g) : vI 4607182418800017408 = 1267650600228229401496703205376 * g ∧ NumB 4607182418800017408 := by
  obtain ⟨a, b, _⟩ := fi_worth hs (m := 1) (by decide) (by decide)
  rw [fi_one] at a b
  rw [Int.one_mul] at a
  exact ⟨a, b⟩
theorem exp_bits : ∀ i, i < 14 → expL.getD i 0 ≤ 4607182418800017408 := by decide +kernel
theorem low_units {K : Nat} {g : Int} (hs : Scale K g) {c : Nat} (h : c ≤ 4607182418800017408) : NumB c ∧ 0 ≤ vI c ∧ vI c ≤ 1267650600228229401496703205376 * g := by
  have h1 : vI c = (V c : Int) := by
    rw [vI_sgZ]; unfold sB aV
    rw [show c / 9223372036854775808 % 2 = 0 by omega, show c % 9223372036854775808 = c by omega]; rfl
  have h2 : vI 4607182418800017408 = (V 4607182418800017408 : Int) := by
    rw [vI_sgZ]; unfold sB aV; rfl
  have h3 := V_le h
  rw [(one_worth hs).1] at h2
  refine ⟨by unfold NumB; omega, by omega, by omega⟩
theorem horn_held {K : Nat} {g : Int} (hs : Scale K g) {r : Nat} (hr : NumB r) (r1 : -(633825300114114700748351602688 * g) ≤ vI r) (r2 : vI r ≤ 633825300114114700748351602688 * g) :
    ∀ i, i ≤ 12 → ∃ p, hornAt expL r i = some p ∧ NumB p ∧ -(2535301200456458802993406410752 * g) ≤ vI p ∧ vI p ≤ 2535301200456458802993406410752 * g := by
  have hg := hs.pos
  intro i
  induction i with
  | zero =>
    intro _
    obtain ⟨a, b, c⟩ := low_units hs (exp_bits 13 (by omega))
    exact ⟨expL.getD 13 0, rfl, a, by omega, by omega⟩
  | succ i ih =>
    intro hi
    obtain ⟨p, e, hp, p1, p2⟩ := ih (by omega)
    obtain ⟨q, q0, qn, _, q1, q2⟩ := mul_held hs hp hr p1 p2 r1 r2
    obtain ⟨a, b, c⟩ := low_units hs (exp_bits (14 - 2 - i) (by omega))
    obtain ⟨z, z0, zn, _, z1, z2⟩ := add_held hs qn a (-1) (by decide) (by decide) (by omega) (by omega)
    refine ⟨z, ?_, zn, by omega, z2⟩
    show stepO r (hornAt expL r i) (expL.getD (14 - 2 - i) 0) = some z
    rw [e]
    show ((some p).bind fun p => floatBits .mul .f64 p r).bind _ = _
    rw [show ((some p).bind fun p => floatBits .mul .f64 p r) = some q from q0]
    exact z0
theorem horn_exp {K : Nat} {g : Int} (hs : Scale K g) {r : Nat} (hr : NumB r) (r1 : -(633825300114114700748351602688 * g) ≤ vI r) (r2 : vI r ≤ 633825300114114700748351602688 * g) :
    ∃ p, hornO expL r = some p ∧ NumB p ∧ p < 18446744073709551616 ∧ 0 ≤ vI p := by
  have hg := hs.pos
  obtain ⟨p, e, hp, p1, p2⟩ := horn_held hs hr r1 r2 12 (by omega)
  obtain ⟨q, q0, qn, _, q1, q2⟩ := mul_held hs hp hr p1 p2 r1 r2
  obtain ⟨o1, o2⟩ := one_worth hs
  obtain ⟨z, z0, zn, z64, z1, _⟩ := add_held hs qn o2 0 (by decide) (by decide) (by rw [o1]; omega) (by rw [o1]; omega)
  refine ⟨z, ?_, zn, z64, by omega⟩
  show stepO r (hornAt expL r 12) 4607182418800017408 = some z
  rw [e]
  show ((some p).bind fun p => floatBits .mul .f64 p r).bind _ = _
  rw [show ((some p).bind fun p => floatBits .mul .f64 p r) = some q from q0]
  exact z0

theorem spl_of {p : Nat} (hn : NumB p) (h64 : p < 18446744073709551616) (h0 : 0 ≤ vI p) : 0 ≤ splM p ∧ splM p < 9007199254740992 ∧ -2000 ≤ splE p ∧ splE p ≤ 2000 := by
  have hsz : szI (p : Int) = ((p % 9223372036854775808 : Nat) : Int) := by unfold szI; omega
  have hok : splOk (p : Int) = true := by unfold splOk; rw [hsz]; unfold NumB at hn; simp; omega
  have hE : -2000 ≤ splE p ∧ splE p ≤ 2000 := by
    unfold splE plcI
    rw [hsz]
    unfold NumB at hn
    split
    · split <;> omega
    · omega
  unfold splM
  rw [hok, if_pos rfl, hsz]
  obtain ⟨r, hr⟩ : ∃ r, p % 9223372036854775808 = r := ⟨_, rfl⟩
  have hm : 0 ≤ magI (r : Int) ∧ magI (r : Int) < 9007199254740992 := by unfold magI; split <;> omega
  have hz : sgB (p : Int) = true → r = 0 := fun h => by
    have h1 : sB p = true := by
      unfold sgB at h
      unfold sB
      have : 9223372036854775808 ≤ p := by have := of_decide_eq_true h; omega
      rw [show p / 9223372036854775808 % 2 = 1 by omega]; rfl
    rw [vI_sgZ, h1] at h0
    have h2 : aV p = 0 := by unfold sgZ at h0; simp at h0; omega
    unfold aV at h2
    rw [hr] at h2
    have := V_eq_iff (r := r) (s := 0)
    rw [V_zero] at this
    exact this.1 h2
  rw [hr]
  by_cases hsg : sgB (p : Int) = true
  · rw [if_pos hsg, hz hsg]
    refine ⟨by decide, by decide, hE.1, hE.2⟩
  · rw [if_neg hsg]
    exact ⟨hm.1, hm.2, hE.1, hE.2⟩
theorem join_top {m e : Int} (h : 0 ≤ m) : joinN m e ≤ 9218868437227405312 := by
  unfold joinN
  split
  · omega
  · rw [if_neg (by omega)]; exact nearR_le _ _

theorem toInt_all : ∀ a : Nat, a < 64 → ∀ b : Nat, b < 64 → floatToIntVal .f64 (fi (((64 * a + b : Nat) : Int) - 2000)) .i64 = some (((64 * a + b : Nat) : Int) - 2000) := by decide +kernel
theorem toInt_fi {k : Int} (h1 : -2000 ≤ k) (h2 : k ≤ 2000) : floatToIntVal .f64 (fi k) .i64 = some k := by
  have := toInt_all ((k + 2000).toNat / 64) (by omega) ((k + 2000).toNat % 64) (by omega)
  rw [show ((64 * ((k + 2000).toNat / 64) + (k + 2000).toNat % 64 : Nat) : Int) - 2000 = k by omega] at this
  exact this
theorem spl_rng {m : Int} (h1 : 0 ≤ m) (h2 : m < 9007199254740992) : -9223372036854775808 ≤ m ∧ m ≤ 9223372036854775807 := by omega

/-- Ranks of numbers, by their worths. -/
theorem rank_worth {a b : Nat} (ha : NumB a) (hb : NumB b) (ha2 : a < 18446744073709551616) (hb2 : b < 18446744073709551616) (h : rankI a < rankI b) : vI a < vI b := by
  have na : nanB (a : Int) = false := by unfold NumB at ha; unfold nanB szI; rw [decide_eq_false_iff_not]; omega
  have nb : nanB (b : Int) = false := by unfold NumB at hb; unfold nanB szI; rw [decide_eq_false_iff_not]; omega
  rw [← sgn_rank ha2 na, ← sgn_rank hb2 nb] at h
  have e1 : vI a = sgZ (a / 9223372036854775808 % 2 == 1) (V (a % 9223372036854775808)) := rfl
  have e2 : vI b = sgZ (b / 9223372036854775808 % 2 == 1) (V (b % 9223372036854775808)) := rfl
  rw [e1, e2]
  generalize a % 9223372036854775808 = r at *
  generalize b % 9223372036854775808 = s at *
  generalize (a / 9223372036854775808 % 2 == 1) = p at *
  generalize (b / 9223372036854775808 % 2 == 1) = q at *
  have h1 := V_lt_iff (r := r) (s := s)
  have h2 := V_lt_iff (r := s) (s := r)
  have h3 := V_lt_iff (r := 0) (s := s)
  have h4 := V_lt_iff (r := 0) (s := r)
  rw [V_zero] at h3 h4
  unfold sgn at h
  unfold sgZ
  cases p <;> cases q <;> simp only [Bool.false_eq_true, if_true, if_false] at * <;> omega
theorem c710 : fi 710 = 4649456441864749056 := by decide +kernel
theorem c746 : fi (-746) = 13873145138068324352 := by decide +kernel
end Go.Proofs.YtnmjljijgmmakabGreat
namespace Go.Proofs.YtnmjljijgmmakabGreat
open Go.RowKit

set_option maxHeartbeats 400000 in
theorem inf_neg (w : World) :
    Calls Tryz.prog 105 #[.int .i64 (-1)] w fun e w' => e = .returned (.float .f64 18442240474082181120) ∧ w' = w := by
  have h2 := call_frombits
  go_enter Tryz.func105, Tryz.ntmps105
  go_wp2
  go_ret
  exact ⟨rfl, rfl⟩
set_option maxHeartbeats 400000 in
theorem nan_math (w : World) :
    Calls Tryz.prog 111 #[] w fun e w' => e = .returned (.float .f64 9221120237041090561) ∧ w' = w := by
  have h2 := call_frombits
  go_enter Tryz.func111, Tryz.ntmps111
  go_wp2
  go_ret
  exact ⟨rfl, rfl⟩
set_option maxHeartbeats 400000 in
theorem isInf_pos (x : Nat) (g : Bool) (w : World) (hg : (FloatKind.f64.format.order x 9218868437227405311 == some .gt) = g) :
    Calls Tryz.prog 67 #[.float .f64 x, .int .i64 1] w fun e w' => e = .returned (.bool g) ∧ w' = w := by
  go_enter Tryz.func67, Tryz.ntmps67
  go_wp2
  go_ret
  exact ⟨rfl, rfl⟩

set_option maxRecDepth 20000 in
set_option maxHeartbeats 800000 in
theorem about1_at (x m0 m1 : Nat) (n e L : Int) (ok g : Bool) (w : World) (hS : Hid (∀ w, Calls Tryz.prog 96 #[.float .f64 x] w fun r w' => r = .returned (.tuple #[.int .i64 n, .int .i64 e, .bool ok]) ∧ w' = w))
    (hn : 0 < n ∧ n < 9007199254740992) (he : -2000 ≤ e ∧ e ≤ 2000) (hL : Hid (∀ w, Calls Tryz.prog 129 #[.int .u64 n] w fun r w' => r = .returned (.int .i64 L) ∧ w' = w)) (hL2 : 0 ≤ L ∧ L ≤ 64)
    (hJ : Hid (∀ w, Calls Tryz.prog 110 #[.int .i64 n, .int .i64 (1 - L)] w fun r w' => r = .returned (.float .f64 m0) ∧ ∃ q, w' = w.drewN q))
    (hg : (FloatKind.f64.format.order m0 4609047870845172685 == some .gt) = g) (hd : floatBits .quo .f64 m0 4611686018427387904 = some m1) :
    Calls Tryz.prog 112 #[.float .f64 x] w fun r w' => r = .returned (.tuple #[.float .f64 (if g then m1 else m0), .int .i64 (if g then e + L else e + L - 1)]) ∧ ∃ q, w' = w.drewN q := by
  have r1 := fun w => run_float_arith (P := Tryz.prog) w .quo 31 .f64 _ _ _ hd
  clear hd
  cases g
  all_goals
    simp only [Bool.false_eq_true, if_true, if_false]
    go_enter Tryz.func112, Tryz.ntmps112
    go_wp2_with fail
    refine (turned (hS.out _)).mono ?_
    rintro r w' ⟨rfl, rfl⟩
    go_wp2_with fail
    refine (turned (hL.out _)).mono ?_
    rintro r w' ⟨rfl, rfl⟩
    go_wp2_with fail
    refine (hJ.out _).mono ?_
    rintro r w' ⟨rfl, q, rfl⟩
    go_wp2_with fail
    go_ret2
    exact ⟨rfl, _, rfl⟩

set_option maxHeartbeats 400000 in
theorem ln_nan (x : Nat) (w : World) (h : U64 x) (hn : nanB x = true) :
    Calls Tryz.prog 88 #[.float .f64 x] w fun e w' => e = .returned (.float .f64 9221120237041090561) ∧ w' = w := by
  have H := hideS (isNaN_math x w h)
  rw [hn] at H
  clear h hn
  go_enter Tryz.func88, Tryz.ntmps88
  go_wp2_with fail
  refine H.out.mono ?_
  rintro e w' ⟨rfl, rfl⟩
  go_wp2_with fail
  refine (nan_math _).mono ?_
  rintro e w' ⟨rfl, rfl⟩
  go_wp2_with fail
  go_ret
  exact ⟨rfl, rfl⟩

set_option maxHeartbeats 400000 in
theorem ln_neg (x : Nat) (w : World) (h : U64 x) (hn : nanB x = false) (hl : (FloatKind.f64.format.order x 0 == some .lt) = true) :
    Calls Tryz.prog 88 #[.float .f64 x] w fun e w' => e = .returned (.float .f64 9221120237041090561) ∧ w' = w := by
  have H := hideS (isNaN_math x w h)
  rw [hn] at H
  clear h hn
  go_enter Tryz.func88, Tryz.ntmps88
  go_wp2_with fail
  refine H.out.mono ?_
  rintro e w' ⟨rfl, rfl⟩
  go_wp2_with fail
  refine (nan_math _).mono ?_
  rintro e w' ⟨rfl, rfl⟩
  go_wp2_with fail
  go_ret
  exact ⟨rfl, rfl⟩

set_option maxHeartbeats 400000 in
theorem ln_zero (x : Nat) (w : World) (h : U64 x) (hn : nanB x = false) (hl : (FloatKind.f64.format.order x 0 == some .lt) = false) (he : (FloatKind.f64.format.order x 0 == some .eq) = true) :
    Calls Tryz.prog 88 #[.float .f64 x] w fun e w' => e = .returned (.float .f64 18442240474082181120) ∧ w' = w := by
  have H := hideS (isNaN_math x w h)
  rw [hn] at H
  clear h hn
  go_enter Tryz.func88, Tryz.ntmps88
  go_wp2_with fail
  refine H.out.mono ?_
  rintro e w' ⟨rfl, rfl⟩
  go_wp2_with fail
  refine (inf_neg _).mono ?_
  rintro e w' ⟨rfl, rfl⟩
  go_wp2_with fail
  go_ret
  exact ⟨rfl, rfl⟩

set_option maxHeartbeats 400000 in
theorem ln_inf (x : Nat) (w : World) (h : U64 x) (hn : nanB x = false) (hl : (FloatKind.f64.format.order x 0 == some .lt) = false) (he : (FloatKind.f64.format.order x 0 == some .eq) = false) (hi : (FloatKind.f64.format.order x 9218868437227405311 == some .gt) = true) :
    Calls Tryz.prog 88 #[.float .f64 x] w fun e w' => e = .returned (.float .f64 x) ∧ w' = w := by
  have H := hideS (isNaN_math x w h)
  rw [hn] at H
  have HI := hideS (isInf_pos x true w hi)
  clear h hn hi
  go_enter Tryz.func88, Tryz.ntmps88
  go_wp2_with fail
  refine H.out.mono ?_
  rintro e w' ⟨rfl, rfl⟩
  go_wp2_with fail
  refine HI.out.mono ?_
  rintro e w' ⟨rfl, rfl⟩
  go_wp2_with fail
  go_ret
  exact ⟨rfl, rfl⟩

end Go.Proofs.YtnmjljijgmmakabGreat
namespace Go.Proofs.YtnmjljijgmmakabGreat
open Go.RowKit

end Go.Proofs.YtnmjljijgmmakabGreat
namespace Go.Proofs.YtnmjljijgmmakabGreat
open Go.RowKit

end Go.Proofs.YtnmjljijgmmakabGreat
namespace Go.Proofs.YtnmjljijgmmakabGreat
open Go.RowKit

end Go.Proofs.YtnmjljijgmmakabGreat
namespace Go.Proofs.YtnmjljijgmmakabGreat
open Go.RowKit

end Go.Proofs.YtnmjljijgmmakabGreat
