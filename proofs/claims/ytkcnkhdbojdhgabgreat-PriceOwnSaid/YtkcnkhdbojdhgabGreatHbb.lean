/- The contract of math/bits.Div64 at any words. Every division that Over asks for comes out. -/
import Derived.Test.YtkcnkhdbojdhgabGreatHba
namespace Go.Proofs.YtkcnkhdbojdhgabGreat.A
open Go.RowKit

structure Trial (u y1 q p r : Nat) : Prop where
  t1 : (u : Int).tdiv (y1 : Int) = (q : Int)
  t2 : IntKind.u64.wrap ((q : Int) * (y1 : Int)) = (p : Int)
  t3 : IntKind.u64.wrap ((u : Int) - (p : Int)) = (r : Int)
  t4 : IntKind.u64.wrap (q : Int) = (q : Int)
  hq : q = u / y1
  hr : r = u % y1
theorem trial_any {u y1 : Nat} (h1 : 0 < y1) (hu : u < 18446744073709551616) : ∃ q p r, Trial u y1 q p r := by
  have e := Nat.div_add_mod u y1
  have l := Nat.mod_lt u h1
  have g := Nat.div_le_self u y1
  refine ⟨u / y1, u / y1 * y1, u % y1, ⟨rfl, ?_, ?_, ?_, rfl, rfl⟩⟩
  · rw [← Int.natCast_mul, IntKind.wrap_u64]
    have : u / y1 * y1 ≤ u := Nat.div_mul_le_self u y1
    generalize u / y1 * y1 = z at *
    omega
  · rw [Nat.mul_comm] at e
    generalize u / y1 * y1 = z at *
    generalize u % y1 = m at *
    rw [IntKind.wrap_u64]
    omega
  · generalize u / y1 = z at *
    rw [IntKind.wrap_u64]
    omega
structure Leave (U u1 Q Y R A B C : Nat) : Prop where
  v1 : IntKind.u64.wrap ((U : Int) * 4294967296) = (A : Int)
  v2 : IntKind.u64.wrap ((A : Int) + (u1 : Int)) = (B : Int)
  v3 : IntKind.u64.wrap ((Q : Int) * (Y : Int)) = (C : Int)
  v4 : IntKind.u64.wrap ((B : Int) - (C : Int)) = (R : Int)
theorem leave_any {U u1 Q Y R : Nat} (hR : R < 18446744073709551616) (h : U * 4294967296 + u1 = Q * Y + R) : ∃ A B C, Leave U u1 Q Y R A B C := by
  refine ⟨U * 4294967296 % 18446744073709551616, (U * 4294967296 % 18446744073709551616 + u1) % 18446744073709551616, Q * Y % 18446744073709551616, ⟨?_, ?_, ?_, left_word rfl rfl rfl hR h⟩⟩
  · rw [IntKind.wrap_u64]; omega
  · rw [IntKind.wrap_u64]; omega
  · rw [← Int.natCast_mul]; exact wrap_nat rfl

set_option maxRecDepth 20000 in
set_option maxHeartbeats 6400000 in
theorem div64_any (hi lo d : Nat) (w : World) (h0 : hi ≠ 0) (hlt : hi < d) (hd : d < 18446744073709551616) (hlo : lo < 18446744073709551616) :
    Calls Tryz.prog 113 #[.int .u64 (hi : Int), .int .u64 (lo : Int), .int .u64 (d : Int)] w fun e w' => e = .returned (.tuple #[.int .u64 (((hi * 18446744073709551616 + lo) / d : Nat) : Int), .int .u64 (((hi * 18446744073709551616 + lo) % d : Nat) : Int)]) ∧ ∃ q, w' = w.drewN q := by
  obtain ⟨ld, hld⟩ : ∃ ld, ld = 63 - d.log2 := ⟨_, rfl⟩
  obtain ⟨Y, y1, y0, U, Z, u1, u0, a, c, hk⟩ := kn_any hlt hd hlo hld
  have HLd := hideS fun w => turned (lead_x d ld w (by omega) hd hld)
  have hy0 := hk.y0b
  have hyy := hk.yy
  have hyh := hk.yh
  have hyf := hk.yf
  have hUY := hk.uY
  have hu1 := hk.u1b
  have hu0 := hk.u0b
  have hy1 : 2147483648 ≤ y1 := by omega
  have hyp : 0 < y1 * 4294967296 + y0 := by omega
  obtain ⟨e1, e2⟩ := kn_whole (b := 4294967296) (y := d) (X := hi * 18446744073709551616 + lo) (s := ld) (by omega) hk.all
  rw [← hk.dY] at e1 e2
  have hQ1b := kn_small (b := 4294967296) hu1 hUY
  have hR1b := Nat.mod_lt (U * 4294967296 + u1) (show 0 < Y by omega)
  have d1 := Nat.div_add_mod (U * 4294967296 + u1) Y
  obtain ⟨R1, hR1⟩ : ∃ R1, (U * 4294967296 + u1) % Y = R1 := ⟨_, rfl⟩
  rw [hR1] at e1 e2 hR1b d1
  have hQ0b := kn_small (b := 4294967296) hu0 hR1b
  have hR0b := Nat.mod_lt (R1 * 4294967296 + u0) (show 0 < Y by omega)
  have d0 := Nat.div_add_mod (R1 * 4294967296 + u0) Y
  obtain ⟨R0, hR0⟩ : ∃ R0, (R1 * 4294967296 + u0) % Y = R0 := ⟨_, rfl⟩
  rw [hR0] at e2 hR0b d0
  have hC1 := fun q r (h : KL 4294967296 y1 y0 U u1 q r) (hq : q ≤ 4294967296 + 1) => kl_cases h hq hy0 hyp (by rw [← hyy]; exact hQ1b)
  have hC2 := fun q r (h : KL 4294967296 y1 y0 R1 u0 q r) (hq : q ≤ 4294967296 + 1) => kl_cases h hq hy0 hyp (by rw [← hyy]; exact hQ0b)
  rw [← hyy] at hC1 hC2
  obtain ⟨Q1, hQ1⟩ : ∃ Q1, (U * 4294967296 + u1) / Y = Q1 := ⟨_, rfl⟩
  obtain ⟨Q0, hQ0⟩ : ∃ Q0, (R1 * 4294967296 + u0) / Y = Q0 := ⟨_, rfl⟩
  rw [hQ1] at e1 hQ1b d1 hC1
  rw [hQ0] at e1 hQ0b d0 hC2
  have HC1 := hideS hC1
  have HC2 := hideS hC2
  obtain ⟨qa, pa, ra, ta⟩ := trial_any (u := U) (y1 := y1) (by omega) (by omega)
  obtain ⟨qb, pb, rb0, tb⟩ := trial_any (u := R1) (y1 := y1) (by omega) (by omega)
  have HS1 : Hid (KL 4294967296 y1 y0 U u1 qa ra) := by rw [ta.hq, ta.hr]; exact kl_start hu1 (by omega)
  have HS2 : Hid (KL 4294967296 y1 y0 R1 u0 qb rb0) := by rw [tb.hq, tb.hr]; exact kl_start hu0 (by omega)
  have hqa : qa ≤ 4294967297 := by rw [ta.hq]; exact kn_first (b := 4294967296) (y0 := y0) (by omega) hy0 (by omega) (by omega)
  have hqb : qb ≤ 4294967297 := by rw [tb.hq]; exact kn_first (b := 4294967296) (y0 := y0) (by omega) hy0 (by omega) (by omega)
  have hy1b : y1 < 4294967296 := by omega
  have hra : ra < 4294967296 := by rw [ta.hr]; exact Nat.lt_trans (Nat.mod_lt _ (by omega)) hy1b
  have hrb0 : rb0 < 4294967296 := by rw [tb.hr]; exact Nat.lt_trans (Nat.mod_lt _ (by omega)) hy1b
  obtain ⟨A1, B1, C1, l1⟩ := leave_any (U := U) (u1 := u1) (Q := Q1) (Y := Y) (R := R1) (by omega) (by rw [Nat.mul_comm Q1]; exact d1.symm)
  obtain ⟨A0, B0, C0, l0⟩ := leave_any (U := R1) (u1 := u0) (Q := Q0) (Y := Y) (R := R0) (by omega) (by rw [Nat.mul_comm Q0]; exact d0.symm)
  obtain ⟨res1, hres1⟩ : ∃ res1, Q1 * 4294967296 + Q0 = res1 := ⟨_, rfl⟩
  obtain ⟨res2, hres2⟩ : ∃ res2, R0 / 2 ^ ld = res2 := ⟨_, rfl⟩
  rw [e1, e2, hres1, hres2]
  obtain ⟨E1, hE1⟩ : ∃ E1, Q1 * 4294967296 = E1 := ⟨_, rfl⟩
  obtain ⟨Q1i, hQ1i⟩ : ∃ Q1i : Int, Q1i = (Q1 : Int) := ⟨_, rfl⟩
  obtain ⟨Q0i, hQ0i⟩ : ∃ Q0i : Int, Q0i = (Q0 : Int) := ⟨_, rfl⟩
  have z1 : IntKind.u64.wrap (Q1i * 4294967296) = (E1 : Int) := by rw [IntKind.wrap_u64]; omega
  have z2 : IntKind.u64.wrap ((E1 : Int) + Q0i) = (res1 : Int) := by rw [IntKind.wrap_u64]; omega
  have z7 : (R0 : Int) / 2 ^ ld = (res2 : Int) := by rw [← hres2, Int.natCast_ediv, Int.natCast_pow]; rfl
  have hd1 : ¬ ((d : Int) ≤ (hi : Int)) := by omega
  have hd2 : ((d : Int) == 0) = false := by simp; omega
  have hd3 : ((hi : Int) == 0) = false := by simp; omega
  have lds := hk.lds
  have f1 := hk.f1
  have f2 := hk.f2
  have f3 := hk.f3
  have f4 := hk.f4
  have f5 := hk.f5
  have f6 := hk.f6
  have f7 := hk.f7
  have f8 := hk.f8
  have f9 := hk.f9
  have t1 := ta.t1
  have t2 := ta.t2
  have t3 := ta.t3
  have t4 := ta.t4
  have s1 := tb.t1
  have s2 := tb.t2
  have s3 := tb.t3
  have s4 := tb.t4
  obtain ⟨v1, v2, v3, v4⟩ := l1
  obtain ⟨k1, k2, k3, k4⟩ := l0
  rw [← hQ1i] at v3
  rw [← hQ0i] at k3
  have HQ1i := hideS hQ1i
  have HQ0i := hideS hQ0i
  obtain ⟨qai, hqai⟩ : ∃ qai : Int, qai = (qa : Int) := ⟨_, rfl⟩
  obtain ⟨qbi, hqbi⟩ : ∃ qbi : Int, qbi = (qb : Int) := ⟨_, rfl⟩
  obtain ⟨rai, hrai⟩ : ∃ rai : Int, rai = (ra : Int) := ⟨_, rfl⟩
  obtain ⟨rbi, hrbi⟩ : ∃ rbi : Int, rbi = (rb0 : Int) := ⟨_, rfl⟩
  rw [← hqai] at t1 t2 t4
  rw [← hqbi] at s1 s2 s4
  rw [← hrai] at t3
  rw [← hrbi] at s3
  have HQA := hideS hqai
  have HQB := hideS hqbi
  have HRA := hideS hrai
  have HRB := hideS hrbi
  have hy1p : (0 : Int) < (y1 : Int) := by omega
  clear hC1 hC2 d1 d0 e1 e2 hQ1 hQ0 hR1 hR0 hres1 hres2 hld hE1 hyy hk ta tb hQ1i hQ0i hqai hqbi hrai hrbi
  go_enter Tryz.func113, Tryz.ntmps113
  go_wp2_with (go_at_call 44; refine (HLd.out _).mono ?_; rintro e w' ⟨rfl, rfl⟩)
  go_loop [15, 16] (fun sq sr => ∃ (q r : Nat) (qi ri : Int), sq = .int .u64 qi ∧ sr = .int .u64 ri ∧ Hid (qi = (q : Int)) ∧ Hid (ri = (r : Int)) ∧ r < 4294967296 ∧ q ≤ 4294967297 ∧ Hid (KL 4294967296 y1 y0 U u1 q r)) (fun sq _ => (intOf sq).toNat)
  case atStart => exact ⟨qa, ra, qai, rai, rfl, rfl, HQA, HRA, hra, hqa, HS1⟩
  case round =>
    obtain ⟨q, r, qi, ri, rfl, rfl, HQI, HRI, hr, hq, HKL⟩ := hrel
    have HC := hideS (HC1.out q r HKL.out hq)
    clear HKL
    have hqi := HQI.out
    have hri := HRI.out
    obtain ⟨rn, hrn⟩ : ∃ rn, r + y1 = rn := ⟨_, rfl⟩
    obtain ⟨rb, hrb⟩ : ∃ rb, 4294967296 * r = rb := ⟨_, rfl⟩
    obtain ⟨rs, hrs⟩ : ∃ rs, rb + u1 = rs := ⟨_, rfl⟩
    obtain ⟨rbj, hrbj⟩ : ∃ rbj : Int, rbj = (rb : Int) := ⟨_, rfl⟩
    obtain ⟨rsi, hrsi⟩ : ∃ rsi : Int, rsi = (rs : Int) := ⟨_, rfl⟩
    obtain ⟨rni, hrni⟩ : ∃ rni : Int, rni = (rn : Int) := ⟨_, rfl⟩
    have HRN := hideS hrni
    have r1 : IntKind.u64.wrap (4294967296 * ri) = rbj := by rw [IntKind.wrap_u64]; omega
    have r2 : IntKind.u64.wrap (rbj + (u1 : Int)) = rsi := by rw [IntKind.wrap_u64]; omega
    have m2 : IntKind.u64.wrap (ri + (y1 : Int)) = rni := by rw [IntKind.wrap_u64]; omega
    rw [hrn, hrb, hrs] at HC
    rcases HC.out with ⟨x1, x2, x3⟩ | ⟨q', x1, x2, x3, x4⟩
    · have pz := prod_word (q := q) (y0 := y0) x1 hy0
      obtain ⟨p, hp⟩ : ∃ p, q * y0 = p := ⟨_, rfl⟩
      rw [hp] at pz x2
      obtain ⟨pi, hpi⟩ : ∃ pi : Int, pi = (p : Int) := ⟨_, rfl⟩
      rw [← hpi, ← hqi] at pz
      have x1i : qi < 4294967296 := by omega
      have x2i : ¬ (rsi < pi) := by omega
      obtain rfl : qi = Q1i := by rw [HQI.out, x3, HQ1i.out]
      clear HC hrn hrb hrs hrbj hrsi hrni hpi hp x1 x2 x3 hqi hri hr hq
      go_wp2_with fail
      go_loop [16, 18] (fun sr sq => ∃ (q r : Nat) (qi ri : Int), sq = .int .u64 qi ∧ sr = .int .u64 ri ∧ Hid (qi = (q : Int)) ∧ Hid (ri = (r : Int)) ∧ r < 4294967296 ∧ q ≤ 4294967297 ∧ Hid (KL 4294967296 y1 y0 R1 u0 q r)) (fun _ sq => (intOf sq).toNat)
      case atStart => exact ⟨qb, rb0, qbi, rbi, rfl, rfl, HQB, HRB, hrb0, hqb, HS2⟩
      case round =>
        obtain ⟨q, r, qi, ri, rfl, rfl, HQI, HRI, hr, hq, HKL⟩ := hrel
        have HC := hideS (HC2.out q r HKL.out hq)
        clear HKL
        have hqi := HQI.out
        have hri := HRI.out
        obtain ⟨rn, hrn⟩ : ∃ rn, r + y1 = rn := ⟨_, rfl⟩
        obtain ⟨rb, hrb⟩ : ∃ rb, 4294967296 * r = rb := ⟨_, rfl⟩
        obtain ⟨rs, hrs⟩ : ∃ rs, rb + u0 = rs := ⟨_, rfl⟩
        obtain ⟨rbj, hrbj⟩ : ∃ rbj : Int, rbj = (rb : Int) := ⟨_, rfl⟩
        obtain ⟨rsi, hrsi⟩ : ∃ rsi : Int, rsi = (rs : Int) := ⟨_, rfl⟩
        obtain ⟨rni, hrni⟩ : ∃ rni : Int, rni = (rn : Int) := ⟨_, rfl⟩
        have HRN := hideS hrni
        have r1 : IntKind.u64.wrap (4294967296 * ri) = rbj := by rw [IntKind.wrap_u64]; omega
        have r2 : IntKind.u64.wrap (rbj + (u0 : Int)) = rsi := by rw [IntKind.wrap_u64]; omega
        have m2 : IntKind.u64.wrap (ri + (y1 : Int)) = rni := by rw [IntKind.wrap_u64]; omega
        rw [hrn, hrb, hrs] at HC
        rcases HC.out with ⟨x1, x2, x3⟩ | ⟨q', x1, x2, x3, x4⟩
        · have pz := prod_word (q := q) (y0 := y0) x1 hy0
          obtain ⟨p, hp⟩ : ∃ p, q * y0 = p := ⟨_, rfl⟩
          rw [hp] at pz x2
          obtain ⟨pi, hpi⟩ : ∃ pi : Int, pi = (p : Int) := ⟨_, rfl⟩
          rw [← hpi, ← hqi] at pz
          have x1i : qi < 4294967296 := by omega
          have x2i : ¬ (rsi < pi) := by omega
          obtain rfl : qi = Q0i := by rw [HQI.out, x3, HQ0i.out]
          clear HC hrn hrb hrs hrbj hrsi hrni hpi hp x1 x2 x3 hqi hri hr hq
          go_wp2_with fail
          go_ret2
          exact ⟨rfl, 0, rfl⟩
        · obtain ⟨q'i, hq'i⟩ : ∃ q'i : Int, q'i = (q' : Int) := ⟨_, rfl⟩
          have HQN := hideS hq'i
          have m1 : IntKind.u64.wrap (qi - 1) = q'i := by rw [IntKind.wrap_u64]; omega
          clear HC
          rcases x3 with x3 | ⟨x3, x5⟩
          · have x3i : 4294967296 ≤ qi := by omega
            clear hrb hrs hrbj hrsi
            rcases x4 with ⟨x4, x6⟩ | ⟨x4, x6⟩
            · have x4i : 4294967296 ≤ rni := by omega
              obtain rfl : q'i = Q0i := by rw [HQN.out, x6, HQ0i.out]
              clear x6 x4 hrn hrni hqi hri hr hq hq'i x1 x2 x3
              go_wp2_with fail
              go_ret2
              exact ⟨rfl, 0, rfl⟩
            · have HK2 := hideS x6
              clear x6
              have x4i : rni < 4294967296 := by omega
              clear hrn hrni hqi hri hq'i
              go_wp2_with fail
              go_round
              case rel => exact ⟨q', rn, q'i, rni, rfl, rfl, HQN, HRN, x4, by omega, HK2⟩
              case measure => have := HQI.out; have := HQN.out; simp [intOf]; omega
          · have pz := prod_word (q := q) (y0 := y0) x3 hy0
            obtain ⟨p, hp⟩ : ∃ p, q * y0 = p := ⟨_, rfl⟩
            rw [hp] at pz x5
            obtain ⟨pi, hpi⟩ : ∃ pi : Int, pi = (p : Int) := ⟨_, rfl⟩
            rw [← hpi, ← hqi] at pz
            have x3i : qi < 4294967296 := by omega
            have x5i : rsi < pi := by omega
            clear hrb hrs hrbj hrsi hp hpi x5
            rcases x4 with ⟨x4, x6⟩ | ⟨x4, x6⟩
            · have x4i : 4294967296 ≤ rni := by omega
              obtain rfl : q'i = Q0i := by rw [HQN.out, x6, HQ0i.out]
              clear x6 x4 hrn hrni hqi hri hr hq hq'i x1 x2 x3
              go_wp2_with fail
              go_ret2
              exact ⟨rfl, 0, rfl⟩
            · have HK2 := hideS x6
              clear x6
              have x4i : rni < 4294967296 := by omega
              clear hrn hrni hqi hri hq'i
              go_wp2_with fail
              go_round
              case rel => exact ⟨q', rn, q'i, rni, rfl, rfl, HQN, HRN, x4, by omega, HK2⟩
              case measure => have := HQI.out; have := HQN.out; simp [intOf]; omega
    · obtain ⟨q'i, hq'i⟩ : ∃ q'i : Int, q'i = (q' : Int) := ⟨_, rfl⟩
      have HQN := hideS hq'i
      have m1 : IntKind.u64.wrap (qi - 1) = q'i := by rw [IntKind.wrap_u64]; omega
      clear HC
      rcases x3 with x3 | ⟨x3, x5⟩
      · have x3i : 4294967296 ≤ qi := by omega
        clear hrb hrs hrbj hrsi
        rcases x4 with ⟨x4, x6⟩ | ⟨x4, x6⟩
        · have x4i : 4294967296 ≤ rni := by omega
          obtain rfl : q'i = Q1i := by rw [HQN.out, x6, HQ1i.out]
          clear x6 x4 hrn hrni hqi hri hr hq hq'i x1 x2 x3
          go_wp2_with fail
          go_loop [16, 18] (fun sr sq => ∃ (q r : Nat) (qi ri : Int), sq = .int .u64 qi ∧ sr = .int .u64 ri ∧ Hid (qi = (q : Int)) ∧ Hid (ri = (r : Int)) ∧ r < 4294967296 ∧ q ≤ 4294967297 ∧ Hid (KL 4294967296 y1 y0 R1 u0 q r)) (fun _ sq => (intOf sq).toNat)
          case atStart => exact ⟨qb, rb0, qbi, rbi, rfl, rfl, HQB, HRB, hrb0, hqb, HS2⟩
          case round =>
            obtain ⟨q, r, qi, ri, rfl, rfl, HQI, HRI, hr, hq, HKL⟩ := hrel
            have HC := hideS (HC2.out q r HKL.out hq)
            clear HKL
            have hqi := HQI.out
            have hri := HRI.out
            obtain ⟨rn, hrn⟩ : ∃ rn, r + y1 = rn := ⟨_, rfl⟩
            obtain ⟨rb, hrb⟩ : ∃ rb, 4294967296 * r = rb := ⟨_, rfl⟩
            obtain ⟨rs, hrs⟩ : ∃ rs, rb + u0 = rs := ⟨_, rfl⟩
            obtain ⟨rbj, hrbj⟩ : ∃ rbj : Int, rbj = (rb : Int) := ⟨_, rfl⟩
            obtain ⟨rsi, hrsi⟩ : ∃ rsi : Int, rsi = (rs : Int) := ⟨_, rfl⟩
            obtain ⟨rni, hrni⟩ : ∃ rni : Int, rni = (rn : Int) := ⟨_, rfl⟩
            have HRN := hideS hrni
            have r1 : IntKind.u64.wrap (4294967296 * ri) = rbj := by rw [IntKind.wrap_u64]; omega
            have r2 : IntKind.u64.wrap (rbj + (u0 : Int)) = rsi := by rw [IntKind.wrap_u64]; omega
            have m2 : IntKind.u64.wrap (ri + (y1 : Int)) = rni := by rw [IntKind.wrap_u64]; omega
            rw [hrn, hrb, hrs] at HC
            rcases HC.out with ⟨x1, x2, x3⟩ | ⟨q', x1, x2, x3, x4⟩
            · have pz := prod_word (q := q) (y0 := y0) x1 hy0
              obtain ⟨p, hp⟩ : ∃ p, q * y0 = p := ⟨_, rfl⟩
              rw [hp] at pz x2
              obtain ⟨pi, hpi⟩ : ∃ pi : Int, pi = (p : Int) := ⟨_, rfl⟩
              rw [← hpi, ← hqi] at pz
              have x1i : qi < 4294967296 := by omega
              have x2i : ¬ (rsi < pi) := by omega
              obtain rfl : qi = Q0i := by rw [HQI.out, x3, HQ0i.out]
              clear HC hrn hrb hrs hrbj hrsi hrni hpi hp x1 x2 x3 hqi hri hr hq
              go_wp2_with fail
              go_ret2
              exact ⟨rfl, 0, rfl⟩
            · obtain ⟨q'i, hq'i⟩ : ∃ q'i : Int, q'i = (q' : Int) := ⟨_, rfl⟩
              have HQN := hideS hq'i
              have m1 : IntKind.u64.wrap (qi - 1) = q'i := by rw [IntKind.wrap_u64]; omega
              clear HC
              rcases x3 with x3 | ⟨x3, x5⟩
              · have x3i : 4294967296 ≤ qi := by omega
                clear hrb hrs hrbj hrsi
                rcases x4 with ⟨x4, x6⟩ | ⟨x4, x6⟩
                · have x4i : 4294967296 ≤ rni := by omega
                  obtain rfl : q'i = Q0i := by rw [HQN.out, x6, HQ0i.out]
                  clear x6 x4 hrn hrni hqi hri hr hq hq'i x1 x2 x3
                  go_wp2_with fail
                  go_ret2
                  exact ⟨rfl, 0, rfl⟩
                · have HK2 := hideS x6
                  clear x6
                  have x4i : rni < 4294967296 := by omega
                  clear hrn hrni hqi hri hq'i
                  go_wp2_with fail
                  go_round
                  case rel => exact ⟨q', rn, q'i, rni, rfl, rfl, HQN, HRN, x4, by omega, HK2⟩
                  case measure => have := HQI.out; have := HQN.out; simp [intOf]; omega
              · have pz := prod_word (q := q) (y0 := y0) x3 hy0
                obtain ⟨p, hp⟩ : ∃ p, q * y0 = p := ⟨_, rfl⟩
                rw [hp] at pz x5
                obtain ⟨pi, hpi⟩ : ∃ pi : Int, pi = (p : Int) := ⟨_, rfl⟩
                rw [← hpi, ← hqi] at pz
                have x3i : qi < 4294967296 := by omega
                have x5i : rsi < pi := by omega
                clear hrb hrs hrbj hrsi hp hpi x5
                rcases x4 with ⟨x4, x6⟩ | ⟨x4, x6⟩
                · have x4i : 4294967296 ≤ rni := by omega
                  obtain rfl : q'i = Q0i := by rw [HQN.out, x6, HQ0i.out]
                  clear x6 x4 hrn hrni hqi hri hr hq hq'i x1 x2 x3
                  go_wp2_with fail
                  go_ret2
                  exact ⟨rfl, 0, rfl⟩
                · have HK2 := hideS x6
                  clear x6
                  have x4i : rni < 4294967296 := by omega
                  clear hrn hrni hqi hri hq'i
                  go_wp2_with fail
                  go_round
                  case rel => exact ⟨q', rn, q'i, rni, rfl, rfl, HQN, HRN, x4, by omega, HK2⟩
                  case measure => have := HQI.out; have := HQN.out; simp [intOf]; omega
        · have HK2 := hideS x6
          clear x6
          have x4i : rni < 4294967296 := by omega
          clear hrn hrni hqi hri hq'i
          go_wp2_with fail
          go_round
          case rel => exact ⟨q', rn, q'i, rni, rfl, rfl, HQN, HRN, x4, by omega, HK2⟩
          case measure => have := HQI.out; have := HQN.out; simp [intOf]; omega
      · have pz := prod_word (q := q) (y0 := y0) x3 hy0
        obtain ⟨p, hp⟩ : ∃ p, q * y0 = p := ⟨_, rfl⟩
        rw [hp] at pz x5
        obtain ⟨pi, hpi⟩ : ∃ pi : Int, pi = (p : Int) := ⟨_, rfl⟩
        rw [← hpi, ← hqi] at pz
        have x3i : qi < 4294967296 := by omega
        have x5i : rsi < pi := by omega
        clear hrb hrs hrbj hrsi hp hpi x5
        rcases x4 with ⟨x4, x6⟩ | ⟨x4, x6⟩
        · have x4i : 4294967296 ≤ rni := by omega
          obtain rfl : q'i = Q1i := by rw [HQN.out, x6, HQ1i.out]
          clear x6 x4 hrn hrni hqi hri hr hq hq'i x1 x2 x3
          go_wp2_with fail
          go_loop [16, 18] (fun sr sq => ∃ (q r : Nat) (qi ri : Int), sq = .int .u64 qi ∧ sr = .int .u64 ri ∧ Hid (qi = (q : Int)) ∧ Hid (ri = (r : Int)) ∧ r < 4294967296 ∧ q ≤ 4294967297 ∧ Hid (KL 4294967296 y1 y0 R1 u0 q r)) (fun _ sq => (intOf sq).toNat)
          case atStart => exact ⟨qb, rb0, qbi, rbi, rfl, rfl, HQB, HRB, hrb0, hqb, HS2⟩
          case round =>
            obtain ⟨q, r, qi, ri, rfl, rfl, HQI, HRI, hr, hq, HKL⟩ := hrel
            have HC := hideS (HC2.out q r HKL.out hq)
            clear HKL
            have hqi := HQI.out
            have hri := HRI.out
            obtain ⟨rn, hrn⟩ : ∃ rn, r + y1 = rn := ⟨_, rfl⟩
            obtain ⟨rb, hrb⟩ : ∃ rb, 4294967296 * r = rb := ⟨_, rfl⟩
            obtain ⟨rs, hrs⟩ : ∃ rs, rb + u0 = rs := ⟨_, rfl⟩
            obtain ⟨rbj, hrbj⟩ : ∃ rbj : Int, rbj = (rb : Int) := ⟨_, rfl⟩
            obtain ⟨rsi, hrsi⟩ : ∃ rsi : Int, rsi = (rs : Int) := ⟨_, rfl⟩
            obtain ⟨rni, hrni⟩ : ∃ rni : Int, rni = (rn : Int) := ⟨_, rfl⟩
            have HRN := hideS hrni
            have r1 : IntKind.u64.wrap (4294967296 * ri) = rbj := by rw [IntKind.wrap_u64]; omega
            have r2 : IntKind.u64.wrap (rbj + (u0 : Int)) = rsi := by rw [IntKind.wrap_u64]; omega
            have m2 : IntKind.u64.wrap (ri + (y1 : Int)) = rni := by rw [IntKind.wrap_u64]; omega
            rw [hrn, hrb, hrs] at HC
            rcases HC.out with ⟨x1, x2, x3⟩ | ⟨q', x1, x2, x3, x4⟩
            · have pz := prod_word (q := q) (y0 := y0) x1 hy0
              obtain ⟨p, hp⟩ : ∃ p, q * y0 = p := ⟨_, rfl⟩
              rw [hp] at pz x2
              obtain ⟨pi, hpi⟩ : ∃ pi : Int, pi = (p : Int) := ⟨_, rfl⟩
              rw [← hpi, ← hqi] at pz
              have x1i : qi < 4294967296 := by omega
              have x2i : ¬ (rsi < pi) := by omega
              obtain rfl : qi = Q0i := by rw [HQI.out, x3, HQ0i.out]
              clear HC hrn hrb hrs hrbj hrsi hrni hpi hp x1 x2 x3 hqi hri hr hq
              go_wp2_with fail
              go_ret2
              exact ⟨rfl, 0, rfl⟩
            · obtain ⟨q'i, hq'i⟩ : ∃ q'i : Int, q'i = (q' : Int) := ⟨_, rfl⟩
              have HQN := hideS hq'i
              have m1 : IntKind.u64.wrap (qi - 1) = q'i := by rw [IntKind.wrap_u64]; omega
              clear HC
              rcases x3 with x3 | ⟨x3, x5⟩
              · have x3i : 4294967296 ≤ qi := by omega
                clear hrb hrs hrbj hrsi
                rcases x4 with ⟨x4, x6⟩ | ⟨x4, x6⟩
                · have x4i : 4294967296 ≤ rni := by omega
                  obtain rfl : q'i = Q0i := by rw [HQN.out, x6, HQ0i.out]
                  clear x6 x4 hrn hrni hqi hri hr hq hq'i x1 x2 x3
                  go_wp2_with fail
                  go_ret2
                  exact ⟨rfl, 0, rfl⟩
                · have HK2 := hideS x6
                  clear x6
                  have x4i : rni < 4294967296 := by omega
                  clear hrn hrni hqi hri hq'i
                  go_wp2_with fail
                  go_round
                  case rel => exact ⟨q', rn, q'i, rni, rfl, rfl, HQN, HRN, x4, by omega, HK2⟩
                  case measure => have := HQI.out; have := HQN.out; simp [intOf]; omega
              · have pz := prod_word (q := q) (y0 := y0) x3 hy0
                obtain ⟨p, hp⟩ : ∃ p, q * y0 = p := ⟨_, rfl⟩
                rw [hp] at pz x5
                obtain ⟨pi, hpi⟩ : ∃ pi : Int, pi = (p : Int) := ⟨_, rfl⟩
                rw [← hpi, ← hqi] at pz
                have x3i : qi < 4294967296 := by omega
                have x5i : rsi < pi := by omega
                clear hrb hrs hrbj hrsi hp hpi x5
                rcases x4 with ⟨x4, x6⟩ | ⟨x4, x6⟩
                · have x4i : 4294967296 ≤ rni := by omega
                  obtain rfl : q'i = Q0i := by rw [HQN.out, x6, HQ0i.out]
                  clear x6 x4 hrn hrni hqi hri hr hq hq'i x1 x2 x3
                  go_wp2_with fail
                  go_ret2
                  exact ⟨rfl, 0, rfl⟩
                · have HK2 := hideS x6
                  clear x6
                  have x4i : rni < 4294967296 := by omega
                  clear hrn hrni hqi hri hq'i
                  go_wp2_with fail
                  go_round
                  case rel => exact ⟨q', rn, q'i, rni, rfl, rfl, HQN, HRN, x4, by omega, HK2⟩
                  case measure => have := HQI.out; have := HQN.out; simp [intOf]; omega
        · have HK2 := hideS x6
          clear x6
          have x4i : rni < 4294967296 := by omega
          clear hrn hrni hqi hri hq'i
          go_wp2_with fail
          go_round
          case rel => exact ⟨q', rn, q'i, rni, rfl, rfl, HQN, HRN, x4, by omega, HK2⟩
          case measure => have := HQI.out; have := HQN.out; simp [intOf]; omega
end Go.Proofs.YtkcnkhdbojdhgabGreat.A
namespace Go.Proofs.YtkcnkhdbojdhgabGreat.A
open Go.RowKit

theorem divOk_any {M d : Nat} (hd : 0 < d) (hd2 : d < 18446744073709551616) : DivOk M d := by
  intro j y w hy
  have hyb : y < 18446744073709551616 := by rw [hy]; exact Nat.mod_lt _ (by decide)
  by_cases h0 : M / 2 ^ (64 * (j + 1)) % d = 0
  · rw [h0, Nat.zero_mul, Nat.zero_add]
    exact div64_zero y d w hd hyb
  · exact div64_any _ y d w h0 (Nat.mod_lt _ hd) hd2 hyb
end Go.Proofs.YtkcnkhdbojdhgabGreat.A
