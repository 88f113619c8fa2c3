/- The contracts of package acc's Prod (of numbers), Turn, Value, Sign. -/
import Derived.Test.YtdmldggjgaaliaaGreatAccJ
namespace Go.Proofs.YtdmldggjgaaliaaGreat.A
open Go.RowKit

theorem sign_prod (m n : Int) : sI (decide (m < 0) != decide (n < 0)) * ((m.natAbs : Int) * (n.natAbs : Int)) = m * n := by
  unfold sI
  by_cases h1 : m < 0
  · have e1 : (m.natAbs : Int) = -m := by omega
    by_cases h2 : n < 0
    · have e2 : (n.natAbs : Int) = -n := by omega
      simp [h1, h2, e1, e2, Int.neg_mul_neg]
    · have e2 : (n.natAbs : Int) = n := by omega
      simp [h1, h2, e1, e2, Int.neg_mul]
  · have e1 : (m.natAbs : Int) = m := by omega
    by_cases h2 : n < 0
    · have e2 : (n.natAbs : Int) = -n := by omega
      simp [h1, h2, e1, e2, Int.mul_neg]
    · have e2 : (n.natAbs : Int) = n := by omega
      simp [h1, h2, e1, e2]
theorem mul64_any (x y : Nat) (w : World) (hx : x < 18446744073709551616) (hy : y < 18446744073709551616) :
    Calls Tryz.prog 44 #[.int .u64 x, .int .u64 y] w fun e w' => e = .returned (.tuple #[.int .u64 ((x * y / 18446744073709551616 : Nat) : Int), .int .u64 ((x * y % 18446744073709551616 : Nat) : Int)]) ∧ w' = w :=
  Any.bits_Mul64 Tryz.mulL x y hx hy w

set_option maxHeartbeats 800000 in
theorem prod_any (B b : Nat) (v : Value) (L : Nat) (a : St) (x y : Nat) (u t : Int) (w : World) (h : AccAt w B b v L a) (hB : B ≤ w.heap.size) (hu : Hid (u = x)) (hx : U64 u) (ht : Hid (t = y)) (hy : U64 t) (h1 : splOk u = true) (h2 : splOk t = true) (hL : L ≤ 40000) :
    Calls Tryz.prog 22 #[.pointer (some ⟨b, 0, none⟩), .float .f64 x, .float .f64 y] w fun r w' => r = .returned (.tuple #[]) ∧ ∃ v', Did w w' B b v (max L 70 + 1) (a.merge (prodS u t)) v' := by
  have HS := hideS (split_as x u w hu hx)
  have HT := hideS (split_as y t w ht hy)
  rw [h1] at HS
  rw [h2] at HT
  have hm := splM_bd u
  have he := splE_bd u
  have hn := splM_bd t
  have hf := splE_bd t
  obtain ⟨sh, hsh⟩ : ∃ sh : Nat, splE u + splE t + 2148 = sh := ⟨(splE u + splE t + 2148).toNat, by omega⟩
  have hP : (splM u).natAbs * (splM t).natAbs < 9007199254740992 * 9007199254740992 := Nat.mul_lt_mul'' (by omega) (by omega)
  have HM := hideS (fun w => mul64_any (splM u).natAbs (splM t).natAbs w (by omega) (by omega))
  have HZ := hideS (fun w => sizeOf_any (splM u) w (by omega) (by omega))
  have HY := hideS (fun w => sizeOf_any (splM t) w (by omega) (by omega))
  obtain ⟨tgt, htgt⟩ : ∃ tgt : St, a.merge (prodS u t) = tgt := ⟨_, rfl⟩
  rw [htgt]
  obtain ⟨P, hPP⟩ : ∃ P, (splM u).natAbs * (splM t).natAbs = P := ⟨_, rfl⟩
  have HP := hideS (put_any B b v L a (P / 18446744073709551616) (P % 18446744073709551616) sh (splE u + splE t) (decide (splM u < 0) != decide (splM t < 0)) w h hB (by omega) (by omega) hsh (by omega) hL)
  have HR : Hid (tgt = ⟨a.s, if a.s = 0 then a.N + sI (decide (splM u < 0) != decide (splM t < 0)) * (((P / 18446744073709551616 * 18446744073709551616 + P % 18446744073709551616) * 2 ^ sh : Nat) : Int) else a.N⟩) := by
    show _ = _
    rw [← htgt, merge_num h.ok]
    congr 1
    unfold prodS
    congr 1
    rw [hsh, Int.toNat_natCast, show P / 18446744073709551616 * 18446744073709551616 + P % 18446744073709551616 = P by omega, Int.natCast_mul, ← Int.mul_assoc, Int.natCast_pow]
    congr 1
    rw [← hPP, Int.natCast_mul, sign_prod]
  rw [hPP] at HM
  obtain ⟨q1, hq1⟩ : ∃ q1, P / 18446744073709551616 = q1 := ⟨_, rfl⟩
  obtain ⟨q2, hq2⟩ : ∃ q2, P % 18446744073709551616 = q2 := ⟨_, rfl⟩
  rw [hq1, hq2] at HM HP HR
  clear hu hx ht hy h h1 h2 hP hPP htgt hq1 hq2
  generalize splM u = m at *
  generalize splE u = ee at *
  generalize splM t = n at *
  generalize splE t = ff at *
  go_enter Tryz.func22, Tryz.ntmps22
  go_wp2_with fail
  refine (turned HS.out).mono ?_
  rintro e w' ⟨rfl, rfl⟩
  go_wp2_with fail
  refine (turned HT.out).mono ?_
  rintro e w' ⟨rfl, rfl⟩
  go_wp2_with fail
  refine (turned (HZ.out _)).mono ?_
  rintro e w' ⟨rfl, rfl⟩
  go_wp2_with fail
  refine (turned (HY.out _)).mono ?_
  rintro e w' ⟨rfl, rfl⟩
  go_wp2_with fail
  refine (turned (HM.out _)).mono ?_
  rintro e w' ⟨rfl, rfl⟩
  go_wp2_with fail
  refine HP.out.mono ?_
  rintro e w1 ⟨rfl, v1, hd⟩
  have HD := hideS hd
  clear hd
  go_wp2_with fail
  go_end0
  exact ⟨rfl, v1, by rw [HR.out]; exact HD.out⟩

/-- near of a row of words. -/
theorem nearO_any (B : Nat) (v : Value) (ys : List Nat) (more neg : Bool) (w : World) (h : OwnW w B v ys) (hn : ys.length ≤ 100000) (hm : more = true → 0 < ys.length) :
    Calls Tryz.prog 42 #[v, .bool more, .bool neg] w fun e w' => e = .returned (.float .f64 (joinN (sgM neg (mant (ps (fun i => ys.getD i 0) ys.length) more)) (expo (ps (fun i => ys.getD i 0) ys.length)))) ∧ ∃ q, w' = w.drewN q := by
  obtain ⟨p, g, c, rfl, hc1, hc2, hp, hc⟩ := h.shape
  by_cases h0 : ys.length = 0
  · have hmo : more = false := by cases more; rfl; exact absurd (hm rfl) (by omega)
    subst hmo
    rw [h0]
    have := near_none c p neg w
    refine this.mono ?_
    rintro e w' ⟨rfl, hq⟩
    refine ⟨?_, hq⟩
    cases neg <;> rfl
  · obtain ⟨rfl, _⟩ := hp (by omega)
    exact near_core (some ⟨g, 0, none⟩) g c ys.length (fun i => ys.getD i 0) more neg w (by omega) rfl hc hc1 (by unfold maxLen at hc2; omega) h.fit hn (fun k hk => anyBit_any (some ⟨g, 0, none⟩) g c k ys w (fun _ => rfl) (fun j hj => hc j (by omega)) (by omega)) _ rfl

/-- What Value tells, as bits. -/
def valSt (a : St) : Nat := if a.s = 0 then valF a.N else if a.s = 1 then 9218868437227405312 else if a.s = 2 then 18442240474082181120 else 9221120237041090561
set_option maxHeartbeats 400000 in
theorem float_st (s : Nat) (w : World) (h0 : s ≠ 0) (h3 : s ≤ 3) (N : Int) :
    Calls Tryz.prog 39 #[.int .u8 (s : Int)] w fun e w' => e = .returned (.float .f64 (valSt ⟨s, N⟩)) ∧ w' = w := by
  have hb := call_frombits
  rcases (show s = 1 ∨ s = 2 ∨ s = 3 by omega) with rfl | rfl | rfl
  all_goals
    go_enter Tryz.func39, Tryz.ntmps39
    go_wp2_with go_in
    go_ret
    exact ⟨rfl, rfl⟩

set_option maxHeartbeats 800000 in
theorem value_any (B b : Nat) (v : Value) (L : Nat) (a : St) (w : World) (h : AccAt w B b v L a) (hB : B ≤ w.heap.size) (hL : L ≤ 40000) :
    Calls Tryz.prog 23 #[.pointer (some ⟨b, 0, none⟩)] w fun r w' => r = .returned (.float .f64 (valSt a)) ∧ Below w.heap.size w w' := by
  have c0 := h.cell0
  have c1 := h.cell1
  obtain ⟨xs, ho, hl, hs⟩ := h.own
  have hs3 := h.ok.s3
  by_cases h0 : a.s = 0
  · have HZ := hideS (size_any' B v xs a.N w ho hs (by omega) hB)
    have HV : Hid (valSt a = valF a.N) := by show _ = _; unfold valSt; rw [if_pos h0]
    rw [HV.out]
    rw [h0] at c0
    have HL : Hid (xs.length ≤ 40000) := by show _ ≤ _; omega
    clear h ho hl hs hs3 h0 HV
    go_enter Tryz.func23, Tryz.ntmps23
    go_wp2_with fail
    refine HZ.out.mono ?_
    rintro e w1 ⟨v1, ys, rfl, o1, l1, p1, b1⟩
    have HN := hideS (nearO_any B v1 ys false (decide (a.N < 0)) w1 o1 (by have := HL.out; omega) (fun h => by cases h))
    rw [p1, join_mant] at HN
    have HB := hideS b1
    clear o1 l1 p1 b1 HZ
    generalize decide (a.N < 0) = ng at *
    go_wp2_with fail
    refine HN.out.mono ?_
    rintro e w2 ⟨rfl, q, rfl⟩
    go_wp2_with fail
    go_ret
    exact ⟨rfl, ⟨HB.out.os, HB.out.tape, HB.out.output, HB.out.size, HB.out.block⟩⟩
  · have HF := hideS (fun w => float_st a.s w h0 hs3 a.N)
    obtain ⟨t, ht⟩ : ∃ t : Int, ((a.s : Nat) : Int) = t := ⟨_, rfl⟩
    rw [ht] at c0 HF
    have ht0 : (t != 0) = true := by simp; omega
    clear h ho hl hs hs3 h0 ht
    go_enter Tryz.func23, Tryz.ntmps23
    go_wp2_with (go_at_call 39; refine (HF.out _).mono ?_; rintro e w' ⟨rfl, rfl⟩)
    go_ret
    exact ⟨rfl, Below.refl _ _⟩
