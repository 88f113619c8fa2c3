/- The contract of package acc's near: one rounding of a great whole number. -/
import Derived.Test.YtdmldggjgaaliaaGreatAcD
import Derived.Test.YtdmldggjgaaliaaGreatFlo
namespace Go.Proofs.YtdmldggjgaaliaaGreat.A
open Go.RowKit

theorem or_one_nat (k : Nat) : k ||| 1 = if k % 2 = 1 then k else k + 1 := by
  have h : ∀ q : Nat, 2 * q ||| 1 = 2 * q + 1 := fun q => by
    have := Nat.two_pow_add_eq_or_of_lt (i := 1) (b := 1) (by decide) q
    rw [Nat.pow_one] at this; exact this.symm
  by_cases ho : k % 2 = 1
  · rw [if_pos ho]
    have e : k = 2 * (k / 2) ||| 1 := by rw [h]; omega
    conv => lhs; rw [e]
    rw [Nat.or_assoc, Nat.or_self, ← e]
  · rw [if_neg ho]
    have e : k = 2 * (k / 2) := by omega
    conv => lhs; rw [e]
    rw [h]; omega
theorem i64_or_one (k : Nat) (hk : k < 4611686018427387904) : bits .or .i64 (k : Int) 1 = ((if k % 2 = 1 then k else k + 1 : Nat) : Int) := by
  have h1 : (BitVec.ofInt 64 (k : Int)).toNat = k := by
    rw [BitVec.ofInt_natCast, BitVec.toNat_ofNat]; exact Nat.mod_eq_of_lt (by omega)
  show IntKind.i64.wrap ((BitVec.ofInt 64 (k : Int) ||| BitVec.ofInt 64 1).toNat : Int) = _
  rw [BitVec.toNat_or, h1, show (BitVec.ofInt 64 1).toNat = 1 from rfl, or_one_nat, IntKind.wrap_i64]
  split <;> omega

/-- What the two leading words give, as the walk meets it. -/
structure Tail (x y ld : Nat) (a b u m r z m1 : Int) : Prop where
  f1 : IntKind.u64.wrap ((x : Int) * 2 ^ ld) = a
  f2 : (y : Int) / 2 ^ (64 - ld) = b
  f3 : bits .or .u64 a b = u
  u0 : 0 ≤ u
  u1 : u < 18446744073709551616
  uw : u = ((x * 2 ^ ld + y / 2 ^ (64 - ld) : Nat) : Int)
  fm : u / 4 = m
  m0 : 0 ≤ m
  m2 : m < 4611686018427387904
  fr : bits .and .u64 u 3 = r
  rr : r = u % 4
  fz : IntKind.u64.wrap ((y : Int) * 2 ^ ld) = z
  zz : z = ((y * 2 ^ ld % 18446744073709551616 : Nat) : Int)
  fo : bits .or .i64 m 1 = m1
  oo : m1 = if m % 2 = 1 then m else m + 1
  lds : ld ≤ 63
theorem tail_any {x y ld : Nat} (hx : x ≠ 0) (hxf : x < 18446744073709551616) (hy : y < 18446744073709551616) (hld : ld = 63 - x.log2) : ∃ a b u m r z m1, Tail x y ld a b u m r z m1 := by
  obtain ⟨h1, h2, h3, h4⟩ := lead_parts hx hxf hy hld
  have hb2 : y / 2 ^ (64 - ld) < 18446744073709551616 := Nat.lt_of_le_of_lt (Nat.div_le_self _ _) hy
  obtain ⟨W, hW⟩ : ∃ W, x * 2 ^ ld + y / 2 ^ (64 - ld) = W := ⟨_, rfl⟩
  refine ⟨((x * 2 ^ ld : Nat) : Int), ((y / 2 ^ (64 - ld) : Nat) : Int), (W : Int), (W : Int) / 4, (W : Int) % 4, _, if (W : Int) / 4 % 2 = 1 then (W : Int) / 4 else (W : Int) / 4 + 1, ⟨?_, shr_word, ?_, by omega, by omega, by rw [hW], rfl, by omega, by omega, ?_, rfl, shl_word, rfl, ?_, rfl, h4⟩⟩
  · rw [shl_word, Nat.mod_eq_of_lt h1]
  · rw [bits_or_u64_nat _ _ h1 hb2, h2, hW]
  · have e := bits_and_u64_nat W 3 (by omega) (by decide)
    have e2 : W &&& 3 = W % 4 := Nat.and_two_pow_sub_one_eq_mod W 2
    rw [show ((3 : Nat) : Int) = 3 from rfl] at e
    rw [e, e2]; omega
  · obtain ⟨k, hk⟩ : ∃ k : Nat, (W : Int) / 4 = k := ⟨W / 4, by omega⟩
    rw [hk, i64_or_one k (by omega)]
    split <;> split <;> omega

set_option maxHeartbeats 400000 in
theorem near_none (c : Nat) (p : Option Addr) (neg : Bool) (w : World) :
    Calls Tryz.prog 42 #[.slice p 0 c, .bool false, .bool neg] w fun e w' => e = .returned (.float .f64 0) ∧ ∃ q, w' = w.drewN q := by
  have o00 : bits .or .u64 0 0 = 0 := rfl
  have w0 : wrap64 0 = 0 := by unfold wrap64; omega
  cases neg
  all_goals
    go_enter Tryz.func42, Tryz.ntmps42
    go_wp2_with fail
    go_loop [7] (fun t => t = .int .i64 (-1)) (fun _ => 0)
    case atStart => rfl
    case round =>
      subst hrel
      go_wp2_with (go_at_call 71; refine (lead_at 0 64 _ (by decide) (by decide) (by show _ = _; rfl)).mono ?_; rintro e w' ⟨rfl, rfl⟩)
      go_region
      go_wp2_with fail
      refine (join_any _ _ _ (by omega) (by omega)).mono ?_
      rintro e w' ⟨rfl, q, rfl⟩
      go_wp2_with fail
      go_ret
      exact ⟨rfl, _, rfl⟩

theorem lead_x (x ld : Nat) (w : World) (h0 : x ≠ 0) (hxf : x < 18446744073709551616) (hld : ld = 63 - x.log2) :
    Calls Tryz.prog 71 #[.int .u64 x] w fun e w' => e = .returned (.int .i64 (ld : Int)) ∧ w' = w :=
  lead_at x ld w (by omega) (by omega) (by
    show _ = _
    have h1 : x.log2 < 64 := (Nat.log2_lt h0).2 hxf
    rw [Int.toNat_natCast, bitLen_log2 h0 hxf]; omega)
/-- What near tells, of the two leading words and of whether anything is behind them. -/
theorem tail_val {x y ld T R M : Nat} {a b u m r z m1 : Int} {more neg : Bool} (h : Tail x y ld a b u m r z m1) (hx : x ≠ 0) (hxf : x < 18446744073709551616) (hld : ld = 63 - x.log2) (hM : M * 2 ^ 64 = (x * 18446744073709551616 + y) * 2 ^ (64 * T) + R * 2 ^ 64) (hR : R * 2 ^ 64 < 2 ^ (64 * T)) (hyf : y < 18446744073709551616) :
    joinN (sgM neg (mant M more)) (expo M) = joinN (if neg then -(if (more = true ∨ R ≠ 0) ∨ r ≠ 0 ∨ z ≠ 0 then m1 else m) else (if (more = true ∨ R ≠ 0) ∨ r ≠ 0 ∨ z ≠ 0 then m1 else m)) (64 * (T : Int) - ld + 2 + -2148) := by
  obtain ⟨h1, h2⟩ := near_main (more := more) hx hxf hld hM hR hyf
  rw [h2]
  have hw := h.uw
  obtain ⟨W, hW⟩ : ∃ W, x * 2 ^ ld + y / 2 ^ (64 - ld) = W := ⟨_, rfl⟩
  rw [hW] at h1 hw
  have hr := h.rr
  have hz := h.zz
  have hm := h.fm
  have ho := h.oo
  obtain ⟨q, hq⟩ : ∃ q, y * 2 ^ ld % 18446744073709551616 = q := ⟨_, rfl⟩
  rw [hq] at h1 hz
  have hiff : ((more = true ∨ R ≠ 0) ∨ W % 4 ≠ 0 ∨ q ≠ 0) ↔ ((more = true ∨ R ≠ 0) ∨ r ≠ 0 ∨ z ≠ 0) := by
    constructor
    · rintro (h | h | h)
      · exact Or.inl h
      · exact Or.inr (Or.inl (by omega))
      · exact Or.inr (Or.inr (by omega))
    · rintro (h | h | h)
      · exact Or.inl h
      · exact Or.inr (Or.inl (by omega))
      · exact Or.inr (Or.inr (by omega))
  have key : (mant M more : Int) = if (more = true ∨ R ≠ 0) ∨ r ≠ 0 ∨ z ≠ 0 then m1 else m := by
    rw [h1]
    by_cases hc : (more = true ∨ R ≠ 0) ∨ W % 4 ≠ 0 ∨ q ≠ 0
    · rw [if_pos hc, if_pos (hiff.1 hc), ho]
      split <;> split <;> omega
    · rw [if_neg hc, if_neg (fun h => hc (hiff.2 h))]; omega
  unfold sgM
  rw [key]

theorem split_two (F : Nat → Nat) (j : Nat) : ps F (j + 1 + 1) * 2 ^ 64 = (F (j + 1) * 18446744073709551616 + F j) * 2 ^ (64 * (j + 1)) + ps F j * 2 ^ 64 := by
  rw [ps, ps, pow64 j, show (2 : Nat) ^ 64 = 18446744073709551616 from rfl]
  generalize (2 : Nat) ^ (64 * j) = P
  generalize ps F j = R
  generalize F j = y
  generalize F (j + 1) = x
  simp only [Nat.add_mul]
  have e1 : x * (18446744073709551616 * P) * 18446744073709551616 = x * 18446744073709551616 * (18446744073709551616 * P) := by rw [Nat.mul_right_comm]
  have e2 : y * P * 18446744073709551616 = y * (18446744073709551616 * P) := by rw [Nat.mul_assoc, Nat.mul_comm P]
  rw [e1, e2, Nat.add_assoc, Nat.add_comm, Nat.add_comm (y * _)]
theorem lt_two {F : Nat → Nat} (h : FitF F) (j : Nat) : ps F j * 2 ^ 64 < 2 ^ (64 * (j + 1)) := by
  have h1 := ps_lt h j
  rw [pow64, Nat.mul_comm, show (2 : Nat) ^ 64 = 18446744073709551616 from rfl]
  exact (Nat.mul_lt_mul_left (show 0 < 18446744073709551616 by decide)).2 h1

set_option maxRecDepth 100000 in
set_option maxHeartbeats 3200000 in
theorem near_core (p : Option Addr) (g c n : Nat) (F : Nat → Nat) (more neg : Bool) (w : World) (hn0 : 0 < n) (hp : p = some ⟨g, 0, none⟩) (hc : Hid (∀ j, j < n → w.cell? ⟨g, j, none⟩ = some (.int .u64 (F j : Nat)))) (hcap : n ≤ c) (hc63 : c ≤ 9223372036854775807) (hF : Hid (FitF F)) (hn : n ≤ 100000)
    (hany : Hid (∀ k, k ≤ n → Calls Tryz.prog 70 #[.slice p k c] w fun e w' => e = .returned (.bool (decide (ps F k ≠ 0))) ∧ w' = w)) (res : Nat) (hres : Hid (joinN (sgM neg (mant (ps F n) more)) (expo (ps F n)) = res)) :
    Calls Tryz.prog 42 #[.slice p n c, .bool more, .bool neg] w fun e w' => e = .returned (.float .f64 res) ∧ ∃ q, w' = w.drewN q := by
  subst hp
  go_enter Tryz.func42, Tryz.ntmps42
  go_wp2_with fail
  go_loop [7] (fun t => ∃ k : Nat, k < n ∧ t = .int .i64 k ∧ Hid (ps F n = ps F (k + 1))) (fun t => (intOf t).toNat)
  case atStart => exact ⟨n - 1, by omega, by congr 1; omega, by show _ = _; rw [show n - 1 + 1 = n by omega]⟩
  case round =>
    obtain ⟨k, hk, rfl, HP⟩ := hrel
    rw [HP.out] at hres
    cases k with
    | zero =>
      have hcl := hc.out 0 hk
      have hxf : F 0 < 18446744073709551616 := hF.out 0
      rw [show ps F (0 + 1) = F 0 by simp [ps]] at hres
      generalize F 0 = x at *
      by_cases h0 : x = 0
      · subst h0
        have HR := hres
        have o00 : bits .or .u64 0 0 = 0 := rfl
        have o01 : bits .or .i64 0 1 = 1 := rfl
        have w0 : wrap64 0 = 0 := by unfold wrap64; omega
        have w1 : wrap64 (-1) = -1 := by unfold wrap64; omega
        cases more
        all_goals cases neg
        all_goals
          go_wp2_with (go_at_call 71; refine (lead_at 0 64 _ (by decide) (by decide) (by show _ = _; rfl)).mono ?_; rintro e w' ⟨rfl, rfl⟩)
          go_region
          go_wp2_with fail
          refine (join_any _ _ _ (by omega) (by omega)).mono ?_
          rintro e w' ⟨rfl, q, rfl⟩
          go_wp2_with fail
          go_ret
          refine ⟨ret_f64 ?_, _, rfl⟩
          rw [← HR.out]
          rfl
      · obtain ⟨ld, hld⟩ : ∃ ld, ld = 63 - x.log2 := ⟨_, rfl⟩
        obtain ⟨a, b, u, m, r, z, m1, hT⟩ := tail_any h0 hxf (show 0 < 18446744073709551616 by decide) hld
        have HV := hideS (tail_val (T := 0) (R := 0) (M := x) (more := more) (neg := neg) hT h0 hxf hld (by simp) (by simp) (by decide))
        have HLd := hideS (lead_x x ld w h0 hxf hld)
        have h1 := hT.f1
        have h3 := hT.f3
        have u0 := hT.u0
        have u1 := hT.u1
        have m0 := hT.m0
        have m2 := hT.m2
        have fm := hT.fm
        have fr := hT.fr
        have fo := hT.fo
        have wm : wrap64 m = m := by unfold wrap64; omega
        have wn : wrap64 (-m) = -m := by unfold wrap64; omega
        have m3 : 0 ≤ m1 ∧ m1 < 4611686018427387905 := by rw [hT.oo]; split <;> omega
        have wo : wrap64 (-m1) = -m1 := by unfold wrap64; omega
        have lds := hT.lds
        have hb : b = 0 := by rw [← hT.f2]; simp
        have hz : z = 0 := by rw [hT.zz]; simp
        subst hb hz
        clear hT h0 hld
        have HR := hres
        go_wp2_with (go_at_call 71; refine HLd.out.mono ?_; rintro e w' ⟨rfl, rfl⟩)
        go_region
        cases more
        · by_cases hsr : r = 0
          · subst hsr
            cases neg
            all_goals
              go_wp2_with fail
              refine (join_any _ _ _ (by omega) (by omega)).mono ?_
              rintro e w' ⟨rfl, q, rfl⟩
              go_wp2_with fail
              go_ret
              refine ⟨ret_f64 ?_, _, rfl⟩
              rw [← HR.out, HV.out]
              simp
              try omega
          · cases neg
            all_goals
              go_wp2_with fail
              refine (join_any _ _ _ (by omega) (by omega)).mono ?_
              rintro e w' ⟨rfl, q, rfl⟩
              go_wp2_with fail
              go_ret
              refine ⟨ret_f64 ?_, _, rfl⟩
              rw [← HR.out, HV.out]
              simp [hsr]
              try omega
        · cases neg
          all_goals
            go_wp2_with fail
            refine (join_any _ _ _ (by omega) (by omega)).mono ?_
            rintro e w' ⟨rfl, q, rfl⟩
            go_wp2_with fail
            go_ret
            refine ⟨ret_f64 ?_, _, rfl⟩
            rw [← HR.out, HV.out]
            simp
            try omega
    | succ j =>
      by_cases h0 : F (j + 1) = 0
      · have hcl := hc.out (j + 1) hk
        rw [h0] at hcl
        have HN : Hid (ps F n = ps F (j + 1)) := by show _ = _; rw [HP.out, ps, h0]; simp
        clear h0
        go_wp2_with fail
        go_round
        case rel => exact ⟨j, by omega, by simp, HN⟩
        case measure => simp [intOf]
      · have hcl := hc.out (j + 1) hk
        have hcy := hc.out j (by omega)
        have hxf : F (j + 1) < 18446744073709551616 := hF.out _
        have hyf : F j < 18446744073709551616 := hF.out _
        have hMM := split_two F j
        have hRR := lt_two hF.out j
        have HAny := hideS (hany.out j (by omega))
        generalize F (j + 1) = x at *
        generalize F j = y at *
        obtain ⟨ld, hld⟩ : ∃ ld, ld = 63 - x.log2 := ⟨_, rfl⟩
        obtain ⟨a, b, u, m, r, z, m1, hT⟩ := tail_any h0 hxf hyf hld
        have HV := hideS (tail_val (more := more) (neg := neg) hT h0 hxf hld hMM hRR hyf)
        have HLd := hideS (lead_x x ld w h0 hxf hld)
        have h1 := hT.f1
        have h2 := hT.f2
        have h3 := hT.f3
        have u0 := hT.u0
        have u1 := hT.u1
        have m0 := hT.m0
        have m2 := hT.m2
        have fm := hT.fm
        have fr := hT.fr
        have fz := hT.fz
        have fo := hT.fo
        have wm : wrap64 m = m := by unfold wrap64; omega
        have wn : wrap64 (-m) = -m := by unfold wrap64; omega
        have m3 : 0 ≤ m1 ∧ m1 < 4611686018427387905 := by rw [hT.oo]; split <;> omega
        have wo : wrap64 (-m1) = -m1 := by unfold wrap64; omega
        have lds := hT.lds
        have hx0 : ¬ ((x : Int) = 0) := by omega
        clear hT h0 hld hMM hRR hyf
        have HR := hres
        generalize ps F (j + 1 + 1) = M at *
        generalize ps F j = R at *
        cases more
        · by_cases hR0 : R = 0
          · subst hR0
            rw [show decide ((0 : Nat) ≠ 0) = false from rfl] at HAny
            go_wp2_with (first | (go_at_call 70; refine HAny.out.mono ?_; rintro e w' ⟨rfl, rfl⟩) | (go_at_call 71; refine HLd.out.mono ?_; rintro e w' ⟨rfl, rfl⟩))
            go_region
            by_cases hsr : r = 0
            · subst hsr
              by_cases hsz : z = 0
              · subst hsz
                cases neg
                all_goals
                  go_wp2_with fail
                  refine (join_any _ _ _ (by omega) (by omega)).mono ?_
                  rintro e w' ⟨rfl, q, rfl⟩
                  go_wp2_with fail
                  go_ret
                  refine ⟨ret_f64 ?_, _, rfl⟩
                  rw [← HR.out, HV.out]
                  simp
                  try (congr 1; omega)
              · cases neg
                all_goals
                  go_wp2_with fail
                  refine (join_any _ _ _ (by omega) (by omega)).mono ?_
                  rintro e w' ⟨rfl, q, rfl⟩
                  go_wp2_with fail
                  go_ret
                  refine ⟨ret_f64 ?_, _, rfl⟩
                  rw [← HR.out, HV.out]
                  simp [hsz]
                  try (congr 1; omega)
            · cases neg
              all_goals
                go_wp2_with fail
                refine (join_any _ _ _ (by omega) (by omega)).mono ?_
                rintro e w' ⟨rfl, q, rfl⟩
                go_wp2_with fail
                go_ret
                refine ⟨ret_f64 ?_, _, rfl⟩
                rw [← HR.out, HV.out]
                simp [hsr]
                try (congr 1; omega)
          · rw [show decide (R ≠ 0) = true by simpa using hR0] at HAny
            go_wp2_with (first | (go_at_call 70; refine HAny.out.mono ?_; rintro e w' ⟨rfl, rfl⟩) | (go_at_call 71; refine HLd.out.mono ?_; rintro e w' ⟨rfl, rfl⟩))
            go_region
            cases neg
            all_goals
              go_wp2_with fail
              refine (join_any _ _ _ (by omega) (by omega)).mono ?_
              rintro e w' ⟨rfl, q, rfl⟩
              go_wp2_with fail
              go_ret
              refine ⟨ret_f64 ?_, _, rfl⟩
              rw [← HR.out, HV.out]
              simp [hR0]
              try (congr 1; omega)
        · clear HAny
          go_wp2_with (go_at_call 71; refine HLd.out.mono ?_; rintro e w' ⟨rfl, rfl⟩)
          go_region
          cases neg
          all_goals
            go_wp2_with fail
            refine (join_any _ _ _ (by omega) (by omega)).mono ?_
            rintro e w' ⟨rfl, q, rfl⟩
            go_wp2_with fail
            go_ret
            refine ⟨ret_f64 ?_, _, rfl⟩
            rw [← HR.out, HV.out]
            simp
            try (congr 1; omega)
end Go.Proofs.YtdmldggjgaaliaaGreat.A
