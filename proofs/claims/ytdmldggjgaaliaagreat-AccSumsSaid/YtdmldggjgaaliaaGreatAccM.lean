/- Division of words by a word; the contract of package acc's Over. -/
import Derived.Test.YtdmldggjgaaliaaGreatAccL
namespace Go.Proofs.YtdmldggjgaaliaaGreat.A
open Go.RowKit

theorem ps_set {zs : List Nat} {j q : Nat} (hj : j < zs.length) (h0 : zs.getD j 0 = 0) : ∀ n, ps (fun i => (zs.set j q).getD i 0) n = ps (fun i => zs.getD i 0) n + (if j < n then q * 2 ^ (64 * j) else 0)
  | 0 => by simp [ps]
  | n + 1 => by
    rw [ps, ps, ps_set hj h0 n]
    show _ + (zs.set j q).getD n 0 * _ = _
    rw [getD_set hj]
    by_cases hn : n = j
    · subst hn
      rw [if_neg (by omega), if_pos rfl, if_pos (by omega)]
      show _ = _ + zs.getD n 0 * _ + _
      rw [h0]; omega
    · rw [if_neg hn]
      by_cases h1 : j < n
      · rw [if_pos h1, if_pos (by omega)]; omega
      · rw [if_neg h1, if_neg (by omega)]; omega
/-- The words from a place on, and the word at it. -/
theorem ps_div {F : Nat → Nat} (hF : FitF F) {j n : Nat} (hj : j < n) : ps F n / 2 ^ (64 * j) = ps F n / 2 ^ (64 * (j + 1)) * 18446744073709551616 + F j := by
  have key : ∀ n, j < n → ps F n / 2 ^ (64 * j) % 18446744073709551616 = F j := by
    intro n
    induction n with
    | zero => intro h; omega
    | succ n ih =>
      intro h
      rw [ps]
      by_cases e : j = n
      · subst e
        rw [Nat.add_mul_div_right _ _ (pow64_pos j), Nat.div_eq_of_lt (ps_lt hF j), Nat.zero_add, Nat.mod_eq_of_lt (hF j)]
      · have e2 : F n * 2 ^ (64 * n) = F n * 2 ^ (64 * (n - j - 1)) * 18446744073709551616 * 2 ^ (64 * j) := by
          rw [Nat.mul_assoc, Nat.mul_assoc, ← pow64, ← Nat.pow_add]; congr 2; omega
        rw [e2, Nat.add_mul_div_right _ _ (pow64_pos j), Nat.add_mul_mod_self_right]
        exact ih (by omega)
  have h1 := key n hj
  have h2 : ps F n / 2 ^ (64 * (j + 1)) = ps F n / 2 ^ (64 * j) / 18446744073709551616 := by rw [pow64, Nat.mul_comm, Nat.div_div_eq_div_mul]
  rw [h2]
  generalize ps F n / 2 ^ (64 * j) = X at *
  omega
theorem div_step {F : Nat → Nat} (hF : FitF F) {j n d : Nat} (hj : j < n) : (ps F n / 2 ^ (64 * (j + 1)) % d * 18446744073709551616 + F j) % d = ps F n / 2 ^ (64 * j) % d := by
  rw [ps_div hF hj, Nat.add_mod, Nat.mul_mod, Nat.mod_mod, ← Nat.mul_mod, ← Nat.add_mod]

/-- What is divided so far: words from k on. -/
structure Div (wr w : World) (n c d : Nat) (F : Nat → Nat) (zs : List Nat) (rest k : Nat) : Prop where
  own : OwnW wr w.heap.size (.slice (some ⟨w.heap.size, 0, none⟩) n c) zs
  len : zs.length = n
  eq : d * ps (fun i => zs.getD i 0) n + rest * 2 ^ (64 * k) + ps F k = ps F n
  low : ∀ j, j < k → zs.getD j 0 = 0
  res : rest = ps F n / 2 ^ (64 * k) % d
  bl : Below w.heap.size w wr
theorem Div.step {wr w : World} {n c d : Nat} {F : Nat → Nat} {zs : List Nat} {rest j : Nat} (h : Div wr w n c d F zs rest (j + 1)) (hF : FitF F) (hj : j < n) (hq : (rest * 18446744073709551616 + F j) / d < 18446744073709551616) :
    Div (wr.setCell ⟨w.heap.size, j, none⟩ (.int .u64 (((rest * 18446744073709551616 + F j) / d : Nat) : Int))) w n c d F (zs.set j ((rest * 18446744073709551616 + F j) / d)) ((rest * 18446744073709551616 + F j) % d) j := by
  have hl := h.len
  have h1 := h.own.set h.len j _ hq
  refine ⟨h1.1, by rw [List.length_set]; exact h.len, ?_, ?_, ?_, h.bl.setCell (Nat.le_refl _) _⟩
  · rw [ps_set (by omega) (h.low j (by omega)), if_pos hj]
    have he := h.eq
    rw [pow64, ps] at he
    have hdm := Nat.div_add_mod (rest * 18446744073709551616 + F j) d
    have h2 : (d * ((rest * 18446744073709551616 + F j) / d) + (rest * 18446744073709551616 + F j) % d) * 2 ^ (64 * j) = (rest * 18446744073709551616 + F j) * 2 ^ (64 * j) := by rw [hdm]
    rw [Nat.add_mul, Nat.add_mul, Nat.mul_assoc d, Nat.mul_assoc rest] at h2
    rw [Nat.mul_add]
    omega
  · intro i hi
    rw [getD_set (by omega), if_neg (by omega)]
    exact h.low i (by omega)
  · rw [h.res, div_step hF hj]

set_option maxHeartbeats 800000 in
theorem divided_any (B : Nat) (v : Value) (ys : List Nat) (d : Nat) (w : World) (h : OwnW w B v ys) (hn : ys.length ≤ 100000) (hd : 0 < d)
    (hdiv : ∀ j, j < ys.length → ∀ w, Calls Tryz.prog 69 #[.int .u64 ((ps (fun i => ys.getD i 0) ys.length / 2 ^ (64 * (j + 1)) % d : Nat) : Int), .int .u64 (ys.getD j 0 : Nat), .int .u64 (d : Int)] w fun e w' => e = .returned (.tuple #[.int .u64 (((ps (fun i => ys.getD i 0) ys.length / 2 ^ (64 * (j + 1)) % d * 18446744073709551616 + ys.getD j 0) / d : Nat) : Int), .int .u64 (((ps (fun i => ys.getD i 0) ys.length / 2 ^ (64 * (j + 1)) % d * 18446744073709551616 + ys.getD j 0) % d : Nat) : Int)]) ∧ ∃ q, w' = w.drewN q) :
    Calls Tryz.prog 41 #[v, .int .u64 (d : Int)] w fun e w' => ∃ v' zs, e = .returned (.tuple #[v', .int .u64 ((ps (fun i => ys.getD i 0) ys.length % d : Nat) : Int)]) ∧ OwnW w' w.heap.size v' zs ∧ zs.length = ys.length ∧ ps (fun i => zs.getD i 0) zs.length = ps (fun i => ys.getD i 0) ys.length / d ∧ Below w.heap.size w w' := by
  obtain ⟨p, g, c, rfl, hc1, hc2, hp, hc⟩ := h.shape
  have HC := hideS hc
  obtain ⟨F, hF⟩ : ∃ F : Nat → Nat, F = fun i => ys.getD i 0 := ⟨_, rfl⟩
  have HF : Hid (FitF F) := by rw [hF]; exact h.fit
  have HFe : Hid (∀ j, ys.getD j 0 = F j) := fun j => by rw [hF]
  have HM := hideS (OwnW.made w ys.length (by omega))
  have HB := hideS ((Below.refl w.heap.size w).alloc (Nat.le_refl _) (.cells (madeCells #[.int .u64 0] ys.length) 29))
  have hmk := fun w => run_make_row' (P := Tryz.prog) 24 29 (.int .u64 0) 8 Tryz.underlying24 infoU rfl .i64 .i64 ys.length (by omega) (by omega) w
  rw [← hF] at hdiv ⊢
  have HDv := hideS hdiv
  clear hdiv h hc hF
  have hHD := fun j (hj : j < ys.length) => HDv.out j hj
  have HD2 : Hid (∀ j, j < ys.length → ∀ w, Calls Tryz.prog 69 #[.int .u64 ((ps F ys.length / 2 ^ (64 * (j + 1)) % d : Nat) : Int), .int .u64 (F j : Nat), .int .u64 (d : Int)] w fun e w' => e = .returned (.tuple #[.int .u64 (((ps F ys.length / 2 ^ (64 * (j + 1)) % d * 18446744073709551616 + F j) / d : Nat) : Int), .int .u64 (((ps F ys.length / 2 ^ (64 * (j + 1)) % d * 18446744073709551616 + F j) % d : Nat) : Int)]) ∧ ∃ q, w' = w.drewN q) := fun j hj w => by
    have := HDv.out j hj w
    rw [HFe.out j] at this; exact this
  have HC2 : Hid (∀ j, j < ys.length → w.cell? ⟨g, j, none⟩ = some (.int .u64 (F j : Nat))) := fun j hj => by
    have := HC.out j hj
    rw [HFe.out j] at this; exact this
  clear HDv HC hHD HFe
  generalize ys.length = n at *
  have HD0 : Hid (Div (w.alloc (.cells (madeCells #[.int .u64 0] n) 29)) w n n d F (List.replicate n 0) 0 n) := by
    refine ⟨HM.out, by simp, ?_, ?_, ?_, HB.out⟩
    · have : ps (fun i => (List.replicate n 0).getD i 0) n = 0 := by
        rw [ps_congr (g := fun _ => 0) (fun i _ => by show (List.replicate n 0).getD i 0 = 0; rw [List.getD, List.getElem?_replicate]; split <;> rfl), ps_zero]
      rw [this]; simp
    · intro j _
      rw [List.getD, List.getElem?_replicate]; split <;> rfl
    · rw [Nat.div_eq_of_lt (ps_lt HF.out n), Nat.zero_mod]
  have hdI : (d : Int) ≠ 0 := by omega
  go_enter Tryz.func41, Tryz.ntmps41
  go_wp2
  clear hmk
  go_loopw [5, 6] (fun b i wr => ∃ (k rest : Nat) (zs : List Nat), k ≤ n ∧ b = .int .u64 rest ∧ i = .int .i64 ((k : Int) - 1) ∧ Hid (Div wr w n n d F zs rest k)) (fun _ i _ => (intOf i + 1).toNat)
  case atStart => exact ⟨n, 0, List.replicate n 0, Nat.le_refl _, rfl, rfl, HD0⟩
  case round =>
    clear HM HB HD0
    obtain ⟨k, rest, zs, hk, rfl, rfl, HR⟩ := hrel
    cases k with
    | zero =>
      go_wp2
      go_ret2
      refine ⟨_, zs, ?_, HR.out.own, HR.out.len, ?_, HR.out.bl⟩
      · have := HR.out.res
        rw [Nat.mul_zero, Nat.pow_zero, Nat.div_one] at this
        rw [← this]; rfl
      · have h1 := HR.out.eq
        have h2 := HR.out.res
        rw [Nat.mul_zero, Nat.pow_zero, Nat.div_one] at h2
        rw [Nat.mul_zero, Nat.pow_zero, Nat.mul_one, ps, Nat.add_zero] at h1
        rw [HR.out.len, ← h1, h2]
        have h3 : ps F n % d < d := Nat.mod_lt _ hd
        rw [Nat.mul_add_div hd, Nat.div_eq_of_lt h3, Nat.add_zero]
    | succ j =>
      obtain ⟨rfl, hg1, hg2⟩ := hp (by omega)
      have hcl : wr.cell? ⟨g, j, none⟩ = some (.int .u64 (F j : Nat)) := (HR.out.bl.cell (p := ⟨g, j, none⟩) hg2).trans (HC2.out j (by omega))
      have hdl : wr.cell? ⟨w.heap.size, j, none⟩ = some (.int .u64 (zs.getD j 0 : Nat)) := HR.out.own.cell1 HR.out.len j (by rw [HR.out.len]; omega)
      have hfz : wr.frozen? ⟨w.heap.size, j, none⟩ = false := HR.out.own.frozen1 HR.out.len j
      have hcall := HD2.out j (by omega) wr
      rw [← HR.out.res] at hcall
      have hrl : rest < d := by rw [HR.out.res]; exact Nat.mod_lt _ hd
      have hq : (rest * 18446744073709551616 + F j) / d < 18446744073709551616 := by
        rw [Nat.div_lt_iff_lt_mul hd]
        have h5 : (rest + 1) * 18446744073709551616 ≤ d * 18446744073709551616 := Nat.mul_le_mul_right _ hrl
        have h6 := HF.out j
        rw [Nat.mul_comm 18446744073709551616 d]
        omega
      have HS := hideS (HR.out.step HF.out (by omega) hq)
      have HCa := hideS hcall
      clear hcall hq hrl
      generalize (rest * 18446744073709551616 + F j) / d = q at HS HCa
      generalize (rest * 18446744073709551616 + F j) % d = r' at HS HCa
      generalize F j = y at hcl HCa
      generalize zs.getD j 0 = z at hdl
      have e1 : ((j + 1 : Nat) : Int) - 1 = (j : Int) := by omega
      rw [e1]
      go_wp2_with fail
      refine HCa.out.mono ?_
      rintro e w2 ⟨rfl, nq, rfl⟩
      go_wp2_with fail
      go_roundw
      case rel =>
        refine ⟨j, r', zs.set j q, by omega, rfl, rfl, ?_⟩
        exact ⟨HS.out.own.drewN nq, HS.out.len, HS.out.eq, HS.out.low, HS.out.res, ⟨HS.out.bl.os, HS.out.bl.tape, HS.out.bl.output, HS.out.bl.size, HS.out.bl.block⟩⟩
      case measure => simp [intOf]

set_option maxHeartbeats 400000 in
theorem div64_zero (y d : Nat) (w : World) (hd : 0 < d) (hy : y < 18446744073709551616) :
    Calls Tryz.prog 69 #[.int .u64 0, .int .u64 (y : Int), .int .u64 (d : Int)] w fun e w' => e = .returned (.tuple #[.int .u64 ((y / d : Nat) : Int), .int .u64 ((y % d : Nat) : Int)]) ∧ ∃ q, w' = w.drewN q := by
  obtain ⟨D, hD⟩ : ∃ D : Int, (d : Int) = D := ⟨_, rfl⟩
  have hq : (y : Int).tdiv D = ((y / d : Nat) : Int) := by rw [← hD]; rfl
  have hr : (y : Int).tmod D = ((y % d : Nat) : Int) := by rw [← hD]; rfl
  have b1 := Nat.div_le_self y d
  have b2 := Nat.mod_le y d
  have h0 : 0 < D := by omega
  rw [hD]
  generalize y / d = q at *
  generalize y % d = r at *
  have w1 : IntKind.u64.wrap (q : Int) = q := by rw [IntKind.wrap_u64]; omega
  have w2 : IntKind.u64.wrap (r : Int) = r := by rw [IntKind.wrap_u64]; omega
  go_enter Tryz.func69, Tryz.ntmps69
  go_wp2
  go_region
  all_goals
    go_wp2
    go_ret2
    exact ⟨rfl, _, rfl⟩

theorem lead3 (w : World) : Calls Tryz.prog 71 #[.int .u64 3] w fun e w' => e = .returned (.int .i64 62) ∧ w' = w :=
  lead_at 3 62 w (by decide) (by decide) (by show _ = _; rfl)
set_option maxRecDepth 100000 in
set_option maxHeartbeats 1600000 in
theorem div64_13 (w : World) :
    Calls Tryz.prog 69 #[.int .u64 1, .int .u64 0, .int .u64 3] w fun e w' => e = .returned (.tuple #[.int .u64 6148914691236517205, .int .u64 1]) ∧ ∃ q, w' = w.drewN q := by
  have a1 : bits .and .u64 13835058055282163712 4294967295 = 0 := rfl
  have a2 : bits .or .u64 4611686018427387904 0 = 4611686018427387904 := rfl
  have a3 : bits .and .u64 0 4294967295 = 0 := rfl
  go_enter Tryz.func69, Tryz.ntmps69
  go_wp2_with (go_at_call 71; refine (turned (lead3 _)).mono ?_; rintro e w' ⟨rfl, rfl⟩)
  go_loop [15, 16] (fun a b => a = .int .u64 1431655765 ∧ b = .int .u64 1073741824) (fun _ _ => 0)
  case atStart => exact ⟨rfl, rfl⟩
  case round =>
    obtain ⟨rfl, rfl⟩ := hrel
    go_wp2
    go_loop [16, 18] (fun b a => a = .int .u64 1431655765 ∧ b = .int .u64 1073741824) (fun _ _ => 0)
    case atStart => exact ⟨rfl, rfl⟩
    case round =>
      obtain ⟨rfl, rfl⟩ := hrel
      go_wp2
      go_ret2
      exact ⟨rfl, 0, rfl⟩

/-- The bits of near of the sum divided by n. -/
def overF (N : Int) (d : Nat) : Nat := joinN (sgM (decide (N < 0)) (mant (N.natAbs / d) (decide (N.natAbs % d ≠ 0)))) (expo (N.natAbs / d))
theorem overF_one (N : Int) : overF N 1 = valF N := by
  unfold overF
  rw [Nat.div_one, Nat.mod_one]
  exact join_mant N
def DivOk (M d : Nat) : Prop := ∀ j y w, y = M / 2 ^ (64 * j) % 18446744073709551616 → Calls Tryz.prog 69 #[.int .u64 ((M / 2 ^ (64 * (j + 1)) % d : Nat) : Int), .int .u64 (y : Nat), .int .u64 (d : Int)] w fun e w' => e = .returned (.tuple #[.int .u64 (((M / 2 ^ (64 * (j + 1)) % d * 18446744073709551616 + y) / d : Nat) : Int), .int .u64 (((M / 2 ^ (64 * (j + 1)) % d * 18446744073709551616 + y) % d : Nat) : Int)]) ∧ ∃ q, w' = w.drewN q
theorem divOk_one (M : Nat) : DivOk M 1 := fun j y w hy => by
  rw [Nat.mod_one, Nat.zero_mul, Nat.zero_add]
  exact div64_zero y 1 w (by decide) (by rw [hy]; exact Nat.mod_lt _ (by decide))

set_option maxHeartbeats 800000 in
theorem over_any (B b : Nat) (v : Value) (L : Nat) (a : St) (d : Nat) (w : World) (h : AccAt w B b v L a) (hB : B ≤ w.heap.size) (hL : L ≤ 40000) (hd : 0 < d) (hd2 : d < 9223372036854775808) (h0 : a.s = 0) (hok : DivOk a.N.natAbs d) :
    Calls Tryz.prog 20 #[.pointer (some ⟨b, 0, none⟩), .int .i64 (d : Int)] w fun r w' => r = .returned (.tuple #[.float .f64 (overF a.N d), .bool true]) ∧ Below w.heap.size w w' := by
  have c0 := h.cell0
  have c1 := h.cell1
  rw [h0] at c0
  obtain ⟨xs, ho, hl, hs⟩ := h.own
  have HZ := hideS (size_any' B v xs a.N w ho hs (by omega) hB)
  have HL : Hid (xs.length ≤ 40000) := by show _ ≤ _; omega
  have HOk := hideS hok
  have HD := hideS (show overF a.N d = joinN (sgM (decide (a.N < 0)) (mant (a.N.natAbs / d) (decide (a.N.natAbs % d ≠ 0)))) (expo (a.N.natAbs / d)) from rfl)
  have hw : IntKind.u64.wrap (d : Int) = d := by rw [IntKind.wrap_u64]; omega
  have hnl : ¬ ((d : Int) < 1) := by omega
  generalize overF a.N d = res at *
  clear h ho hl hs h0 hok
  go_enter Tryz.func20, Tryz.ntmps20
  go_wp2_with fail
  refine HZ.out.mono ?_
  rintro e w1 ⟨v1, ys, rfl, o1, l1, p1, b1⟩
  have HV := hideS (divided_any B v1 ys d w1 o1 (by have := HL.out; omega) hd (fun j hj w2 => by
    rw [p1]
    refine HOk.out j (ys.getD j 0) w2 ?_
    rw [← p1]
    have := ps_div o1.fit hj
    have h2 := o1.fit j
    rw [this]
    show ys.getD j 0 = (_ * 18446744073709551616 + ys.getD j 0) % 18446744073709551616
    have h3 : ys.getD j 0 < 18446744073709551616 := h2
    omega))
  have HM0 : Hid (ys.length = 0 → a.N.natAbs = 0) := fun h6 => by rw [← p1, h6]; rfl
  rw [p1] at HV
  have HB := hideS b1
  have HL1 := hideS l1
  clear o1 l1 p1 b1 HZ HOk
  generalize a.N.natAbs = M at *
  generalize decide (a.N < 0) = ng at *
  go_wp2_with fail
  refine HV.out.mono ?_
  rintro e w2 ⟨v2, zs, rfl, o2, l2, p2, b2⟩
  have HN := hideS (nearO_any w1.heap.size v2 zs (decide (M % d ≠ 0)) ng w2 o2 (by have := HL.out; have := HL1.out; omega) (fun h5 => by
    rcases Nat.eq_zero_or_pos zs.length with h6 | h6
    · have h7 := HM0.out (by omega)
      rw [h7] at h5
      simp at h5
    · exact h6))
  rw [p2, ← HD.out] at HN
  have HB2 := hideS (HB.out.trans (b2.mono HB.out.size))
  clear o2 l2 p2 b2 HV HM0 HD
  by_cases hr : M % d = 0
  · rw [show decide (M % d ≠ 0) = false by simpa using hr] at HN
    rw [hr]
    go_wp2_with fail
    refine HN.out.mono ?_
    rintro e w3 ⟨rfl, q, rfl⟩
    go_wp2_with fail
    go_ret2
    exact ⟨rfl, ⟨HB2.out.os, HB2.out.tape, HB2.out.output, HB2.out.size, HB2.out.block⟩⟩
  · rw [show decide (M % d ≠ 0) = true by simpa using hr] at HN
    obtain ⟨r, hrr⟩ : ∃ r : Int, ((M % d : Nat) : Int) = r := ⟨_, rfl⟩
    have hr0 : (r != 0) = true := by simp; omega
    rw [hrr]
    clear hr hrr
    go_wp2_with fail
    refine HN.out.mono ?_
    rintro e w3 ⟨rfl, q, rfl⟩
    go_wp2_with fail
    go_ret2
    exact ⟨rfl, ⟨HB2.out.os, HB2.out.tape, HB2.out.output, HB2.out.size, HB2.out.block⟩⟩
end Go.Proofs.YtdmldggjgaaliaaGreat.A
