/- The walk of AccNear, whole. -/
import Derived.Test.YtejpplcccbiplaaWAccNear
namespace Go.Proofs.Ytejpplcccbiplaa
open Go.RowKit

set_option maxRecDepth 100000 in
set_option maxHeartbeats 3200000 in
theorem near_great (p : Option Addr) (n c : Nat) (w : World) (h : 200 < n) (hn : n ≤ 9223372036854775807) :
    Calls Try.prog 5 #[.slice p n c] w fun e w' => e = .returned (.bool true) ∧ Below w.heap.size w w' := by
  have HNw := hideS (new_any w w.heap.size (Nat.le_refl _))
  go_enter Try.func5, Try.ntmps5
  go_wp2_with fail
  refine HNw.out.mono ?_
  rintro e w0 ⟨rfl, a0, b0⟩
  have B0 := hideS b0
  clear a0 b0 HNw
  go_wp2_with fail
  refine (awake3 w0).mono ?_
  rintro e w2 ⟨rfl, hb⟩
  have B2 : Hid (Below w.heap.size w w2) := B0.out.trans (hb.mono B0.out.size)
  clear hb B0
  go_wp2_with fail
  go_ret
  exact ⟨rfl, B2.out⟩

theorem st_zero {A : St} (h : A.s = 0) : A = ⟨0, A.N⟩ := by
  obtain ⟨s, N⟩ := A
  dsimp only at h
  subst h; rfl
theorem valSt_num (N : Int) : valSt ⟨0, N⟩ = valF N := by unfold valSt; exact if_pos rfl
theorem rank_in {b : Nat} (hb : b < 18446744073709551616) (hf : b % 9223372036854775808 < 9218868437227405312) : -9218868437227405312 < rankI b ∧ rankI b < 9218868437227405312 := by
  obtain ⟨K, hK⟩ : ∃ K, K = 1074 := ⟨_, rfl⟩
  obtain ⟨_, h1, h2, _⟩ := unit_own hK hb hf
  exact ⟨h1, h2⟩

set_option maxRecDepth 100000 in
set_option maxHeartbeats 6400000 in
theorem near_small (p : Option Addr) (g off c : Nat) (xs : List Nat) (n : Nat) (w : World) (hs : Src w p g off xs) (hf : FitU xs) (hx : xs.length = n) (hn : n ≤ 200) :
    Calls Try.prog 5 #[.slice p n c] w fun e w' => e = .returned (.bool true) ∧ Below w.heap.size w w' := by
  have HS := hideS (And.intro hs (And.intro hf hx))
  have HNw := hideS (new_any w w.heap.size (Nat.le_refl _))
  clear hs hf hx
  have o00 : (FloatKind.f64.format.order 0 0 == some .eq) = true := by kernel_rfl
  go_enter Try.func5, Try.ntmps5
  go_wp2_with fail
  refine HNw.out.mono ?_
  rintro e w0 ⟨rfl, a0, b0⟩
  have T1 : Hid (Run w w0 w.heap.size (.slice none 0 0) 0 ⟨0, 0⟩) := ⟨a0, b0⟩
  clear a0 b0 HNw
  go_wp2_with fail
  go_loopw [4] (fun i wr => ∃ k : Nat, k ≤ n ∧ i = .int .i64 k ∧ Hid (∃ va A, Run w wr w.heap.size va (71 + k) A ∧ A.s = 0)) (fun i _ => n - (intOf i).toNat)
  case atStart => exact ⟨0, Nat.zero_le _, rfl, ⟨_, _, T1.out.mono (by omega), rfl⟩⟩
  case round =>
    clear T1
    obtain ⟨k, hk, rfl, HR⟩ := hrel
    obtain ⟨va, A, hr, hz⟩ := HR.out
    by_cases hlt : k < n
    · have hx : k < xs.length := by rw [HS.out.2.2]; exact hlt
      obtain rfl := HS.out.1.at_ (by omega)
      have hcx : wr.cell? ⟨g, off + k, none⟩ = some (.float .f64 (xs.getD k 0)) := (hr.bl.cell (p := ⟨g, off + k, none⟩) (HS.out.1.lt (by omega))).trans (HS.out.1.cell k hx)
      have HU := HS.out.2.1.get hx
      generalize xs.getD k 0 = x at hcx HU
      by_cases hnum : x % 9223372036854775808 < 9218868437227405312
      · have hsub := fun w => run_float_arith (P := Try.prog) w .sub 29 .f64 x x 0 (sub_self_num hnum)
        have HAd := hideS (add_any w.heap.size w.heap.size va (71 + k) _ x x (wr.drewN 1) (hr.acc.drewN 1) hr.bl.size rfl HU (by omega))
        have T := hideS (And.intro hr hz)
        clear hr hz HR HU
        go_wp2_with fail
        go_region
        go_wp2_with fail
        refine HAd.out.mono ?_
        rintro e w2 ⟨rfl, v2, hd⟩
        have T2 : Hid (∃ va A, Run w w2 w.heap.size va (71 + (k + 1)) A ∧ A.s = 0) := ⟨v2, _, ((T.out.1.drewN 1).did hd).mono (by omega), merge_s T.out.2 (by unfold oneS; rw [(splOk_iff x).2 hnum]; rfl)⟩
        clear hd HAd T
        go_wp2_with fail
        go_roundw
        case rel => exact ⟨k + 1, by omega, by simp, T2⟩
        case measure => simp [intOf]; omega
      · have hsub := run_sub_nan (P := Try.prog) 29 x x (sub_self_no (by omega))
        have hord := fun w => order_nanAns x x 0 w
        have T := hideS hr
        clear hr hz HR HU
        go_wp2_with fail
        go_region
        all_goals
          go_wp2_with fail
          refine (awake3 _).mono ?_
          rintro e w3 ⟨rfl, hb⟩
          have B3 : Hid (Below w.heap.size w w3) := (T.out.drewN 2).bl.trans (hb.mono T.out.bl.size)
          clear hb
          go_wp2_with fail
          go_ret
          exact ⟨rfl, B3.out⟩
    · obtain rfl : k = n := by omega
      rw [st_zero hz] at hr
      obtain ⟨N, hN⟩ : ∃ N, A.N = N := ⟨_, rfl⟩
      rw [hN] at hr
      have HVa := hideS (value_any w.heap.size w.heap.size va (71 + k) _ wr hr.acc hr.bl.size (by omega))
      rw [valSt_num] at HVa
      have HOv : Hid (∀ w2, Below wr.heap.size wr w2 → Calls Try.prog 21 #[.pointer (some ⟨w.heap.size, 0, none⟩), .int .i64 1] w2 fun r w' => r = .returned (.tuple #[.float .f64 (valF N), .bool true]) ∧ Below w2.heap.size w2 w') := fun w2 hb => by
        have := over_any w.heap.size w.heap.size va (71 + k) ⟨0, N⟩ 1 w2 (hr.acc.below hb) (Nat.le_trans hr.bl.size hb.size) (by omega) (by decide) (by decide) rfl (divOk_one _)
        rw [overF_one] at this
        exact this
      have hlt64 := joinN_lt' N
      have HRk := hideS (fun w => rank3_any (valF N) w (u64_of_nat hlt64))
      have T := hideS hr
      clear hr hz HR hN
      by_cases hfin : valF N % 9223372036854775808 < 9218868437227405312
      · have hsub := fun w => run_float_arith (P := Try.prog) w .sub 29 .f64 (valF N) (valF N) 0 (sub_self_num hfin)
        obtain ⟨⟨z1, hz1, hA1⟩, ⟨z2, hz2, hA2⟩⟩ := sides w.heap.size w.heap.size va (71 + k) N wr T.out.acc T.out.bl.size (by omega) hfin
        have HA1 := hideS hA1
        have HA2 := hideS hA2
        obtain ⟨q1, q2⟩ := rank_in hlt64 hfin
        clear hA1 hA2 hfin hlt64
        generalize valF N = r at *
        generalize rankI (r : Int) = q at *
        have BT := hideS T.out.bl
        clear T
        go_wp2_with fail
        refine HVa.out.mono ?_
        rintro e w2 ⟨rfl, hb⟩
        have C2 := hideS hb
        clear hb HVa
        go_wp2_with fail
        refine (HOv.out w2 C2.out).mono ?_
        rintro e w3 ⟨rfl, hb⟩
        have C3 : Hid (Below wr.heap.size wr w3) := C2.out.trans (hb.mono C2.out.size)
        clear hb HOv C2
        have HAt1 := hideS (fun w => refAt_any (q + 1) w)
        have HAt2 := hideS (fun w => refAt_any (q - 1) w)
        generalize atOk (q + 1) = ok1 at *
        generalize atOk (q - 1) = ok2 at *
        go_wp2_with (first | (go_at_call 20; refine (turned (bits_any _ _)).mono ?_; rintro e w' ⟨rfl, rfl⟩) | (go_at_call 23; refine (turned (HRk.out _)).mono ?_; rintro e w' ⟨rfl, rfl⟩))
        refine (turned (HAt1.out _)).mono ?_
        rintro e w' ⟨rfl, rfl⟩
        go_wp2_with (go_at_call 23; refine (turned (HRk.out _)).mono ?_; rintro e w' ⟨rfl, rfl⟩)
        refine (turned (HAt2.out _)).mono ?_
        rintro e w' ⟨rfl, rfl⟩
        go_wp2_with (go_at_call 25; refine (turned (float_any _ _)).mono ?_; rintro e w' ⟨rfl, rfl⟩)
        refine (HA1.out _ C3.out).mono ?_
        rintro e w4 ⟨rfl, hb⟩
        have C4 : Hid (Below wr.heap.size wr w4) := C3.out.trans (hb.mono C3.out.size)
        clear hb C3
        go_wp2_with (go_at_call 25; refine (turned (float_any _ _)).mono ?_; rintro e w' ⟨rfl, rfl⟩)
        refine (HA2.out _ C4.out).mono ?_
        rintro e w5 ⟨rfl, hb⟩
        have C5 : Hid (Below wr.heap.size wr w5) := C4.out.trans (hb.mono C4.out.size)
        clear hb C4
        go_wp2_with fail
        refine (awake3 _).mono ?_
        rintro e w6 ⟨rfl, hb⟩
        have C6 : Hid (Below w.heap.size w w6) := BT.out.trans ((C5.out.trans (hb.mono C5.out.size)).mono BT.out.size)
        clear hb C5
        go_wp2_with fail
        go_ret
        exact ⟨rfl, C6.out⟩
      · have hsub := run_sub_nan (P := Try.prog) 29 (valF N) (valF N) (sub_self_no (by omega))
        have hord := fun w => order_nanAns (valF N) (valF N) 0 w
        clear hfin hlt64
        generalize valF N = r at *
        have BT := hideS T.out.bl
        clear T
        go_wp2_with fail
        refine HVa.out.mono ?_
        rintro e w2 ⟨rfl, hb⟩
        have C2 := hideS hb
        clear hb HVa
        go_wp2_with fail
        refine (HOv.out w2 C2.out).mono ?_
        rintro e w3 ⟨rfl, hb⟩
        have C3 : Hid (Below wr.heap.size wr w3) := C2.out.trans (hb.mono C2.out.size)
        clear hb HOv C2
        go_wp2_with (go_at_call 20; refine (turned (bits_any _ _)).mono ?_; rintro e w' ⟨rfl, rfl⟩)
        refine (awake3 _).mono ?_
        rintro e w6 ⟨rfl, hb⟩
        have C6 : Hid (Below w.heap.size w w6) := by
          have h1 : Below wr.heap.size wr (w3.drewN 1) := ⟨C3.out.os, C3.out.tape, C3.out.output, C3.out.size, C3.out.block⟩
          have h2 : Below wr.heap.size wr w6 := h1.trans (hb.mono C3.out.size)
          exact BT.out.trans (h2.mono BT.out.size)
        clear hb C3
        go_wp2_with fail
        go_ret
        exact ⟨rfl, C6.out⟩
end Go.Proofs.Ytejpplcccbiplaa
