/- The walk of IeeeSorts. -/
import Derived.Test.YtkmhfjklldhfjaaSMade
namespace Go.Proofs.Ytkmhfjklldhfjaa
open Go.RowKit

theorem store_f64 (P : Program) (w : World) (a : Addr) (x : Nat) (z : Value) (h : w.cell? a = some z) (hf : w.frozen? a = false) : (store a (.float .f64 x)).run P w = .ok () (w.setCell a (.float .f64 x)) := by
  rw [run_store P w a _ _ rfl, h]; simp [hf]

set_option maxRecDepth 100000 in
set_option maxHeartbeats 3200000 in
/-- Of a list of at most 200 floats. -/
theorem sorts_small (p : Option Addr) (b off c : Nat) (xs : List Nat) (x y : Nat) (w : World) (hs : Src w p b off xs) (hf : Fit xs) (hn0 : xs.length ≤ 200) (hx : U64 x) (hy : U64 y) :
    Calls Try.prog 3 #[.slice p xs.length c, .float .f64 x, .float .f64 y] w fun e w' => e = .returned (.bool true) ∧ Below w.heap.size w w' := by
  have HLS := hideS (fun w => less_any x y w hx hy)
  have HRL := hideS (fun w => refLess_any x y w hx hy)
  clear hx hy
  have HS := hideS hs
  have HF := hideS hf
  obtain ⟨n, hN⟩ : ∃ n, n = xs.length := ⟨_, rfl⟩
  have HN := hideS hN
  have HBI : Hid (Calls Try.prog 4 #[.slice p n c] w fun e w' => ∃ v, e = .returned v ∧ OwnF w' w.heap.size 31 uV v xs ∧ Below w.heap.size w w') := by
    rw [hN]; exact bitsList_any p b off c xs w hs (by omega)
  have HSO : Hid (∀ w1 : World, Below w.heap.size w w1 → Calls Try.prog 5 #[.slice p n c] w1 fun e w' => ∃ v os, e = .returned v ∧ os.Perm xs ∧ Rising os ∧ OwnF w' w1.heap.size 23 fV v os ∧ Below w1.heap.size w1 w') := by
    intro w1 hb
    rw [hN]; exact sort_any p b off c xs w1 (hs.below hb) hf (by omega)
  have hn : n ≤ 200 := by omega
  rw [← hN]
  clear hn0
  clear hs hf hN
  go_enter Try.func3, Try.ntmps3
  go_wp2_with fail
  refine HBI.out.mono ?_
  rintro e w1 ⟨v1, rfl, o1, b1⟩
  have O1 := hideS o1
  have B1 := hideS b1
  clear o1 b1
  go_wp2_with fail
  refine (HSO.out w1 B1.out).mono ?_
  rintro e w2 ⟨va, sa, rfl, pa, ra, oa, b2⟩
  have PA := hideS (And.intro pa ra)
  have OA := hideS oa
  have B2 := hideS b2
  clear pa ra oa b2
  have B12 : Hid (Below w.heap.size w w2) := B1.out.trans (B2.out.mono B1.out.size)
  go_wp2_with fail
  refine (HSO.out w2 B12.out).mono ?_
  rintro e w3 ⟨vb, sb, rfl, pb, rb, ob, b3⟩
  have PB := hideS (And.intro pb rb)
  have OB := hideS ob
  have B3 := hideS b3
  clear pb rb ob b3
  have B23 : Hid (Below w1.heap.size w1 w3) := B2.out.trans (B3.out.mono B2.out.size)
  have B13 : Hid (Below w.heap.size w w3) := B1.out.trans (B23.out.mono B1.out.size)
  have O13 : Hid (OwnF w3 w.heap.size 31 uV v1 xs) := O1.out.below B23.out
  go_wp2_with fail
  refine (refSort_any _ v1 xs w3 O13.out HF.out (by rw [← HN.out]; exact hn)).mono ?_
  rintro e w4 ⟨vw, sw, rfl, pw, rw', ow, b4⟩
  have PW := hideS (And.intro pw rw')
  have OW := hideS ow
  have B4 := hideS b4
  clear pw rw' ow b4
  have B34 : Hid (Below w2.heap.size w2 w4) := B3.out.trans (B4.out.mono B3.out.size)
  have M : Hid (Made w w4 p b off xs sa sb sw v1 va vb vw w1.heap.size w2.heap.size w3.heap.size) :=
    ⟨HS.out.below (B13.out.trans (B4.out.mono B13.out.size)), B13.out.trans (B4.out.mono B13.out.size), O13.out.below B4.out, OA.out.below B34.out, OB.out.below B4.out, OW.out,
      fun k hk => (O1.out.own.lt k hk).2, fun k hk => OA.out.own.lt k hk, fun k hk => (OB.out.own.lt k hk).1, fun k hk => (OW.out.own.lt k hk).1, B1.out.size, B2.out.size, B3.out.size, B4.out.size⟩
  clear HBI HSO O1 B1 OA B2 B12 OB B3 B23 B13 O13 OW B4 B34
  have FA := hideS (HF.out.perm PA.out.1)
  have FB := hideS (HF.out.perm PB.out.1)
  have FW := hideS (HF.out.perm PW.out.1)
  have AA := hideS (alike_of_rising FW.out (PA.out.1.trans PW.out.1.symm) PA.out.2 PW.out.2)
  have AB := hideS (alike_of_rising FW.out (PB.out.1.trans PW.out.1.symm) PB.out.2 PW.out.2)
  have LA : Hid (sa.length = n) := by show _ = _; rw [HN.out]; exact PA.out.1.length_eq
  have LB : Hid (sb.length = n) := by show _ = _; rw [HN.out]; exact PB.out.1.length_eq
  clear PA PB PW
  go_wp2_with fail
  refine (are_any _ _ va vw sa sw w4 M.out.oa M.out.ow AA.out FA.out FW.out (by rw [LA.out]; exact hn)).mono ?_
  rintro e w' ⟨rfl, q1, hq1⟩
  have M1 : Hid (Made w w' p b off xs sa sb sw v1 va vb vw w1.heap.size w2.heap.size w3.heap.size) := by rw [hq1]; exact M.out.drewN q1
  clear hq1 M
  go_wp2_with fail
  refine (are_any _ _ vb vw sb sw w' M1.out.ob M1.out.ow AB.out FB.out FW.out (by rw [LB.out]; exact hn)).mono ?_
  rintro e w5 ⟨rfl, q2, hq2⟩
  have M2 : Hid (Made w w5 p b off xs sa sb sw v1 va vb vw w1.heap.size w2.heap.size w3.heap.size) := by rw [hq2]; exact M1.out.drewN q2
  clear hq2 M1
  have HLS2 := HLS.out
  have HRL2 := HRL.out
  generalize lessB x y = lb at HLS2 HRL2
  go_wp2_with (first | (go_at_call 8; refine (turned (HLS2 _)).mono ?_; rintro e w' ⟨rfl, rfl⟩) | (go_at_call 10; refine (turned (bits_any _ _)).mono ?_; rintro e w' ⟨rfl, rfl⟩) | (go_at_call 9; refine (turned (HRL2 _)).mono ?_; rintro e w' ⟨rfl, rfl⟩))
  obtain ⟨pa, ga, ca, hva, hpa, _⟩ := M2.out.oa.shape
  obtain ⟨p1, g1, c1, hv1, hp1, _⟩ := M2.out.o1.shape
  rw [LA.out] at hva hpa
  rw [← HN.out] at hv1 hp1
  subst hva
  subst hv1
  have HPA : Hid (0 < n → pa = some ⟨ga, 0, none⟩) := fun h => (hpa h).1
  have HP1 : Hid (0 < n → p1 = some ⟨g1, 0, none⟩) := fun h => (hp1 h).1
  clear hpa hp1
  go_loopg [11] n (fun m i wr => ∃ k : Nat, k ≤ n ∧ m = n - k ∧ i = .int .i64 k ∧ Hid (Sev w1.heap.size w5 wr (.slice pa n ca) n))
  case atStart => exact ⟨0, Nat.zero_le _, by omega, rfl, Sev.start M2.out.oa LA.out⟩
  case round =>
    obtain ⟨k, hk, rfl, rfl, HV⟩ := hrel
    by_cases hlt : k < n
    · obtain rfl := HPA.out (by omega)
      obtain ⟨z, hcz, hfz⟩ := HV.out.here hlt
      have hst := store_f64 Try.prog wr ⟨ga, k, none⟩ 4619567317775286272 z hcz hfz
      go_wp2
      go_roundg (n - (k + 1))
      case measure => omega
      case rel => exact ⟨k + 1, by omega, rfl, by simp, HV.out.step⟩
    · obtain rfl : k = n := by omega
      have LF : Hid (Left w wr p b off xs sb sw (.slice p1 k c1) vb vw w2.heap.size w3.heap.size) := M2.out.left HS.out.lt HV.out.gr
      clear M2 HV
      go_wp2
      go_loopg [12] k (fun m i wr => ∃ j : Nat, j ≤ k ∧ m = k - j ∧ i = .int .i64 j ∧ Hid (Left w wr p b off xs sb sw (.slice p1 k c1) vb vw w2.heap.size w3.heap.size))
      case atStart => exact ⟨0, Nat.zero_le _, by omega, rfl, LF⟩
      case round =>
        clear LF
        obtain ⟨j, hj, rfl, rfl, LF⟩ := hrel
        by_cases hlt2 : j < k
        · have hxl : j < xs.length := by rw [← HN.out]; exact hlt2
          obtain rfl := HP1.out (by omega)
          obtain rfl := LF.out.src.at_ (by omega)
          have hc1 : wr.cell? ⟨b, off + j, none⟩ = some (.float .f64 (xs.getD j 0)) := LF.out.src.cell j hxl
          have hc2 : wr.cell? ⟨g1, j, none⟩ = some (.int .u64 ((xs.getD j 0 : Nat) : Int)) := LF.out.o1.cell1 HN.out.symm j hxl
          have UX := hideS (HF.out.get hxl)
          clear hxl
          generalize xs.getD j 0 = z at hc1 hc2 UX
          go_wp2
          go_quiet ((go_at_call 11; exact Calls.quiet_of_same (isT z z _ UX UX (sameB_refl _))))
          go_wp2
          go_roundg (k - (j + 1))
          case measure => omega
          case rel => exact ⟨j + 1, by omega, rfl, by simp, LF.out.drewN nq⟩
        · obtain rfl : j = k := by omega
          go_wp2_with (first | (go_at_call 7; refine (are_any _ _ vb vw sb sw _ LF.out.ob LF.out.ow AB.out FB.out FW.out (by rw [LB.out]; exact hn)).mono ?_; rintro e w' ⟨rfl, q, rfl⟩) | (go_at_call 12; refine (awake_true _).mono ?_; rintro e w' ⟨rfl, q', rfl⟩))
          go_ret
          exact ⟨rfl, below_drewS LF.out.bl _⟩

set_option maxRecDepth 100000 in
set_option maxHeartbeats 3200000 in
/-- Of a longer list: its first 200. -/
theorem sorts_great (p : Option Addr) (b off c : Nat) (xs : List Nat) (L : Nat) (x y : Nat) (w : World) (hs : Src w p b off xs) (hf : Fit xs) (hL : 200 < L) (hc : L ≤ c) (hM : c ≤ 9223372036854775807) (hn0 : xs.length = 200) (hx : U64 x) (hy : U64 y) :
    Calls Try.prog 3 #[.slice p L c, .float .f64 x, .float .f64 y] w fun e w' => e = .returned (.bool true) ∧ Below w.heap.size w w' := by
  have HLS := hideS (fun w => less_any x y w hx hy)
  have HRL := hideS (fun w => refLess_any x y w hx hy)
  clear hx hy
  have HS := hideS hs
  have HF := hideS hf
  obtain ⟨n, hN⟩ : ∃ n, n = xs.length := ⟨_, rfl⟩
  have HN := hideS hN
  have HBI : Hid (Calls Try.prog 4 #[.slice p n c] w fun e w' => ∃ v, e = .returned v ∧ OwnF w' w.heap.size 31 uV v xs ∧ Below w.heap.size w w') := by
    rw [hN]; exact bitsList_any p b off c xs w hs (by omega)
  have HSO : Hid (∀ w1 : World, Below w.heap.size w w1 → Calls Try.prog 5 #[.slice p n c] w1 fun e w' => ∃ v os, e = .returned v ∧ os.Perm xs ∧ Rising os ∧ OwnF w' w1.heap.size 23 fV v os ∧ Below w1.heap.size w1 w') := by
    intro w1 hb
    rw [hN]; exact sort_any p b off c xs w1 (hs.below hb) hf (by omega)
  have hn : n ≤ 200 := by omega
  have hn2 : n = 200 := by omega
  subst hn2
  clear hn0
  clear hs hf hN
  go_enter Try.func3, Try.ntmps3
  go_wp2_with fail
  refine HBI.out.mono ?_
  rintro e w1 ⟨v1, rfl, o1, b1⟩
  have O1 := hideS o1
  have B1 := hideS b1
  clear o1 b1
  go_wp2_with fail
  refine (HSO.out w1 B1.out).mono ?_
  rintro e w2 ⟨va, sa, rfl, pa, ra, oa, b2⟩
  have PA := hideS (And.intro pa ra)
  have OA := hideS oa
  have B2 := hideS b2
  clear pa ra oa b2
  have B12 : Hid (Below w.heap.size w w2) := B1.out.trans (B2.out.mono B1.out.size)
  go_wp2_with fail
  refine (HSO.out w2 B12.out).mono ?_
  rintro e w3 ⟨vb, sb, rfl, pb, rb, ob, b3⟩
  have PB := hideS (And.intro pb rb)
  have OB := hideS ob
  have B3 := hideS b3
  clear pb rb ob b3
  have B23 : Hid (Below w1.heap.size w1 w3) := B2.out.trans (B3.out.mono B2.out.size)
  have B13 : Hid (Below w.heap.size w w3) := B1.out.trans (B23.out.mono B1.out.size)
  have O13 : Hid (OwnF w3 w.heap.size 31 uV v1 xs) := O1.out.below B23.out
  go_wp2_with fail
  refine (refSort_any _ v1 xs w3 O13.out HF.out (by rw [← HN.out]; exact hn)).mono ?_
  rintro e w4 ⟨vw, sw, rfl, pw, rw', ow, b4⟩
  have PW := hideS (And.intro pw rw')
  have OW := hideS ow
  have B4 := hideS b4
  clear pw rw' ow b4
  have B34 : Hid (Below w2.heap.size w2 w4) := B3.out.trans (B4.out.mono B3.out.size)
  have M : Hid (Made w w4 p b off xs sa sb sw v1 va vb vw w1.heap.size w2.heap.size w3.heap.size) :=
    ⟨HS.out.below (B13.out.trans (B4.out.mono B13.out.size)), B13.out.trans (B4.out.mono B13.out.size), O13.out.below B4.out, OA.out.below B34.out, OB.out.below B4.out, OW.out,
      fun k hk => (O1.out.own.lt k hk).2, fun k hk => OA.out.own.lt k hk, fun k hk => (OB.out.own.lt k hk).1, fun k hk => (OW.out.own.lt k hk).1, B1.out.size, B2.out.size, B3.out.size, B4.out.size⟩
  clear HBI HSO O1 B1 OA B2 B12 OB B3 B23 B13 O13 OW B4 B34
  have FA := hideS (HF.out.perm PA.out.1)
  have FB := hideS (HF.out.perm PB.out.1)
  have FW := hideS (HF.out.perm PW.out.1)
  have AA := hideS (alike_of_rising FW.out (PA.out.1.trans PW.out.1.symm) PA.out.2 PW.out.2)
  have AB := hideS (alike_of_rising FW.out (PB.out.1.trans PW.out.1.symm) PB.out.2 PW.out.2)
  have LA : Hid (sa.length = 200) := by show _ = _; rw [HN.out]; exact PA.out.1.length_eq
  have LB : Hid (sb.length = 200) := by show _ = _; rw [HN.out]; exact PB.out.1.length_eq
  clear PA PB PW
  go_wp2_with fail
  refine (are_any _ _ va vw sa sw w4 M.out.oa M.out.ow AA.out FA.out FW.out (by rw [LA.out]; exact hn)).mono ?_
  rintro e w' ⟨rfl, q1, hq1⟩
  have M1 : Hid (Made w w' p b off xs sa sb sw v1 va vb vw w1.heap.size w2.heap.size w3.heap.size) := by rw [hq1]; exact M.out.drewN q1
  clear hq1 M
  go_wp2_with fail
  refine (are_any _ _ vb vw sb sw w' M1.out.ob M1.out.ow AB.out FB.out FW.out (by rw [LB.out]; exact hn)).mono ?_
  rintro e w5 ⟨rfl, q2, hq2⟩
  have M2 : Hid (Made w w5 p b off xs sa sb sw v1 va vb vw w1.heap.size w2.heap.size w3.heap.size) := by rw [hq2]; exact M1.out.drewN q2
  clear hq2 M1
  have HLS2 := HLS.out
  have HRL2 := HRL.out
  generalize lessB x y = lb at HLS2 HRL2
  go_wp2_with (first | (go_at_call 8; refine (turned (HLS2 _)).mono ?_; rintro e w' ⟨rfl, rfl⟩) | (go_at_call 10; refine (turned (bits_any _ _)).mono ?_; rintro e w' ⟨rfl, rfl⟩) | (go_at_call 9; refine (turned (HRL2 _)).mono ?_; rintro e w' ⟨rfl, rfl⟩))
  obtain ⟨pa, ga, ca, hva, hpa, _⟩ := M2.out.oa.shape
  obtain ⟨p1, g1, c1, hv1, hp1, _⟩ := M2.out.o1.shape
  rw [LA.out] at hva hpa
  rw [← HN.out] at hv1 hp1
  subst hva
  subst hv1
  have HPA : Hid (0 < 200 → pa = some ⟨ga, 0, none⟩) := fun h => (hpa h).1
  have HP1 : Hid (0 < 200 → p1 = some ⟨g1, 0, none⟩) := fun h => (hp1 h).1
  clear hpa hp1
  go_loopg [11] 200 (fun m i wr => ∃ k : Nat, k ≤ 200 ∧ m = 200 - k ∧ i = .int .i64 k ∧ Hid (Sev w1.heap.size w5 wr (.slice pa 200 ca) 200))
  case atStart => exact ⟨0, Nat.zero_le _, by omega, rfl, Sev.start M2.out.oa LA.out⟩
  case round =>
    obtain ⟨k, hk, rfl, rfl, HV⟩ := hrel
    by_cases hlt : k < 200
    · obtain rfl := HPA.out (by omega)
      obtain ⟨z, hcz, hfz⟩ := HV.out.here hlt
      have hst := store_f64 Try.prog wr ⟨ga, k, none⟩ 4619567317775286272 z hcz hfz
      go_wp2
      go_roundg (200 - (k + 1))
      case measure => omega
      case rel => exact ⟨k + 1, by omega, rfl, by simp, HV.out.step⟩
    · obtain rfl : k = 200 := by omega
      have LF : Hid (Left w wr p b off xs sb sw (.slice p1 200 c1) vb vw w2.heap.size w3.heap.size) := M2.out.left HS.out.lt HV.out.gr
      clear M2 HV
      go_wp2
      go_loopg [12] 200 (fun m i wr => ∃ j : Nat, j ≤ 200 ∧ m = 200 - j ∧ i = .int .i64 j ∧ Hid (Left w wr p b off xs sb sw (.slice p1 200 c1) vb vw w2.heap.size w3.heap.size))
      case atStart => exact ⟨0, Nat.zero_le _, by omega, rfl, LF⟩
      case round =>
        clear LF
        obtain ⟨j, hj, rfl, rfl, LF⟩ := hrel
        by_cases hlt2 : j < 200
        · have hxl : j < xs.length := by rw [← HN.out]; exact hlt2
          obtain rfl := HP1.out (by omega)
          obtain rfl := LF.out.src.at_ (by omega)
          have hc1 : wr.cell? ⟨b, off + j, none⟩ = some (.float .f64 (xs.getD j 0)) := LF.out.src.cell j hxl
          have hc2 : wr.cell? ⟨g1, j, none⟩ = some (.int .u64 ((xs.getD j 0 : Nat) : Int)) := LF.out.o1.cell1 HN.out.symm j hxl
          have UX := hideS (HF.out.get hxl)
          clear hxl
          generalize xs.getD j 0 = z at hc1 hc2 UX
          go_wp2
          go_quiet ((go_at_call 11; exact Calls.quiet_of_same (isT z z _ UX UX (sameB_refl _))))
          go_wp2
          go_roundg (200 - (j + 1))
          case measure => omega
          case rel => exact ⟨j + 1, by omega, rfl, by simp, LF.out.drewN nq⟩
        · obtain rfl : j = 200 := by omega
          go_wp2_with (first | (go_at_call 7; refine (are_any _ _ vb vw sb sw _ LF.out.ob LF.out.ow AB.out FB.out FW.out (by rw [LB.out]; exact hn)).mono ?_; rintro e w' ⟨rfl, q, rfl⟩) | (go_at_call 12; refine (awake_true _).mono ?_; rintro e w' ⟨rfl, q', rfl⟩))
          go_ret
          exact ⟨rfl, below_drewS LF.out.bl _⟩

end Go.Proofs.Ytkmhfjklldhfjaa
