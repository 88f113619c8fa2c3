/- The walk of AccOrder. -/
import Derived.Test.YtejpplcccbiplaaShuf
namespace Go.Proofs.Ytejpplcccbiplaa
open Go.RowKit

/-- Three Accs, one that a world has made since w. -/
structure Tri (w wr : World) (a : Nat) (va : Value) (A : St) (b : Nat) (vb : Value) (Bs : St) (c : Nat) (vc : Value) (Cs : St) (L : Nat) : Prop where
  fst : AccAt wr w.heap.size a va L A
  snd : AccAt wr w.heap.size b vb L Bs
  thd : AccAt wr w.heap.size c vc L Cs
  ab : Apart a va b vb
  ac : Apart a va c vc
  bc : Apart b vb c vc
  bl : Below w.heap.size w wr
theorem Tri.mono {w wr : World} {a b c : Nat} {va vb vc : Value} {A Bs Cs : St} {L L' : Nat} (h : Tri w wr a va A b vb Bs c vc Cs L) (hl : L ≤ L') : Tri w wr a va A b vb Bs c vc Cs L' := ⟨h.fst.mono hl, h.snd.mono hl, h.thd.mono hl, h.ab, h.ac, h.bc, h.bl⟩
theorem Tri.did1 {w wr w' : World} {a b c : Nat} {va vb vc va' : Value} {A Bs Cs A' : St} {L L' : Nat} (h : Tri w wr a va A b vb Bs c vc Cs L) (hd : Did wr w' w.heap.size a va L' A' va') (hl : L ≤ L') : Tri w w' a va' A' b vb Bs c vc Cs L' :=
  ⟨hd.acc, (h.snd.apart h.ab hd).mono hl, (h.thd.apart h.ac hd).mono hl, h.ab.step hd h.snd, h.ac.step hd h.thd, h.bc, h.bl.trans (hd.wrote.below (fun k hk => (h.fst.base k hk).1) h.bl.size)⟩
theorem Tri.did2 {w wr w' : World} {a b c : Nat} {va vb vc vb' : Value} {A Bs Cs B' : St} {L L' : Nat} (h : Tri w wr a va A b vb Bs c vc Cs L) (hd : Did wr w' w.heap.size b vb L' B' vb') (hl : L ≤ L') : Tri w w' a va A b vb' B' c vc Cs L' :=
  ⟨(h.fst.apart h.ab.symm hd).mono hl, hd.acc, (h.thd.apart h.bc hd).mono hl, (h.ab.symm.step hd h.fst).symm, h.ac, h.bc.step hd h.thd, h.bl.trans (hd.wrote.below (fun k hk => (h.snd.base k hk).1) h.bl.size)⟩
theorem Tri.did3 {w wr w' : World} {a b c : Nat} {va vb vc vc' : Value} {A Bs Cs C' : St} {L L' : Nat} (h : Tri w wr a va A b vb Bs c vc Cs L) (hd : Did wr w' w.heap.size c vc L' C' vc') (hl : L ≤ L') : Tri w w' a va A b vb Bs c vc' C' L' :=
  ⟨(h.fst.apart h.ac.symm hd).mono hl, (h.snd.apart h.bc.symm hd).mono hl, hd.acc, h.ab, (h.ac.symm.step hd h.fst).symm, (h.bc.symm.step hd h.snd).symm, h.bl.trans (hd.wrote.below (fun k hk => (h.thd.base k hk).1) h.bl.size)⟩
theorem Tri.drewN {w wr : World} {a b c : Nat} {va vb vc : Value} {A Bs Cs : St} {L : Nat} (h : Tri w wr a va A b vb Bs c vc Cs L) (n : Nat) : Tri w (wr.drewN n) a va A b vb Bs c vc Cs L :=
  ⟨h.fst.drewN n, h.snd.drewN n, h.thd.drewN n, h.ab, h.ac, h.bc, ⟨h.bl.os, h.bl.tape, h.bl.output, h.bl.size, h.bl.block⟩⟩
theorem Tri.below {w wr w' : World} {a b c : Nat} {va vb vc : Value} {A Bs Cs : St} {L : Nat} (h : Tri w wr a va A b vb Bs c vc Cs L) (hb : Below wr.heap.size wr w') : Tri w w' a va A b vb Bs c vc Cs L :=
  ⟨h.fst.below hb, h.snd.below hb, h.thd.below hb, h.ab, h.ac, h.bc, h.bl.trans (hb.mono h.bl.size)⟩
theorem apart_new {b c : Nat} (h : b ≠ c) : Apart b (.slice none 0 0) c (.slice none 0 0) := by
  rintro k (rfl | hk) (h2 | h2)
  · exact h h2
  · cases h2
  · cases hk
  · cases hk
theorem tri_new {w w1 w2 w3 : World} (a1 : AccAt w1 w.heap.size w.heap.size (.slice none 0 0) 0 ⟨0, 0⟩) (b1 : Below w.heap.size w w1) (a2 : AccAt w2 w.heap.size w1.heap.size (.slice none 0 0) 0 ⟨0, 0⟩) (b2 : Below w1.heap.size w1 w2) (a3 : AccAt w3 w.heap.size w2.heap.size (.slice none 0 0) 0 ⟨0, 0⟩) (b3 : Below w2.heap.size w2 w3) :
    Tri w w3 w.heap.size (.slice none 0 0) ⟨0, 0⟩ w1.heap.size (.slice none 0 0) ⟨0, 0⟩ w2.heap.size (.slice none 0 0) ⟨0, 0⟩ 0 := by
  have h1 := a1.lt
  have h2 := a2.lt
  have h3 := b2.size
  exact ⟨(a1.below b2).below b3, a2.below b3, a3, apart_new (by omega), apart_new (by omega), apart_new (by omega), (b1.trans (b2.mono b1.size)).trans (b3.mono (by have := b1.size; omega))⟩

theorem joinN_lt (m e : Int) : joinN m e < 18446744073709551616 := by
  unfold joinN
  have := nearR_le m.natAbs e
  split
  · decide
  · split <;> omega
theorem valSt_lt (a : St) : valSt a < 18446744073709551616 := by
  unfold valSt valF
  split
  · exact joinN_lt _ _
  · split
    · decide
    · split <;> decide
theorem src_keep {w w' : World} {p : Option Addr} {b off : Nat} {xs : List Nat} (h : Src w p b off xs) (hb : Below w.heap.size w w') : Src w' p b off xs := h.below hb
set_option maxHeartbeats 400000 in
theorem ieeeSame_any (r : Nat) (w : World) (h : U64 r) : Calls Try.prog 13 #[.float .f64 r, .float .f64 r] w fun e w' => e = .returned (.bool true) ∧ w' = w := by
  have HR := hideS (fun w => refSame_any r r w h h)
  rw [sameB_refl] at HR
  go_enter Try.func13, Try.ntmps13
  go_wp2_with (first | (go_at_call 20; refine (turned (bits_any _ _)).mono ?_; rintro e w' ⟨rfl, rfl⟩) | (go_at_call 37; refine (turned (HR.out _)).mono ?_; rintro e w' ⟨rfl, rfl⟩))
  go_ret
  exact ⟨rfl, rfl⟩

set_option maxRecDepth 100000 in
set_option maxHeartbeats 3200000 in
theorem order_great (p : Option Addr) (n c : Nat) (v2 : Value) (cut : Int) (w : World) (h : 200 < n) (hn : n ≤ 9223372036854775807) :
    Calls Try.prog 3 #[.slice p n c, v2, .int .i64 cut] w fun e w' => e = .returned (.bool true) ∧ Below w.heap.size w w' := by
  go_enter Try.func3, Try.ntmps3
  go_wp2_with fail
  refine (awake3 w).mono ?_
  rintro e w2 ⟨rfl, hb⟩
  have B2 := hideS hb
  clear hb
  go_wp2_with fail
  go_ret
  exact ⟨rfl, B2.out⟩

set_option maxRecDepth 100000 in
set_option maxHeartbeats 6400000 in
theorem order_small (p : Option Addr) (g off c : Nat) (xs : List Nat) (p' : Option Addr) (g' off' L' c' : Nat) (bs : List Int) (n : Nat) (cut : Int) (w : World) (hs : Src w p g off xs) (hf : FitU xs) (hb : SrcI w p' g' off' bs) (hx : xs.length = n) (hbl : bs.length = min L' n) (hn : n ≤ 200) (hL : L' ≤ 9223372036854775807) (hnil : p = none → n = 0 ∧ c = 0) :
    Calls Try.prog 3 #[.slice p n c, .slice p' L' c', .int .i64 cut] w fun e w' => e = .returned (.bool true) ∧ Below w.heap.size w w' := by
  have HSh := hideS (shuf_core p g off c xs p' g' off' L' c' bs n w hs hb hx hbl hn hL hnil)
  have HS := hideS (And.intro hs (And.intro hf hx))
  clear hs hb hx hbl hnil hf
  go_enter Try.func3, Try.ntmps3
  go_wp2_with fail
  refine HSh.out.mono ?_
  rintro e w1 ⟨v, ys, rfl, o1, hp, b1⟩
  obtain ⟨pm, gm, cm, hvm, _, _, hsm⟩ := o1.src
  subst hvm
  have HM : Hid (Src w1 pm gm 0 ys ∧ FitU ys ∧ ys.length = n ∧ sumS ys = sumS xs) := ⟨hsm, fun x hx => HS.out.2.1 x (hp.subset hx), o1.len, sumS_perm hp⟩
  have HL : Hid (Src w1 p g off xs) := HS.out.1.below b1
  have B1 := hideS b1
  have HN1 := hideS (new_any w1 w1.heap.size (Nat.le_refl _))
  clear o1 hp b1 hsm HSh
  go_wp2_with fail
  refine HN1.out.mono ?_
  rintro e w2 ⟨rfl, a1, c1⟩
  have HN2 := hideS (new_any w2 w1.heap.size c1.size)
  have R1 := hideS (And.intro a1 c1)
  clear a1 c1 HN1
  go_wp2_with fail
  refine HN2.out.mono ?_
  rintro e w3 ⟨rfl, a2, c2⟩
  have HN3 := hideS (new_any w3 w1.heap.size (Nat.le_trans R1.out.2.size c2.size))
  have R2 := hideS (And.intro a2 c2)
  clear a2 c2 HN2
  go_wp2_with fail
  refine HN3.out.mono ?_
  rintro e w4 ⟨rfl, a3, c3⟩
  have T0 := hideS (tri_new R1.out.1 R1.out.2 R2.out.1 R2.out.2 a3 c3)
  clear a3 c3 HN3 R1 R2
  go_wp2_with fail
  go_loopw [11] (fun i wr => ∃ k : Nat, k ≤ n ∧ i = .int .i64 k ∧ Hid (∃ va, Tri w1 wr w1.heap.size va (sumS (xs.take k)) w2.heap.size (.slice none 0 0) ⟨0, 0⟩ w3.heap.size (.slice none 0 0) ⟨0, 0⟩ (71 + k))) (fun i _ => n - (intOf i).toNat)
  case atStart => exact ⟨0, Nat.zero_le _, rfl, ⟨_, T0.out.mono (by omega)⟩⟩
  case round =>
    clear T0
    obtain ⟨k, hk, rfl, HR⟩ := hrel
    by_cases hlt : k < n
    · obtain ⟨va, hr⟩ := HR.out
      have hx : k < xs.length := by rw [HS.out.2.2]; exact hlt
      obtain rfl := HL.out.at_ (by omega)
      have hcx : wr.cell? ⟨g, off + k, none⟩ = some (.float .f64 (xs.getD k 0)) := (hr.bl.cell (p := ⟨g, off + k, none⟩) (HL.out.lt (by omega))).trans (HL.out.cell k hx)
      have HU := HS.out.2.1.get hx
      have HNx := hideS (foldl_next addS ⟨0, 0⟩ xs hx)
      clear hx
      generalize xs.getD k 0 = x at hcx HU HNx
      have HAd := hideS (add_any w1.heap.size w1.heap.size va (71 + k) _ x x wr hr.fst hr.bl.size rfl HU (by omega))
      have T := hideS hr
      clear hr HR HU
      go_wp2_with fail
      refine HAd.out.mono ?_
      rintro e w5 ⟨rfl, v5, hd⟩
      have T2 : Hid (∃ va, Tri w1 w5 w1.heap.size va (sumS (xs.take (k + 1))) w2.heap.size (.slice none 0 0) ⟨0, 0⟩ w3.heap.size (.slice none 0 0) ⟨0, 0⟩ (71 + (k + 1))) := ⟨v5, by rw [sumS_def, HNx.out]; exact (T.out.did1 hd (by omega)).mono (by omega)⟩
      clear hd HAd T
      go_wp2_with fail
      go_roundw
      case rel => exact ⟨k + 1, by omega, by simp, T2⟩
      case measure => simp [intOf]; omega
    · obtain rfl : k = n := by omega
      obtain ⟨va, hr⟩ := HR.out
      have T := hideS hr
      rw [List.take_of_length_le (by rw [HS.out.2.2]; exact Nat.le_refl _)] at T
      clear hr HR
      go_wp2_with fail
      go_loopw [12] (fun i wr => ∃ j : Nat, j ≤ k ∧ i = .int .i64 j ∧ Hid (∃ vb vc Bs Cs, Tri w1 wr w1.heap.size va (sumS xs) w2.heap.size vb Bs w3.heap.size vc Cs (71 + k + j) ∧ Bs.merge Cs = sumS (ys.take j))) (fun i _ => k - (intOf i).toNat)
      case atStart => exact ⟨0, Nat.zero_le _, rfl, ⟨_, _, _, _, T.out.mono (by omega), by rw [List.take_zero, merge_nil nil_ok]; rfl⟩⟩
      case round =>
        clear T
        obtain ⟨j, hj, rfl, HR⟩ := hrel
        obtain ⟨vb, vc, Bs, Cs, hr, hm⟩ := HR.out
        by_cases hlt2 : j < k
        · have hy : j < ys.length := by rw [HM.out.2.2.1]; exact hlt2
          obtain rfl := HM.out.1.at_ (by omega)
          have hcy : wr.cell? ⟨gm, j, none⟩ = some (.float .f64 (ys.getD j 0)) := by
            have := (hr.bl.cell (p := ⟨gm, 0 + j, none⟩) (HM.out.1.lt (by omega))).trans (HM.out.1.cell j hy)
            rw [Nat.zero_add] at this; exact this
          have HU := HM.out.2.1.get hy
          have HNx := hideS (foldl_next addS ⟨0, 0⟩ ys hy)
          clear hy
          generalize ys.getD j 0 = y at hcy HU HNx
          have HAB := hideS (add_any w1.heap.size w2.heap.size vb (71 + k + j) _ y y wr hr.snd hr.bl.size rfl HU (by omega))
          have HAC := hideS (add_any w1.heap.size w3.heap.size vc (71 + k + j) _ y y wr hr.thd hr.bl.size rfl HU (by omega))
          have T := hideS (And.intro hr hm)
          clear hr hm HR HU
          go_wp2_with fail
          · refine HAC.out.mono ?_
            rintro e w5 ⟨rfl, v5, hd⟩
            have T2 : Hid (∃ vb vc Bs Cs, Tri w1 w5 w1.heap.size va (sumS xs) w2.heap.size vb Bs w3.heap.size vc Cs (71 + k + (j + 1)) ∧ Bs.merge Cs = sumS (ys.take (j + 1))) := ⟨vb, v5, Bs, _, (T.out.1.did3 hd (by omega)).mono (by omega), by rw [both_snd T.out.1.snd.ok T.out.1.thd.ok, T.out.2, sumS_def, sumS_def, HNx.out]; rfl⟩
            clear hd
            go_wp2_with fail
            go_roundw
            case rel => exact ⟨j + 1, by omega, by simp, T2⟩
            case measure => simp [intOf]; omega
          · refine HAB.out.mono ?_
            rintro e w5 ⟨rfl, v5, hd⟩
            have T2 : Hid (∃ vb vc Bs Cs, Tri w1 w5 w1.heap.size va (sumS xs) w2.heap.size vb Bs w3.heap.size vc Cs (71 + k + (j + 1)) ∧ Bs.merge Cs = sumS (ys.take (j + 1))) := ⟨v5, vc, _, Cs, (T.out.1.did2 hd (by omega)).mono (by omega), by rw [both_fst T.out.1.snd.ok T.out.1.thd.ok, T.out.2, sumS_def, sumS_def, HNx.out]; rfl⟩
            clear hd
            go_wp2_with fail
            go_roundw
            case rel => exact ⟨j + 1, by omega, by simp, T2⟩
            case measure => simp [intOf]; omega
        · obtain rfl : j = k := by omega
          rw [List.take_of_length_le (by rw [HM.out.2.2.1]; exact Nat.le_refl _), HM.out.2.2.2] at hm
          have HMe := hideS (merge_any w1.heap.size w2.heap.size w3.heap.size vb vc _ _ Bs Cs wr hr.snd hr.thd hr.bc hr.bl.size (by omega) (by omega))
          rw [hm] at HMe
          have T := hideS hr
          clear hr hm HR
          go_wp2_with fail
          refine HMe.out.mono ?_
          rintro e w5 ⟨rfl, v5, hd⟩
          have T2 := hideS (T.out.did2 hd (by omega))
          clear hd HMe T
          have HS1 := hideS (sameA_any w1.heap.size w1.heap.size w1.heap.size w2.heap.size va v5 _ _ _ _ w5 T2.out.fst T2.out.snd (by omega) (by omega))
          have HS2 := hideS (fun q => sameA_any w1.heap.size w1.heap.size w2.heap.size w1.heap.size v5 va _ _ _ _ (w5.drewN q) (T2.out.snd.drewN q) (T2.out.fst.drewN q) (by omega) (by omega))
          rw [same_self rfl] at HS1 HS2
          have HSuL : Hid (∀ w6, Below w1.heap.size w1 w6 → Calls Try.prog 14 #[.slice p j c] w6 fun e w' => e = .returned (.float .f64 (valSt (sumS xs))) ∧ Below w6.heap.size w6 w') := fun w6 hb6 => by
            have := sum_any p g off c xs w6 (src_keep HL.out hb6) HS.out.2.1 (by rw [HS.out.2.2]; omega)
            rw [HS.out.2.2] at this; exact this
          have HSuM : Hid (∀ w6, Below w1.heap.size w1 w6 → Calls Try.prog 14 #[.slice pm j cm] w6 fun e w' => e = .returned (.float .f64 (valSt (sumS xs))) ∧ Below w6.heap.size w6 w') := fun w6 hb6 => by
            have := sum_any pm gm 0 cm ys w6 (src_keep HM.out.1 hb6) HM.out.2.1 (by rw [HM.out.2.2.1]; omega)
            rw [HM.out.2.2.1, HM.out.2.2.2] at this; exact this
          have HVa : Hid (∀ w6, Below w5.heap.size w5 w6 → Calls Try.prog 15 #[.pointer (some ⟨w1.heap.size, 0, none⟩)] w6 fun e w' => e = .returned (.float .f64 (valSt (sumS xs))) ∧ Below w6.heap.size w6 w') := fun w6 hb6 =>
            value_any w1.heap.size w1.heap.size va _ _ w6 (T2.out.fst.below hb6) (Nat.le_trans T2.out.bl.size hb6.size) (by omega)
          have HIe := hideS (fun w => ieeeSame_any (valSt (sumS xs)) w (u64_of_nat (valSt_lt _)))
          have B5 := hideS T2.out.bl
          clear T2
          generalize valSt (sumS xs) = r at *
          go_wp2_with fail
          refine HS1.out.mono ?_
          rintro e w6 ⟨rfl, q, rfl⟩
          go_wp2_with fail
          refine (HS2.out q).mono ?_
          rintro e w6 ⟨rfl, q2, h6⟩
          have C6 : Hid (Below w5.heap.size w5 w6) := by rw [h6]; exact ⟨rfl, rfl, rfl, Nat.le_refl _, fun _ _ => rfl⟩
          clear h6 HS1 HS2
          go_wp2_with fail
          refine (HSuL.out w6 (B5.out.trans (C6.out.mono B5.out.size))).mono ?_
          rintro e w7 ⟨rfl, hb⟩
          have C7 : Hid (Below w5.heap.size w5 w7) := C6.out.trans (hb.mono C6.out.size)
          clear hb C6
          go_wp2_with fail
          refine (HSuM.out w7 (B5.out.trans (C7.out.mono B5.out.size))).mono ?_
          rintro e w8 ⟨rfl, hb⟩
          have C8 : Hid (Below w5.heap.size w5 w8) := C7.out.trans (hb.mono C7.out.size)
          clear hb C7
          go_wp2_with fail
          refine (turned (HIe.out w8)).mono ?_
          rintro e w9 ⟨rfl, rfl⟩
          go_wp2_with fail
          refine (HVa.out w8 C8.out).mono ?_
          rintro e w10 ⟨rfl, hb⟩
          have C10 : Hid (Below w5.heap.size w5 w10) := C8.out.trans (hb.mono C8.out.size)
          clear hb C8
          go_wp2_with fail
          refine (HSuM.out w10 (B5.out.trans (C10.out.mono B5.out.size))).mono ?_
          rintro e w11 ⟨rfl, hb⟩
          have C11 : Hid (Below w5.heap.size w5 w11) := C10.out.trans (hb.mono C10.out.size)
          clear hb C10
          go_wp2_with fail
          refine (turned (HIe.out w11)).mono ?_
          rintro e w12 ⟨rfl, rfl⟩
          go_wp2_with fail
          refine (awake3 _).mono ?_
          rintro e w13 ⟨rfl, hb⟩
          have C13 : Hid (Below w.heap.size w w13) := by
            have h1 : Below w5.heap.size w5 w13 := C11.out.trans (hb.mono C11.out.size)
            have h2 : Below w1.heap.size w1 w13 := B5.out.trans (h1.mono B5.out.size)
            exact B1.out.trans (h2.mono B1.out.size)
          clear hb C11
          go_wp2_with fail
          go_ret
          exact ⟨rfl, C13.out⟩
end Go.Proofs.Ytejpplcccbiplaa
