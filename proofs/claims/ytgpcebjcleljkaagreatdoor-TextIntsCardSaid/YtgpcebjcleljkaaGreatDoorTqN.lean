/- The document's Int at any text. -/
import Derived.Test.YtgpcebjcleljkaaGreatDoorHar
import Derived.Test.YtgpcebjcleljkaaGreatDoorHaq
import Derived.LoopTactic
namespace Go.Proofs.YtgpcebjcleljkaaGreatDoor
open Go.RowKit

theorem intD_no {s : ByteArray} (h : ¬ WhP s) : IntD s 0 false := ⟨fun _ => ⟨rfl, rfl⟩, fun h' => absurd h' h, fun h' => absurd h' h⟩
theorem intD_far {s : ByteArray} (h : WhP s → ∀ v, Lib.atoiAll s.data.toList ≠ .ok v) : IntD s 0 false := ⟨fun _ => ⟨rfl, rfl⟩, fun h1 v hv => absurd hv (h h1 v), fun _ _ => ⟨rfl, rfl⟩⟩
theorem intD_is {s : ByteArray} {v : Int} (h : WhP s) (hv : Lib.atoiAll s.data.toList = .ok v) : IntD s v true := ⟨fun h' => absurd h h', fun _ v' h' => by
  rw [hv] at h'
  injection h' with h'
  exact ⟨h', rfl⟩, fun _ h' => absurd hv (h' v)⟩
theorem offN_le (s : ByteArray) : offN s ≤ 1 := by unfold offN; split <;> omega
theorem intD_long {s : ByteArray} (h : 20 < s.size) : IntD s 0 false := intD_far fun hW v hv => by
  obtain ⟨h0, hd, h48⟩ := hW.digits
  rw [atoi_val h0 hd] at hv
  have ho := offN_le s
  have hc := hd (offN s) (Nat.le_refl _) h0
  have hc2 : byN s (offN s) ≠ 48 := fun e => by have := h48 e; omega
  have hbig : 10000000000000000000 ≤ valL 0 (s.data.toList.drop (offN s)) := by
    have hb := byN_eq s (offN s)
    have hl : (s.data.toList.drop (offN s)).length = s.size - offN s := by rw [List.length_drop]; simp
    have hget : (s.data.toList.drop (offN s))[0]? = s.data.toList[offN s]? := by rw [List.getElem?_drop]; rfl
    rw [List.getD_eq_getElem?_getD] at hb
    generalize s.data.toList.drop (offN s) = M at hl hget ⊢
    cases M with
    | nil => simp at hl; omega
    | cons c r =>
      rw [List.getElem?_cons_zero] at hget
      rw [← hget] at hb
      have hb' : byN s (offN s) = c.toNat := hb
      have ev : valL 0 (c :: r) = valL (0 * 10 + (c.toNat - 48)) r := rfl
      rw [ev]
      refine Nat.le_trans ?_ (valL_big r _)
      have h1 : 1 ≤ 0 * 10 + (c.toNat - 48) := by omega
      have h2 : 10 ^ 19 ≤ 10 ^ r.length := Nat.pow_le_pow_right (by decide) (by rw [List.length_cons] at hl; omega)
      have h3 : 1 * 10 ^ 19 ≤ (0 * 10 + (c.toNat - 48)) * 10 ^ r.length := Nat.mul_le_mul h1 h2
      exact Nat.le_trans (by decide) h3
  generalize valL 0 (s.data.toList.drop (offN s)) = V at hv hbig
  split at hv
  · split at hv
    · cases hv
    · split at hv
      · cases hv
      · omega
  · cases hv
def RefI (s : ByteArray) (w : World) (e : Ending) (w' : World) : Prop := ∃ n ok, e = .returned (.tuple #[.int .i64 n, .bool ok]) ∧ IntD s n ok ∧ Below w.heap.size w w'
theorem RefI.mk {s : ByteArray} {w w' : World} {n : Int} {ok : Bool} (h : IntD s n ok) (hb : Below w.heap.size w w') : RefI s w (.returned (.tuple #[.int .i64 n, .bool ok])) w' := ⟨n, ok, rfl, h, hb⟩
theorem intD_end {s : ByteArray} {N o : Nat} (ho : offN s = o) (h0 : o < s.size) (hd : ∀ j, o ≤ j → j < s.size → 48 ≤ byN s j ∧ byN s j ≤ 57) (h48 : ¬ (byN s o = 48 ∧ 1 < s.size)) (hN : valL 0 (s.data.toList.drop o) = N) :
    (18446744073709551616 ≤ N → IntD s 0 false) ∧ (o = 1 → 9223372036854775808 < N → IntD s 0 false) ∧ (o = 1 → N ≤ 9223372036854775808 → IntD s (-(N : Int)) true) ∧ (o = 0 → 9223372036854775808 ≤ N → IntD s 0 false) ∧ (o = 0 → N < 9223372036854775808 → IntD s (N : Int) true) := by
  subst ho
  have hW : WhP s := whP_of h0 hd fun e => by
    rcases Nat.lt_or_ge 1 s.size with h | h
    · exact absurd ⟨e, h⟩ h48
    · omega
  have hv := atoi_val h0 hd
  rw [hN] at hv
  refine ⟨fun h => intD_far fun _ v e => ?_, fun h1 h2 => intD_far fun _ v e => ?_, fun h1 h2 => intD_is hW ?_, fun h1 h2 => intD_far fun _ v e => ?_, fun h1 h2 => intD_is hW ?_⟩
  · rw [hv, if_neg (by omega)] at e; cases e
  · rw [hv] at e
    split at e
    · rw [if_neg (by omega), if_pos ⟨h1, h2⟩] at e; cases e
    · cases e
  · rw [hv, if_pos (by omega), if_neg (by omega), if_neg (by omega), if_pos h1]
  · rw [hv] at e
    split at e
    · rw [if_pos ⟨h1, h2⟩] at e; cases e
    · cases e
  · rw [hv, if_pos (by omega), if_neg (by omega), if_neg (by omega), if_neg (by omega)]
theorem val_pos {s : ByteArray} {o : Nat} (h : o < s.size) (hc : 49 ≤ byN s o) : 1 ≤ valL 0 (s.data.toList.drop o) := by
  have hb := byN_eq s o
  have hget : (s.data.toList.drop o)[0]? = s.data.toList[o]? := by rw [List.getElem?_drop]; rfl
  have hl : (s.data.toList.drop o).length = s.size - o := by rw [List.length_drop]; simp
  rw [List.getD_eq_getElem?_getD] at hb
  generalize s.data.toList.drop o = M at hl hget ⊢
  cases M with
  | nil => simp at hl; omega
  | cons c r =>
    rw [List.getElem?_cons_zero] at hget
    rw [← hget] at hb
    have hb' : byN s o = c.toNat := hb
    have ev : valL 0 (c :: r) = valL (0 * 10 + (c.toNat - 48)) r := rfl
    rw [ev]
    exact Nat.le_trans (by omega) (valL_ge r _)
theorem bl_lt64 {N : Nat} (h : bl N ≤ 64) : N < 18446744073709551616 := by
  unfold bl at h
  split at h
  · omega
  · rename_i h0
    exact (Nat.log2_lt h0).1 (show N.log2 < 64 by omega)
theorem word_step (N k : Nat) : N / 2 ^ (32 * (k + 1)) * 4294967296 + dgt N k = N / 2 ^ (32 * k) := by
  unfold dgt
  rw [show 32 * (k + 1) = 32 * k + 32 by omega, Nat.pow_add, ← Nat.div_div_eq_div_mul]
  exact Nat.div_add_mod' _ _
theorem drop_more {s : ByteArray} {o i : Nat} (h1 : o ≤ i) (h2 : i < s.size) : (s.data.toList.drop o).take (i + 1 - o) = (s.data.toList.drop o).take (i - o) ++ [s[i]'h2] := by
  rw [show i + 1 - o = (i - o) + 1 by omega, List.take_add_one]
  congr 1
  rw [List.getElem?_drop, show o + (i - o) = i by omega, List.getElem?_eq_getElem (by simpa using h2)]
  rfl
theorem val_more {s : ByteArray} {o i : Nat} (h1 : o ≤ i) (h2 : i < s.size) : valL 0 ((s.data.toList.drop o).take (i + 1 - o)) = valL 0 ((s.data.toList.drop o).take (i - o)) * 10 + (byN s i - 48) := by
  rw [drop_more h1 h2, valL_snoc]
  unfold byN
  rw [dif_pos h2]
theorem val_small {s : ByteArray} {o i : Nat} (h1 : o ≤ i) (h2 : i ≤ s.size) (hi : i ≤ 20) (hd : ∀ j, o ≤ j → j < i → 48 ≤ byN s j ∧ byN s j ≤ 57) : valL 0 ((s.data.toList.drop o).take (i - o)) < 2 ^ 100 := by
  have hdg : ∀ c ∈ (s.data.toList.drop o).take (i - o), digL c := fun c hc => by
    obtain ⟨k, hk, rfl⟩ := List.mem_iff_getElem.1 hc
    have hl : k < i - o := by have := hk; rw [List.length_take] at this; omega
    have := hd (o + k) (by omega) (by omega)
    rw [byN_eq, List.getD_eq_getElem?_getD, List.getElem?_eq_getElem (by have : o + k < s.size := by omega
                                                                         simpa using this)] at this
    rw [List.getElem_take, List.getElem_drop]
    exact this
  have := valL_lt _ 0 0 hdg (by decide)
  refine Nat.lt_of_lt_of_le this (Nat.le_trans (Nat.pow_le_pow_right (by decide) (show 0 + _ ≤ 20 by rw [List.length_take]; omega)) (by decide))
set_option maxRecDepth 20000 in
set_option maxHeartbeats 6400000 in
theorem ref2Int_any (s : ByteArray) (hs : s.size ≤ 281474976710656) (w : World) :
    Calls Tryz.prog 5 #[.string s] w (RefI s w) := by
  have HD := hide hs
  obtain ⟨n, hn⟩ : ∃ n, s.size = n := ⟨_, rfl⟩
  have HN := hide hn
  by_cases hz : n = 0
  · have HR : Hid (IntD s 0 false) := intD_no fun hW => by have := hW.digits.1; omega
    subst hz
    go_enter Tryz.func5, Tryz.ntmps5
    go_wp2_with fail
    go_ret2
    exact RefI.mk HR.out (Below.refl _ _)
  by_cases hb : 20 < n
  · have HR : Hid (IntD s 0 false) := intD_long (by omega)
    have t0 : ((n : Int) == 0) = false := by simpa using hz
    have t1 : (20 : Int) < (n : Int) := by omega
    clear hz hb hs
    go_enter Tryz.func5, Tryz.ntmps5
    go_wp2_with fail
    go_ret2
    exact RefI.mk HR.out (Below.refl _ _)
  have t0 : ((n : Int) == 0) = false := by simpa using hz
  have t1 : ¬ (20 : Int) < (n : Int) := by omega
  have t2 : (0 : Int) < (n : Int) := by omega
  obtain ⟨c0, hc0⟩ : ∃ c, s[0]'(by omega) = c := ⟨_, rfl⟩
  have hk0 : ∀ h, s[0]'h = c0 := fun _ => hc0
  have e0 : byN s 0 = c0.toNat := by unfold byN; rw [dif_pos (by omega), hc0]
  obtain ⟨o, ho⟩ : ∃ o, offN s = o := ⟨_, rfl⟩
  have hoc : (c0.toNat = 45 ∧ o = 1) ∨ (c0.toNat ≠ 45 ∧ o = 0) := by
    rw [← ho]
    unfold offN
    rw [e0]
    split <;> omega
  have HO := hide ho
  have H0 : Hid (DN w (.slice none 0 0) (valL 0 ((s.data.toList.drop o).take (o - o))) ∧ Below w.heap.size w w) := by
    refine ⟨Or.inl ⟨?_, none, 0, rfl⟩, Below.refl _ _⟩
    rw [Nat.sub_self, List.take_zero]
    rfl
  have ho1 : o ≤ 1 := by omega
  have ho2 : o ≤ n := by omega
  clear hs hc0 e0 ho
  rcases hoc with ⟨h45, rfl⟩ | ⟨h45, rfl⟩
  · have t3 : ((c0.toNat : Int) == 45) = true := by rw [h45]; rfl
    clear h45
    go_enter Tryz.func5, Tryz.ntmps5
    go_wp2_with fail
    go_loopw [5, 6] (fun v iv wr => ∃ i : Nat, 1 ≤ i ∧ i ≤ n ∧ iv = .int .i64 (i : Int) ∧ Hid (DN wr v (valL 0 ((s.data.toList.drop 1).take (i - 1))) ∧ Below w.heap.size w wr) ∧ Hid (∀ j, 1 ≤ j → j < i → 48 ≤ byN s j ∧ byN s j ≤ 57)) (fun _ iv _ => n - (intOf iv).toNat)
    case atStart => exact ⟨1, Nat.le_refl _, ho2, rfl, H0, fun j h1 h2 => by omega⟩
    case round =>
      clear H0
      obtain ⟨i, hi1, hi2, rfl, HI, HG⟩ := hrel
      have HV : Hid (valL 0 ((s.data.toList.drop 1).take (i - 1)) < 2 ^ 100) := val_small hi1 (by rw [HN.out]; exact hi2) (by omega) HG.out
      by_cases hlt : i < n
      · have hls : i < s.size := by rw [HN.out]; exact hlt
        obtain ⟨c, hc⟩ : ∃ c, s[i]'hls = c := ⟨_, rfl⟩
        have hk : ∀ h, s[i]'h = c := fun _ => hc
        have ec : byN s i = c.toNat := by unfold byN; rw [dif_pos hls, hc]
        have HE := hide ec
        have HNx := hide (val_more (o := 1) hi1 hls)
        have t5 : (i : Int) < (n : Int) := by omega
        have hcb : c.toNat < 256 := UInt8.toNat_lt c
        obtain ⟨C, hC⟩ : ∃ C, c.toNat = C := ⟨_, rfl⟩
        have HC := hide hC
        have hk2 : ∀ h, (s[i]'h).toNat = C := fun h => by rw [hk h, hC]
        by_cases hdig : 48 ≤ C ∧ C ≤ 57
        · have t6 : ¬ (C : Int) < 48 := by omega
          have t7 : ¬ (57 : Int) < (C : Int) := by omega
          have t8 : ¬ C < 48 := by omega
          have t9 : ¬ 57 < C := by omega
          have HM := hide (more_any u5 _ C wr HI.out.1 HV.out hdig.1 hdig.2)
          have HG2 : Hid (∀ j, 1 ≤ j → j < i + 1 → 48 ≤ byN s j ∧ byN s j ≤ 57) := fun j h1 h2 => by
            by_cases e : j = i
            · rw [e, HE.out, HC.out]; exact hdig
            · exact HG.out j h1 (by omega)
          clear hdig hc hls ec hcb hk
          go_wp2_with fail
          refine HM.out.mono ?_
          rintro e w1 ⟨v1, rfl, hd1, hb1⟩
          have H1 : Hid (DN w1 v1 (valL 0 ((s.data.toList.drop 1).take (i + 1 - 1))) ∧ Below w.heap.size w w1) := by
            refine ⟨?_, HI.out.2.trans (hb1.mono HI.out.2.size)⟩
            rw [HNx.out, HE.out, HC.out]
            exact hd1
          clear hd1 hb1
          go_wp2_with fail
          go_roundw
          case rel => exact ⟨i + 1, by omega, hlt, by simp, H1, HG2⟩
          case measure => simp [intOf]; omega
        · have HR : Hid (IntD s 0 false) := intD_no fun hW => by
            obtain ⟨_, hd, _⟩ := hW.digits
            rw [HO.out] at hd
            have := hd i hi1 hls
            rw [ec, hC] at this
            exact hdig this
          have HB := hide HI.out.2
          by_cases hlo : C < 48
          · have t6 : (C : Int) < 48 := by omega
            have HLo := hide hlo
            clear hdig hc hls ec hcb hk
            go_wp2_with fail
            go_ret2
            exact RefI.mk HR.out HB.out
          · have t6 : ¬ (C : Int) < 48 := by omega
            have t7 : (57 : Int) < (C : Int) := by omega
            have t9 : 57 < C := by omega
            clear hdig hc hls ec hcb hk
            go_wp2_with fail
            go_ret2
            exact RefI.mk HR.out HB.out
      · obtain rfl : i = n := by omega
        have HNe : Hid (valL 0 (s.data.toList.drop 1) = valL 0 ((s.data.toList.drop 1).take (i - 1))) := by
          show _ = _
          rw [List.take_of_length_le (by have := HN.out; rw [List.length_drop]; simp; omega)]
        obtain ⟨N, hNN⟩ : ∃ N, valL 0 ((s.data.toList.drop 1).take (i - 1)) = N := ⟨_, rfl⟩
        rw [hNN] at HI HV HNe
        clear hNN
        obtain ⟨p, c, rfl⟩ := HI.out.1.form
        have HDN := hide HI.out.1
        have HB := hide HI.out.2
        have HL := hide (turned0 (len_any _ N wr HI.out.1 (by have := (nd_ten HV.out).1; omega)))
        have hnd := (nd_ten HV.out).1
        clear HI
        by_cases hn1 : i = 1
        · have HR : Hid (IntD s 0 false) := intD_no fun hW => by
            have := hW.digits.1
            rw [HO.out, HN.out] at this
            omega
          subst hn1
          go_wp2_with fail
          go_ret2
          exact RefI.mk HR.out HB.out
        have v1 : ((1 : Int) == (i : Int)) = false := beq_eq_false_iff_ne.2 (by omega)
        have hlO : 1 < s.size := by rw [HN.out]; omega
        obtain ⟨CO, hCO⟩ : ∃ C, (s[1]'hlO).toNat = C := ⟨_, rfl⟩
        have hkO : ∀ h, (s[1]'h).toNat = CO := fun _ => hCO
        have eO : byN s 1 = CO := by unfold byN; rw [dif_pos hlO, hCO]
        have hbO := HG.out 1 (Nat.le_refl _) (by omega)
        rw [eO] at hbO
        have hEx : Hid (¬ (CO = 48 ∧ 1 < i) → (18446744073709551616 ≤ N → IntD s 0 false) ∧ (1 = 1 → 9223372036854775808 < N → IntD s 0 false) ∧ (1 = 1 → N ≤ 9223372036854775808 → IntD s (-(N : Int)) true) ∧ (1 = 0 → 9223372036854775808 ≤ N → IntD s 0 false) ∧ (1 = 0 → N < 9223372036854775808 → IntD s (N : Int) true)) := fun h => intD_end HO.out hlO (fun j h1 h2 => HG.out j h1 (by rw [← HN.out]; exact h2)) (by rw [eO, HN.out]; exact h) HNe.out
        have hP : Hid (CO ≠ 48 → 1 ≤ N) := fun h => by rw [← HNe.out]; exact val_pos hlO (by rw [eO]; omega)
        have hno : Hid (CO = 48 ∧ 1 < i → IntD s 0 false) := fun h => intD_no fun hW => by
          have := hW.digits.2.2
          rw [HO.out, eO, HN.out] at this
          have := this h.1
          omega
        clear hCO hlO eO hk0
        by_cases h48 : CO = 48 ∧ 1 < i
        · have HR := hide (hno.out h48)
          have u1 : ((CO : Int) == 48) = true := by rw [h48.1]; rfl
          have u2 : (1 : Int) < (i : Int) := by omega
          clear h48 hEx hP hno
          go_wp2_with fail
          go_ret2
          exact RefI.mk HR.out HB.out
        have HX := hide (hEx.out h48)
        have hcase : ((CO : Int) == 48) = false ∧ CO ≠ 48 := by
          have e : CO ≠ 48 := fun e => h48 ⟨e, by omega⟩
          exact ⟨beq_eq_false_iff_ne.2 (by omega), e⟩
        clear hEx hno h48
        have HLen : Hid (64 < bl N → 18446744073709551616 ≤ N) := fun h => by
          rcases Nat.lt_or_ge N 18446744073709551616 with h' | h'
          · have := bl_le64 h'; omega
          · exact h'
        have HLen2 : Hid (¬ 64 < bl N → N < 18446744073709551616) := fun h => bl_lt64 (by omega)
        obtain ⟨B, hB⟩ : ∃ B, bl N = B := ⟨_, rfl⟩
        rw [hB] at HL HLen HLen2
        clear hB
        by_cases hbl : 64 < B
        · have HR := hide (HX.out.1 (HLen.out hbl))
          have u3 : (64 : Int) < (B : Int) := by omega
          rcases hcase with ⟨u1, _⟩
          all_goals
            go_wp2_with ((go_at_call 10; refine HL.out.mono ?_; rintro e w1 ⟨rfl, rfl⟩))
            go_ret2
            exact RefI.mk HR.out HB.out
        have hN64 := HLen2.out hbl
        have u3 : ¬ (64 : Int) < (B : Int) := by omega
        have hP1 : Hid (1 ≤ N) := hP.out hcase.2
        have HS : Hid (0 < nd N → ∃ g, p = some ⟨g, 0, none⟩ ∧ RowIs wr g (nd N) N) := fun h => by
          rcases HDN.out with ⟨h0, _⟩ | ⟨_, g, c', hv, _, _, hr⟩
          · rw [h0] at h; simp [nd] at h
          · injection hv with hv _ _
            exact ⟨g, hv, hr⟩
        have HK := hide hnd
        obtain ⟨D, hD⟩ : ∃ D, nd N = D := ⟨_, rfl⟩
        have HDd := hide hD
        rw [hD] at HL HS hnd ⊢
        have H20 : Hid (N / 2 ^ (32 * D) = 0) := by show _ = _; rw [← hD]; exact Nat.div_eq_of_lt (nd_lt N)
        have d5 : (D : Int) ≤ 4 := by omega
        have d6 : (0 : Int) ≤ (D : Int) := by omega
        clear hD hP hnd
        rcases hcase with ⟨u1, _⟩
        all_goals
          go_wp2_with ((go_at_call 10; refine HL.out.mono ?_; rintro e w1 ⟨rfl, rfl⟩))
          generalize wr = wo at *
          go_loopw [7, 8] (fun uv iv wx => ∃ k : Nat, k ≤ D ∧ uv = .int .u64 ((N / 2 ^ (32 * k) : Nat) : Int) ∧ iv = .int .i64 ((k : Int) - 1) ∧ Hid (wx = wo)) (fun _ iv _ => (intOf iv + 1).toNat)
          case atStart => exact ⟨D, Nat.le_refl _, by rw [H20.out]; rfl, rfl, rfl⟩
          case round =>
            obtain ⟨k, hk, rfl, rfl, HW⟩ := hrel
            have hww := HW.out
            subst hww
            cases k with
            | succ m =>
              obtain ⟨g, rfl, hr⟩ := HS.out (by omega)
              have c0' := hr m (by omega)
              have hd0 := dgt_lt N m
              have hst := word_step N m
              have hle : N / 2 ^ (32 * m) ≤ N := Nat.div_le_self _ _
              have HZ := hide hst
              obtain ⟨d, hd⟩ : ∃ d, dgt N m = d := ⟨_, rfl⟩
              obtain ⟨U, hU⟩ : ∃ U, N / 2 ^ (32 * (m + 1)) = U := ⟨_, rfl⟩
              obtain ⟨V, hV⟩ : ∃ V, N / 2 ^ (32 * m) = V := ⟨_, rfl⟩
              rw [hd] at c0' hd0 hst
              rw [hU] at hst ⊢
              rw [hV] at hst hle
              have HVv := hide hV
              have y1 : IntKind.u64.wrap ((U : Int) * 4294967296) = (U : Int) * 4294967296 := by rw [IntKind.wrap_u64]; omega
              have y2 : IntKind.u64.wrap ((U : Int) * 4294967296 + (d : Int)) = (V : Int) := by rw [IntKind.wrap_u64]; omega
              have y3 : (((m + 1 : Nat) : Int) - 1) = (m : Int) := by omega
              have y4 : (0 : Int) ≤ (m : Int) := by omega
              have y5 : (m : Int) < (D : Int) := by omega
              have y6 : (U : Int) * 4294967296 + (d : Int) = (V : Int) := by omega
              have y7 : IntKind.u64.wrap (V : Int) = (V : Int) := by rw [IntKind.wrap_u64]; omega
              have y8 : (m : Int) ≤ 4 := by omega
              rw [y3]
              clear hr hd hU hV hst hle
              go_wp2_with fail
              go_roundw
              case rel => exact ⟨m, by omega, by rw [HVv.out], by simp, by first | exact rfl | exact trivial⟩
              case measure => simp [intOf]
            | zero =>
              rw [Nat.mul_zero, Nat.pow_zero, Nat.div_one]
              obtain ⟨M, hM⟩ : ∃ M, N = M + 1 := ⟨N - 1, by have := hP1.out; omega⟩
              have z1 : (N : Int) - 1 = (M : Int) := by omega
              by_cases h63 : 9223372036854775808 < N
              · have HR := hide (HX.out.2.1 (by first | exact rfl | exact trivial) h63)
                have z2 : (9223372036854775808 : Int) < (N : Int) := by omega
                clear hM z1
                go_wp2_with fail
                go_ret2
                exact RefI.mk HR.out HB.out
              · have HR : Hid (IntD s (-(M : Int) - 1) true) := by
                  have := HX.out.2.2.1 (by first | exact rfl | exact trivial) (by omega)
                  rw [show -(N : Int) = -(M : Int) - 1 by omega] at this
                  exact this
                have z2 : ¬ (9223372036854775808 : Int) < (N : Int) := by omega
                have z3 : (M : Int) ≤ 9223372036854775807 := by omega
                have z4 : (0 : Int) ≤ (M : Int) := by omega
                have z5 : IntKind.u64.wrap (M : Int) = (M : Int) := by rw [IntKind.wrap_u64]; omega
                have z6 : IntKind.i64.wrap (M : Int) = (M : Int) := by rw [IntKind.wrap_i64]; omega
                clear hM
                go_wp2_with fail
                go_ret2
                exact RefI.mk HR.out HB.out
  · have t3 : ((c0.toNat : Int) == 45) = false := by exact beq_eq_false_iff_ne.2 (by omega)
    clear h45
    go_enter Tryz.func5, Tryz.ntmps5
    go_wp2_with fail
    go_loopw [5, 6] (fun v iv wr => ∃ i : Nat, 0 ≤ i ∧ i ≤ n ∧ iv = .int .i64 (i : Int) ∧ Hid (DN wr v (valL 0 ((s.data.toList.drop 0).take (i - 0))) ∧ Below w.heap.size w wr) ∧ Hid (∀ j, 0 ≤ j → j < i → 48 ≤ byN s j ∧ byN s j ≤ 57)) (fun _ iv _ => n - (intOf iv).toNat)
    case atStart => exact ⟨0, Nat.le_refl _, ho2, rfl, H0, fun j h1 h2 => by omega⟩
    case round =>
      clear H0
      obtain ⟨i, hi1, hi2, rfl, HI, HG⟩ := hrel
      have HV : Hid (valL 0 ((s.data.toList.drop 0).take (i - 0)) < 2 ^ 100) := val_small hi1 (by rw [HN.out]; exact hi2) (by omega) HG.out
      by_cases hlt : i < n
      · have hls : i < s.size := by rw [HN.out]; exact hlt
        obtain ⟨c, hc⟩ : ∃ c, s[i]'hls = c := ⟨_, rfl⟩
        have hk : ∀ h, s[i]'h = c := fun _ => hc
        have ec : byN s i = c.toNat := by unfold byN; rw [dif_pos hls, hc]
        have HE := hide ec
        have HNx := hide (val_more (o := 0) hi1 hls)
        have t5 : (i : Int) < (n : Int) := by omega
        have hcb : c.toNat < 256 := UInt8.toNat_lt c
        obtain ⟨C, hC⟩ : ∃ C, c.toNat = C := ⟨_, rfl⟩
        have HC := hide hC
        have hk2 : ∀ h, (s[i]'h).toNat = C := fun h => by rw [hk h, hC]
        by_cases hdig : 48 ≤ C ∧ C ≤ 57
        · have t6 : ¬ (C : Int) < 48 := by omega
          have t7 : ¬ (57 : Int) < (C : Int) := by omega
          have t8 : ¬ C < 48 := by omega
          have t9 : ¬ 57 < C := by omega
          have HM := hide (more_any u5 _ C wr HI.out.1 HV.out hdig.1 hdig.2)
          have HG2 : Hid (∀ j, 0 ≤ j → j < i + 1 → 48 ≤ byN s j ∧ byN s j ≤ 57) := fun j h1 h2 => by
            by_cases e : j = i
            · rw [e, HE.out, HC.out]; exact hdig
            · exact HG.out j h1 (by omega)
          clear hdig hc hls ec hcb hk
          go_wp2_with fail
          refine HM.out.mono ?_
          rintro e w1 ⟨v1, rfl, hd1, hb1⟩
          have H1 : Hid (DN w1 v1 (valL 0 ((s.data.toList.drop 0).take (i + 1 - 0))) ∧ Below w.heap.size w w1) := by
            refine ⟨?_, HI.out.2.trans (hb1.mono HI.out.2.size)⟩
            rw [HNx.out, HE.out, HC.out]
            exact hd1
          clear hd1 hb1
          go_wp2_with fail
          go_roundw
          case rel => exact ⟨i + 1, by omega, hlt, by simp, H1, HG2⟩
          case measure => simp [intOf]; omega
        · have HR : Hid (IntD s 0 false) := intD_no fun hW => by
            obtain ⟨_, hd, _⟩ := hW.digits
            rw [HO.out] at hd
            have := hd i hi1 hls
            rw [ec, hC] at this
            exact hdig this
          have HB := hide HI.out.2
          by_cases hlo : C < 48
          · have t6 : (C : Int) < 48 := by omega
            have HLo := hide hlo
            clear hdig hc hls ec hcb hk
            go_wp2_with fail
            go_ret2
            exact RefI.mk HR.out HB.out
          · have t6 : ¬ (C : Int) < 48 := by omega
            have t7 : (57 : Int) < (C : Int) := by omega
            have t9 : 57 < C := by omega
            clear hdig hc hls ec hcb hk
            go_wp2_with fail
            go_ret2
            exact RefI.mk HR.out HB.out
      · obtain rfl : i = n := by omega
        have HNe : Hid (valL 0 (s.data.toList.drop 0) = valL 0 ((s.data.toList.drop 0).take (i - 0))) := by
          show _ = _
          rw [List.take_of_length_le (by have := HN.out; rw [List.length_drop]; simp; omega)]
        obtain ⟨N, hNN⟩ : ∃ N, valL 0 ((s.data.toList.drop 0).take (i - 0)) = N := ⟨_, rfl⟩
        rw [hNN] at HI HV HNe
        clear hNN
        obtain ⟨p, c, rfl⟩ := HI.out.1.form
        have HDN := hide HI.out.1
        have HB := hide HI.out.2
        have HL := hide (turned0 (len_any _ N wr HI.out.1 (by have := (nd_ten HV.out).1; omega)))
        have hnd := (nd_ten HV.out).1
        clear HI
        have v1 : ((0 : Int) == (i : Int)) = false := beq_eq_false_iff_ne.2 (by omega)
        have hlO : 0 < s.size := by rw [HN.out]; omega
        obtain ⟨CO, hCO⟩ : ∃ C, (s[0]'hlO).toNat = C := ⟨_, rfl⟩
        have hkO : ∀ h, (s[0]'h).toNat = CO := fun _ => hCO
        have eO : byN s 0 = CO := by unfold byN; rw [dif_pos hlO, hCO]
        have hbO := HG.out 0 (Nat.le_refl _) (by omega)
        rw [eO] at hbO
        have hEx : Hid (¬ (CO = 48 ∧ 1 < i) → (18446744073709551616 ≤ N → IntD s 0 false) ∧ (0 = 1 → 9223372036854775808 < N → IntD s 0 false) ∧ (0 = 1 → N ≤ 9223372036854775808 → IntD s (-(N : Int)) true) ∧ (0 = 0 → 9223372036854775808 ≤ N → IntD s 0 false) ∧ (0 = 0 → N < 9223372036854775808 → IntD s (N : Int) true)) := fun h => intD_end HO.out hlO (fun j h1 h2 => HG.out j h1 (by rw [← HN.out]; exact h2)) (by rw [eO, HN.out]; exact h) HNe.out
        have hP : Hid (CO ≠ 48 → 1 ≤ N) := fun h => by rw [← HNe.out]; exact val_pos hlO (by rw [eO]; omega)
        have hno : Hid (CO = 48 ∧ 1 < i → IntD s 0 false) := fun h => intD_no fun hW => by
          have := hW.digits.2.2
          rw [HO.out, eO, HN.out] at this
          have := this h.1
          omega
        clear hCO hlO eO hk0
        by_cases h48 : CO = 48 ∧ 1 < i
        · have HR := hide (hno.out h48)
          have u1 : ((CO : Int) == 48) = true := by rw [h48.1]; rfl
          have u2 : (1 : Int) < (i : Int) := by omega
          clear h48 hEx hP hno
          go_wp2_with fail
          go_ret2
          exact RefI.mk HR.out HB.out
        have HX := hide (hEx.out h48)
        have hcase : (((CO : Int) == 48) = false ∧ CO ≠ 48) ∨ (((CO : Int) == 48) = true ∧ ¬ (1 : Int) < (i : Int) ∧ CO = 48) := by
          by_cases e : CO = 48
          · exact .inr ⟨by rw [e]; rfl, by omega, e⟩
          · exact .inl ⟨beq_eq_false_iff_ne.2 (by omega), e⟩
        clear hEx hno h48
        have HLen : Hid (64 < bl N → 18446744073709551616 ≤ N) := fun h => by
          rcases Nat.lt_or_ge N 18446744073709551616 with h' | h'
          · have := bl_le64 h'; omega
          · exact h'
        have HLen2 : Hid (¬ 64 < bl N → N < 18446744073709551616) := fun h => bl_lt64 (by omega)
        obtain ⟨B, hB⟩ : ∃ B, bl N = B := ⟨_, rfl⟩
        rw [hB] at HL HLen HLen2
        clear hB
        by_cases hbl : 64 < B
        · have HR := hide (HX.out.1 (HLen.out hbl))
          have u3 : (64 : Int) < (B : Int) := by omega
          rcases hcase with ⟨u1, _⟩ | ⟨u1, u2, _⟩
          all_goals
            go_wp2_with ((go_at_call 10; refine HL.out.mono ?_; rintro e w1 ⟨rfl, rfl⟩))
            go_ret2
            exact RefI.mk HR.out HB.out
        have hN64 := HLen2.out hbl
        have u3 : ¬ (64 : Int) < (B : Int) := by omega
        have HS : Hid (0 < nd N → ∃ g, p = some ⟨g, 0, none⟩ ∧ RowIs wr g (nd N) N) := fun h => by
          rcases HDN.out with ⟨h0, _⟩ | ⟨_, g, c', hv, _, _, hr⟩
          · rw [h0] at h; simp [nd] at h
          · injection hv with hv _ _
            exact ⟨g, hv, hr⟩
        have HK := hide hnd
        obtain ⟨D, hD⟩ : ∃ D, nd N = D := ⟨_, rfl⟩
        have HDd := hide hD
        rw [hD] at HL HS hnd ⊢
        have H20 : Hid (N / 2 ^ (32 * D) = 0) := by show _ = _; rw [← hD]; exact Nat.div_eq_of_lt (nd_lt N)
        have d5 : (D : Int) ≤ 4 := by omega
        have d6 : (0 : Int) ≤ (D : Int) := by omega
        clear hD hP hnd
        rcases hcase with ⟨u1, _⟩ | ⟨u1, u2, _⟩
        all_goals
          go_wp2_with ((go_at_call 10; refine HL.out.mono ?_; rintro e w1 ⟨rfl, rfl⟩))
          generalize wr = wo at *
          go_loopw [7, 8] (fun uv iv wx => ∃ k : Nat, k ≤ D ∧ uv = .int .u64 ((N / 2 ^ (32 * k) : Nat) : Int) ∧ iv = .int .i64 ((k : Int) - 1) ∧ Hid (wx = wo)) (fun _ iv _ => (intOf iv + 1).toNat)
          case atStart => exact ⟨D, Nat.le_refl _, by rw [H20.out]; rfl, rfl, rfl⟩
          case round =>
            obtain ⟨k, hk, rfl, rfl, HW⟩ := hrel
            have hww := HW.out
            subst hww
            cases k with
            | succ m =>
              obtain ⟨g, rfl, hr⟩ := HS.out (by omega)
              have c0' := hr m (by omega)
              have hd0 := dgt_lt N m
              have hst := word_step N m
              have hle : N / 2 ^ (32 * m) ≤ N := Nat.div_le_self _ _
              have HZ := hide hst
              obtain ⟨d, hd⟩ : ∃ d, dgt N m = d := ⟨_, rfl⟩
              obtain ⟨U, hU⟩ : ∃ U, N / 2 ^ (32 * (m + 1)) = U := ⟨_, rfl⟩
              obtain ⟨V, hV⟩ : ∃ V, N / 2 ^ (32 * m) = V := ⟨_, rfl⟩
              rw [hd] at c0' hd0 hst
              rw [hU] at hst ⊢
              rw [hV] at hst hle
              have HVv := hide hV
              have y1 : IntKind.u64.wrap ((U : Int) * 4294967296) = (U : Int) * 4294967296 := by rw [IntKind.wrap_u64]; omega
              have y2 : IntKind.u64.wrap ((U : Int) * 4294967296 + (d : Int)) = (V : Int) := by rw [IntKind.wrap_u64]; omega
              have y3 : (((m + 1 : Nat) : Int) - 1) = (m : Int) := by omega
              have y4 : (0 : Int) ≤ (m : Int) := by omega
              have y5 : (m : Int) < (D : Int) := by omega
              have y6 : (U : Int) * 4294967296 + (d : Int) = (V : Int) := by omega
              have y7 : IntKind.u64.wrap (V : Int) = (V : Int) := by rw [IntKind.wrap_u64]; omega
              have y8 : (m : Int) ≤ 4 := by omega
              rw [y3]
              clear hr hd hU hV hst hle
              go_wp2_with fail
              go_roundw
              case rel => exact ⟨m, by omega, by rw [HVv.out], by simp, by first | exact rfl | exact trivial⟩
              case measure => simp [intOf]
            | zero =>
              rw [Nat.mul_zero, Nat.pow_zero, Nat.div_one]
              by_cases h63 : 9223372036854775808 ≤ N
              · have HR := hide (HX.out.2.2.2.1 (by first | exact rfl | exact trivial) h63)
                have z2 : (9223372036854775808 : Int) ≤ (N : Int) := by omega
                go_wp2_with fail
                go_ret2
                exact RefI.mk HR.out HB.out
              · have HR := hide (HX.out.2.2.2.2 (by first | exact rfl | exact trivial) (by omega))
                have z2 : ¬ (9223372036854775808 : Int) ≤ (N : Int) := by omega
                have z3 : (N : Int) ≤ 9223372036854775807 := by omega
                have z6 : IntKind.i64.wrap (N : Int) = (N : Int) := by rw [IntKind.wrap_i64]; omega
                go_wp2_with fail
                go_ret2
                exact RefI.mk HR.out HB.out
end Go.Proofs.YtgpcebjcleljkaaGreatDoor
