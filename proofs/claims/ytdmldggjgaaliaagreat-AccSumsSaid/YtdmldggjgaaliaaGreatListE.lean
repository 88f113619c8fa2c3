/- The contract of the document's Pair. -/
import Derived.Test.YtdmldggjgaaliaaGreatListD
namespace Go.Proofs.YtdmldggjgaaliaaGreat
open Go.RowKit

theorem srcU_part {w : World} {g off : Nat} {xs : List Nat} {p : Option Addr} (h : SrcU w p g off xs) (k : Nat) : SrcU w p g off (xs.take k) :=
  ⟨fun h0 => h.at_ (by simp at h0; omega), fun h0 => h.lt (by simp at h0; omega), fun j hj => by
    simp at hj
    rw [h.cell j (by omega)]
    simp [List.getD, List.getElem?_take_of_lt (show j < k by omega)]⟩
theorem srcU_rest {w : World} {g off : Nat} {xs : List Nat} {p : Option Addr} (h : SrcU w p g off xs) (k : Nat) : SrcU w (some ⟨g, off + k, none⟩) g (off + k) (xs.drop k) :=
  ⟨fun _ => rfl, fun h0 => h.lt (by simp at h0; omega), fun j hj => by
    simp at hj
    have := h.cell (k + j) (by omega)
    rw [← Nat.add_assoc] at this
    rw [this]
    simp [List.getD]⟩
theorem fit_take {xs : List Nat} (h : FitL xs) (k : Nat) : FitL (xs.take k) := fun x hx => h x (List.mem_of_mem_take hx)
theorem fit_drop {xs : List Nat} (h : FitL xs) (k : Nat) : FitL (xs.drop k) := fun x hx => h x (List.mem_of_mem_drop hx)
theorem cutU_low (g off n c h : Nat) (w : World) (hh : h ≤ c) : (Instr.slice 24 (.slice (some ⟨g, off, none⟩) n c) none (some (.int .i64 (h : Int))) none).run Tryz.prog w = .ok (.slice (some ⟨g, off, none⟩) h c) w := by
  simp [Instr.slice, Instr.sliceBounds, Instr.sliceBound, asIntOf, run_underlying Tryz.underlying24, Tryz.sizeOf29, hh, Addr.add_lit]
theorem cutU_high (g off n c h : Nat) (w : World) (hh : h < n) (hc : n ≤ c) : (Instr.slice 24 (.slice (some ⟨g, off, none⟩) n c) (some (.int .i64 (h : Int))) none none).run Tryz.prog w = .ok (.slice (some ⟨g, off + h, none⟩) (n - h) (c - h)) w := by
  have h1 : h ≤ n := by omega
  have h2 : ¬ c = h := by omega
  simp [Instr.slice, Instr.sliceBounds, Instr.sliceBound, asIntOf, run_underlying Tryz.underlying24, Tryz.sizeOf29, h1, h2, Addr.add_lit]
theorem pair_lt {xs : List Nat} (hf : FitL xs) : cn (pairO xs) < 18446744073709551616 := by
  by_cases h : xs.length ≤ 1
  · rw [pairO_small h]; exact hf.get 0
  · rw [pairO_big h]; exact opO_lt (by simp) _ _

set_option maxHeartbeats 1600000 in
theorem refPair_at (n : Nat) : ∀ (p : Option Addr) (g off c : Nat) (xs : List Nat) (w : World), xs.length = n → SrcU w p g off xs → FitL xs → n ≤ c → c ≤ 9223372036854775807 →
    Calls Tryz.prog 14 #[.slice p n c] w fun e w' => e = .returned (.int .u64 (cn (pairO xs) : Int)) ∧ Below w.heap.size w w' := by
  induction n using Nat.strongRecOn with
  | _ n ih =>
    intro p g off c xs w hN hs hf hc hc63
    by_cases h0 : n = 0
    · subst h0
      have HR : Hid ((0 : Int) = (cn (pairO xs) : Int)) := by
        show _ = _
        rw [pairO_small (by omega), List.length_eq_zero_iff.1 hN]; rfl
      rw [← HR.out]
      clear ih hs hf HR
      go_enter Tryz.func14, Tryz.ntmps14
      go_wp2
      go_ret
      exact ⟨rfl, Below.refl _ _⟩
    by_cases h1 : n = 1
    · subst h1
      have hcx := hs.cell 0 (by omega)
      obtain rfl := hs.at_ (by omega)
      have HR : Hid (((xs.getD 0 0 : Nat) : Int) = (cn (pairO xs) : Int)) := by
        show _ = _
        rw [pairO_small (by omega)]; rfl
      rw [Nat.add_zero] at hcx
      rw [← HR.out]
      generalize ((xs.getD 0 0 : Nat) : Int) = x at hcx HR
      clear ih hs hf HR
      go_enter Tryz.func14, Tryz.ntmps14
      go_wp2
      go_ret
      exact ⟨rfl, Below.refl _ _⟩
    obtain ⟨h, hh⟩ : ∃ h, n / 2 = h := ⟨_, rfl⟩
    have hq : (n : Int) / 2 = (h : Int) := by omega
    have hh1 : 1 ≤ h := by omega
    have hh2 : h < n := by omega
    obtain rfl := hs.at_ (by omega)
    obtain ⟨u1, hu1⟩ : ∃ u1 : Int, u1 = (cn (pairO (xs.take h)) : Int) := ⟨_, rfl⟩
    obtain ⟨u2, hu2⟩ : ∃ u2 : Int, u2 = (cn (pairO (xs.drop h)) : Int) := ⟨_, rfl⟩
    obtain ⟨u3, hu3⟩ : ∃ u3 : Int, u3 = (cn (pairO xs) : Int) := ⟨_, rfl⟩
    have HD : Hid (∀ w, Calls Tryz.prog 28 #[.int .u64 u1, .int .u64 u2] w fun e w' => e = .returned (.int .u64 u3) ∧ Below w.heap.size w w') := fun w =>
      add_cn hu1 hu2 (by rw [hu1]; exact u64_of_nat (pair_lt (fit_take hf h))) (by rw [hu2]; exact u64_of_nat (pair_lt (fit_drop hf h))) (by rw [hu3, pairO_big (by omega), hN, hh]) w
    have HL : Hid (∀ W : World, Below w.heap.size w W → Calls Tryz.prog 14 #[.slice (some ⟨g, off, none⟩) h c] W fun e w' => e = .returned (.int .u64 u1) ∧ Below W.heap.size W w') := fun W hW => by
      rw [hu1]
      exact ih h hh2 (some ⟨g, off, none⟩) g off c (xs.take h) W (by simp; omega) ((srcU_part hs h).below hW) (fit_take hf h) (by omega) hc63
    have HR : Hid (∀ W : World, Below w.heap.size w W → Calls Tryz.prog 14 #[.slice (some ⟨g, off + h, none⟩) (n - h) (c - h)] W fun e w' => e = .returned (.int .u64 u2) ∧ Below W.heap.size W w') := fun W hW => by
      rw [hu2]
      exact ih (n - h) (by omega) (some ⟨g, off + h, none⟩) g (off + h) (c - h) (xs.drop h) W (by simp; omega) ((srcU_rest hs h).below hW) (fit_drop hf h) (by omega) (by omega)
    have c1 := fun w => cutU_low g off n c h w (by omega)
    have c2 := fun w => cutU_high g off n c h w hh2 hc
    have hwr : IntKind.i64.wrap (h : Int) = (h : Int) := by rw [IntKind.wrap_i64]; omega
    rw [← hu3]
    have HB0 : Hid (Below w.heap.size w w.drew) := (Below.refl _ _).drew
    clear hs hN ih hf hu1 hu2 hu3
    go_enter Tryz.func14, Tryz.ntmps14
    go_wp2_with fail
    go_region_with (first | ((go_at_call_of 14 (Value.slice (some ⟨g, off, none⟩) h c); refine (HL.out _ HB0.out).mono ?_; rintro e w1 ⟨rfl, hb1⟩; have HB1 := hideS (HB0.out.trans (hb1.mono HB0.out.size)); clear hb1)) | ((go_at_call 14; refine (HR.out _ HB1.out).mono ?_; rintro e w2 ⟨rfl, hb2⟩; have HB2 := hideS (HB1.out.trans (hb2.mono HB1.out.size)); clear hb2)) | ((go_at_call 28; refine (HD.out _).mono ?_; rintro e w3 ⟨rfl, hb3⟩; have HB3 := hideS (HB2.out.trans (hb3.mono HB2.out.size)); clear hb3)))
    all_goals
      go_wp2_with fail
      go_ret
      exact ⟨rfl, HB3.out⟩

theorem refPair_any (B0 n : Nat) (v : Value) (xs : List Nat) (w : World) (hO : OwnF w B0 29 uV v xs) (hf : FitL xs) (hN : xs.length = n) (hcap : ∀ p l c, v = .slice p l c → n ≤ c ∧ c ≤ 9223372036854775807) :
    Calls Tryz.prog 14 #[v] w fun e w' => e = .returned (.int .u64 (cn (pairO xs) : Int)) ∧ Below w.heap.size w w' := by
  obtain ⟨p, g, c, rfl, ha, hr⟩ := hO.shape
  obtain ⟨q1, q2⟩ := hcap _ _ _ rfl
  rw [hN]
  exact refPair_at n p g 0 c xs w hN ⟨fun h => (ha h).1, fun h => (ha h).2.2, fun j hj => by rw [Nat.zero_add]; exact hr j hj⟩ hf q1 q2
end Go.Proofs.YtdmldggjgaaliaaGreat
