/- The contract of tenorlaw1.Are: two rows of the same floats. -/
import Derived.Test.YtkmhfjklldhfjaaSRow
namespace Go.Proofs.Ytkmhfjklldhfjaa
open Go.RowKit

theorem isT (a b : Nat) (w : World) (h : Hid (U64 a)) (h' : Hid (U64 b)) (hs : Hid (sameB a b = true)) :
    Calls Try.prog 11 #[.float .f64 a, .int .u64 (b : Int)] w fun e w' => e = .returned (.bool true) ∧ w' = w := by
  have := is_any a b w h.out h'.out
  rw [hs.out] at this; exact this

set_option maxHeartbeats 800000 in
theorem are_any (B1 B2 : Nat) (v1 v2 : Value) (xs ys : List Nat) (w : World) (h1 : OwnF w B1 23 fV v1 xs) (h2 : OwnF w B2 31 uV v2 ys) (hA : Alike xs ys) (f1 : Fit xs) (f2 : Fit ys) (hn : xs.length ≤ 200) :
    Calls Try.prog 7 #[v1, v2] w fun e w' => e = .returned (.bool true) ∧ ∃ q, w' = w.drewN q := by
  obtain ⟨p1, g1, c1, rfl, a1, r1⟩ := h1.shape
  obtain ⟨p2, g2, c2, rfl, a2, r2⟩ := h2.shape
  have HA := hideS hA
  have hl : ys.length = xs.length := hA.1.symm
  have HF1 := hideS f1
  have HF2 := hideS f2
  have H1 := hideS a1
  have H2 := hideS a2
  have HR1 := hideS r1
  have HR2 := hideS r2
  clear h1 h2 hA f1 f2 a1 a2 r1 r2
  rw [hl]
  have HL := hideS hl
  clear hl
  obtain ⟨n, hN⟩ : ∃ n, n = xs.length := ⟨_, rfl⟩
  have HN := hideS hN
  rw [← hN] at hn ⊢
  clear hN
  go_enter Try.func7, Try.ntmps7
  go_wp2
  go_loopw [5] (fun i wr => ∃ k : Nat, k ≤ n ∧ i = .int .i64 k ∧ Hid (∃ q, wr = w.drewN q)) (fun i _ => n - (intOf i).toNat)
  case atStart => exact ⟨0, Nat.zero_le _, rfl, ⟨0, rfl⟩⟩
  case round =>
    obtain ⟨k, hk, rfl, HQ⟩ := hrel
    by_cases hlt : k < n
    · have hx : k < xs.length := by rw [← HN.out]; exact hlt
      have hy : k < ys.length := by rw [HL.out]; exact hx
      obtain rfl := (H1.out (by omega)).1
      obtain rfl := (H2.out (by omega)).1
      have hc1 : wr.cell? ⟨g1, k, none⟩ = some (.float .f64 (xs.getD k 0)) := by obtain ⟨q, e⟩ := HQ.out; rw [e]; exact HR1.out k hx
      have hc2 : wr.cell? ⟨g2, k, none⟩ = some (.int .u64 ((ys.getD k 0 : Nat) : Int)) := by obtain ⟨q, e⟩ := HQ.out; rw [e]; exact HR2.out k hy
      have U1 := hideS (HF1.out.get hx)
      have U2 := hideS (HF2.out.get hy)
      have SA := hideS (HA.out.2 k hx)
      clear hx hy
      generalize xs.getD k 0 = x at hc1 U1 SA
      generalize ys.getD k 0 = y at hc2 U2 SA
      go_wp2
      go_quiet ((go_at_call 11; exact Calls.quiet_of_same (isT x y _ U1 U2 SA)))
      go_wp2
      go_roundw
      case rel => exact ⟨k + 1, by omega, by simp, by obtain ⟨q, e⟩ := HQ.out; exact ⟨q + nq, by rw [e, World.drewN_drewN]⟩⟩
      case measure => simp [intOf]; omega
    · obtain rfl : k = n := by omega
      go_wp2
      go_ret
      exact ⟨rfl, HQ.out⟩

end Go.Proofs.Ytkmhfjklldhfjaa
