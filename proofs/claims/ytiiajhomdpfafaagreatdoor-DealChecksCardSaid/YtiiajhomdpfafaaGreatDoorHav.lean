/- text.Print at 0.375 with two places. strconv.FormatUint to the base 16, at any number. strconv.FormatUint to the base 16, at any number: the loop. -/
import Derived.Test.YtiiajhomdpfafaaGreatDoorHap
import Derived.Test.YtiiajhomdpfafaaGreatDoorHaq
import Derived.Lib.ConvBytes
import Derived.Laws.MakeOwn
import Derived.LoopTactic
import Derived.Laws.Bits64b
namespace Go.Proofs.YtiiajhomdpfafaaGreatDoor
open Go.RowKit

end Go.Proofs.YtiiajhomdpfafaaGreatDoor
namespace Go.Proofs.YtiiajhomdpfafaaGreatDoor
open Go.RowKit

theorem and15 {z : Nat} (h : z < 18446744073709551616) : bits .and .u64 (z : Int) 15 = ((z % 16 : Nat) : Int) := by
  have e := bits_and_u64_nat z 15 h (by decide)
  have e2 : z &&& 15 = z % 16 := Nat.and_two_pow_sub_one_eq_mod z 4
  rw [e2] at e
  exact e
set_option maxRecDepth 20000 in
set_option maxHeartbeats 6400000 in
theorem tz_16 (w : World) (h : w.cell? ⟨12, 15, none⟩ = some (.int .u8 4)) : Calls Tryz.prog 221 #[.int .u64 16] w fun e w' => e = .returned (.int .i64 4) ∧ w' = w := by
  have b0 : IntKind.u64.wrap (-16) = 18446744073709551600 := by kernel_rfl
  have b1 : bits BinOp.and IntKind.u64 16 18446744073709551600 = 16 := by kernel_rfl
  have b2 : IntKind.u64.wrap 4573923408821661840 = 4573923408821661840 := by kernel_rfl
  go_enter Tryz.func221, Tryz.ntmps221
  go_wp2_with go_in
  go_ret
  exact ⟨by rfl, rfl⟩
def hxD (n : Nat) : Nat := if n < 10 then 48 + n else 87 + n
def hxL : Nat → Nat → List Nat
  | 0, u => [hxD u]
  | k + 1, u => hxL k (u / 16) ++ [hxD (u % 16)]
theorem hxL_len : ∀ k u, (hxL k u).length = k + 1
  | 0, _ => rfl
  | k + 1, u => by rw [hxL, List.length_append, hxL_len k]; rfl
theorem hxL_get : ∀ k u j, j < k → (hxL k u)[k - j]? = some (hxD (u / 16 ^ j % 16))
  | 0, _, j, h => by omega
  | k + 1, u, 0, _ => by
    rw [hxL, List.getElem?_append_right (by rw [hxL_len]; omega), hxL_len]
    simp
  | k + 1, u, j + 1, h => by
    rw [hxL, List.getElem?_append_left (by rw [hxL_len]; omega), show k + 1 - (j + 1) = k - j by omega, hxL_get k (u / 16) j (by omega), Nat.pow_succ', Nat.div_div_eq_div_mul]
theorem hxL_head : ∀ k u, (hxL k u)[0]? = some (hxD (u / 16 ^ k))
  | 0, u => by simp [hxL]
  | k + 1, u => by rw [hxL, List.getElem?_append_left (by rw [hxL_len]; omega), hxL_head k, Nat.pow_succ', Nat.div_div_eq_div_mul]
structure HxB (w : World) (g u k : Nat) (wr : World) : Prop where
  bel : Below w.heap.size w wr
  box : ∃ A : Array Value, wr.heap[g]? = some (.cells A 265) ∧ A.size = 65 ∧ ∀ j, j < k → A[64 - j]? = some (.int .u8 (hxD (u / 16 ^ j % 16) : Nat))
theorem idx_hex (n : Nat) (hn : n < 16) : ∀ h, ((⟨#[48, 49, 50, 51, 52, 53, 54, 55, 56, 57, 97, 98, 99, 100, 101, 102, 103, 104, 105, 106, 107, 108, 109, 110, 111, 112, 113, 114, 115, 116, 117, 118, 119, 120, 121, 122]⟩ : ByteArray)[n]'h).toNat = hxD n := by
  intro h
  rcases (show n = 0 ∨ n = 1 ∨ n = 2 ∨ n = 3 ∨ n = 4 ∨ n = 5 ∨ n = 6 ∨ n = 7 ∨ n = 8 ∨ n = 9 ∨ n = 10 ∨ n = 11 ∨ n = 12 ∨ n = 13 ∨ n = 14 ∨ n = 15 by omega) with rfl | rfl | rfl | rfl | rfl | rfl | rfl | rfl | rfl | rfl | rfl | rfl | rfl | rfl | rfl | rfl <;> rfl
end Go.Proofs.YtiiajhomdpfafaaGreatDoor
namespace Go.Proofs.YtiiajhomdpfafaaGreatDoor
open Go.RowKit

theorem HxB.step {w wr : World} {g u k I : Nat} {x : Value} (h : HxB w g u k wr) (hg : w.heap.size ≤ g) (hI : 65 - k = I + 1) (hx : x = .int .u8 (hxD (u / 16 ^ k % 16) : Nat)) : HxB w g u (k + 1) (wr.setCell ⟨g, I, none⟩ x) := by
  obtain ⟨A, hA, h65, hj⟩ := h.box
  refine ⟨h.bel.setCell (p := ⟨g, I, none⟩) hg _, _, heap_setCell_same wr g I _ _ _ hA, by simp [h65], fun j hjk => ?_⟩
  rw [Array.getElem?_setIfInBounds]
  by_cases e : j = k
  · rw [if_pos (by omega), if_pos (by omega), hx, e]
  · rw [if_neg (by omega)]
    exact hj j (by omega)
theorem push_all : ∀ (ns : List Int) (acc : ByteArray), ns.foldl (fun r n => r.push (UInt8.ofNat n.toNat)) acc = ⟨acc.data ++ (ns.map fun n => UInt8.ofNat n.toNat).toArray⟩
  | [], acc => by simp
  | n :: ns, acc => by
    rw [List.foldl_cons, push_all ns]
    simp [ByteArray.push]
theorem conv_hx {w w5 : World} {g u K I : Nat} (h : HxB w g u (K + 1) w5) (hI : 65 - K = I + 1) (hK : K ≤ 15) (hK0 : u / 16 ^ K < 16) : (convert 109 9 (.slice (some ⟨g, I, none⟩) (65 - I) (65 - I))).run Tryz.prog w5 = .ok (.string ⟨((hxL K u).map UInt8.ofNat).toArray⟩) w5 := by
  obtain ⟨A, hA, h65, hj⟩ := h.box
  have hn : 65 - I = ((hxL K u).map fun n : Nat => (n : Int)).length := by rw [List.length_map, hxL_len]; omega
  rw [run_convert_bytes_string _ 109 9 5 _ _ _ Tryz.underlying109 Tryz.underlying5 Tryz.underlying9]
  rw [run_bytesToString _ ⟨g, I, none⟩ _ _ ((hxL K u).map fun n : Nat => (n : Int)) ?_]
  · rw [push_all, List.map_map]
    show Result.ok (Value.string ⟨#[] ++ (List.map ((fun n : Int => UInt8.ofNat n.toNat) ∘ fun n : Nat => (n : Int)) (hxL K u)).toArray⟩) w5 = _
    rw [Array.empty_append]
    rfl
  · have hcs : ∀ j v, (((hxL K u).map fun n : Nat => (n : Int)).map (Value.int .u8))[j]? = some v → w5.cell? (Addr.add ⟨g, I, none⟩ j) = some v := fun j v hv => by
      rw [List.getElem?_map, List.getElem?_map] at hv
      have hjl : j < K + 1 := by
        rcases Nat.lt_or_ge j (K + 1) with h | h
        · exact h
        · rw [List.getElem?_eq_none (by rw [hxL_len]; omega)] at hv; cases hv
      rw [Addr.add_lit]
      refine (by_cell hA (I + j) ?_).1
      have e := hj (K - j) (by omega)
      rw [show 64 - (K - j) = I + j by omega] at e
      rw [e, ← hv]
      by_cases h0 : j = 0
      · subst h0
        rw [hxL_head, Nat.sub_zero, Nat.mod_eq_of_lt hK0]
        rfl
      · have := hxL_get K u (K - j) (by omega)
        rw [show K - (K - j) = j by omega] at this
        rw [this]
        rfl
    have := run_loadCells_list (P := Tryz.prog) w5 ⟨g, I, none⟩ _ hcs
    rw [List.length_map, ← hn] at this
    exact this
set_option maxRecDepth 20000 in
set_option maxHeartbeats 12800000 in
theorem fbits16 (u K : Nat) (hu : u < 18446744073709551616) (hK : K ≤ 15) (hK0 : u / 16 ^ K < 16) (hK1 : ∀ k, k < K → 16 ≤ u / 16 ^ k) (w : World) (h : w.cell? ⟨12, 15, none⟩ = some (.int .u8 4)) : Calls Tryz.prog 200 #[.slice none 0 0, .int .u64 (u : Int), .int .i64 16, .bool false, .bool false] w fun e w' => e = .returned (.tuple #[.slice none 0 0, .string ⟨((hxL K u).map UInt8.ofNat).toArray⟩]) ∧ Below w.heap.size w w' := by
  have HT : Hid (∀ wx, Below w.heap.size w wx → wx.cell? ⟨12, 15, none⟩ = some (.int .u8 4)) := fun wx hb => (World.cell?_of_block (w := w) (a := ⟨_, 15, none⟩) (hb.block _ (World.block_lt_of_cell? _ _ h))).trans h
  have H0 : Hid (HxB w w.heap.size u 0 (w.alloc (.cells Tryz.zeroCells265 265))) := ⟨(Below.refl _ _).alloc (Nat.le_refl _) _, _, heap_alloc_new _ _, by kernel_rfl, fun j hj => by omega⟩
  have HZ : Hid (Calls Tryz.prog 221 #[.int .u64 16] (w.alloc (.cells Tryz.zeroCells265 265)) fun e w' => e = .returned (.int .i64 4) ∧ w' = w.alloc (.cells Tryz.zeroCells265 265)) := tz_16 _ (HT.out _ H0.out.bel)
  have HK := hidT (And.intro hK0 hK1)
  have HU := hidT hu
  have b0 : bits BinOp.and IntKind.i64 16 15 = 0 := by kernel_rfl
  have i0 : (0 : Int) ≤ (u : Int) := by omega
  have i1 : (u : Int) ≤ 18446744073709551615 := by omega
  clear h hu hK0 hK1
  go_enter Tryz.func200, Tryz.ntmps200
  go_wp2_with (first | (go_at_call 221; refine HZ.out.mono ?_; rintro e w1 ⟨rfl, rfl⟩) | go_in)
  go_loopw [1, 13] (fun uv iv wr => ∃ k : Nat, k ≤ K ∧ uv = .int .u64 ((u / 16 ^ k : Nat) : Int) ∧ iv = .int .i64 ((65 - k : Nat) : Int) ∧ Hid (HxB w w.heap.size u k wr)) (fun _ iv _ => (intOf iv).toNat)
  case atStart => exact ⟨0, Nat.zero_le _, by simp, by simp, H0⟩
  case round =>
    clear H0 HZ
    obtain ⟨k, hk, rfl, rfl, HB⟩ := hrel
    obtain ⟨U, hU⟩ : ∃ U, u / 16 ^ k = U := ⟨_, rfl⟩
    have hU0 : U < 18446744073709551616 := by rw [← hU]; exact Nat.lt_of_le_of_lt (Nat.div_le_self _ _) HU.out
    obtain ⟨A, hA, hA65, hAj⟩ := HB.out.box
    have HA := hidT (And.intro hA (And.intro hA65 hAj))
    rw [hU]
    obtain ⟨D, hD⟩ : ∃ D, U % 16 = D := ⟨_, rfl⟩
    have hD0 : D < 16 := by omega
    have e1 : bits .and .u64 (U : Int) 15 = (D : Int) := by rw [and15 hU0, hD]
    obtain ⟨I, hI⟩ : ∃ I, 65 - k = I + 1 := ⟨64 - k, by omega⟩
    obtain ⟨x, hx⟩ : ∃ x, A[I]? = some x := ⟨_, Array.getElem?_eq_getElem (by omega)⟩
    have x0 := (by_cell hA I hx).1
    have x1 := (by_cell hA I hx).2
    rw [hI]
    have HI := hidT hI
    have i2 : (((I + 1 : Nat) : Int) - 1) = (I : Int) := by omega
    have i3 : (I : Int) < 65 := by omega
    have i4 : (0 : Int) ≤ (I : Int) := by omega
    have d0 : (0 : Int) ≤ (D : Int) := by omega
    have d1 : (D : Int) < 36 := by omega
    have i5 : (I : Int) ≤ 65 := by omega
    have i6 : ¬ (65 : Int) < (I : Int) := by omega
    have i7 : I ≤ 65 := by omega
    clear hA hA65 hAj hx hI
    by_cases hlt : k < K
    · have t1 : (16 : Int) ≤ (U : Int) := by have := HK.out.2 k hlt; omega
      go_wp2_with fail
      refine ⟨⟨k + 1, hlt, by rw [Nat.pow_succ, ← Nat.div_div_eq_div_mul, hU]; rfl, by rw [show 65 - (k + 1) = I by have := HI.out; omega], HB.out.step (Nat.le_refl _) HI.out (by rw [hU, hD]; exact congrArg (fun n : Nat => Value.int .u8 (n : Int)) (idx_hex D hD0 _))⟩, ?_⟩
      simp [intOf]
    · obtain rfl : k = K := by omega
      have t1 : ¬ (16 : Int) ≤ (U : Int) := by have := HK.out.1; omega
      have t2 : (U : Int) < 36 := by omega
      have hU16 : U < 16 := by have := HK.out.1; omega
      have HB5 : Hid (HxB w w.heap.size u (k + 1) (wr.setCell ⟨w.heap.size, I, none⟩ (.int .u8 (hxD U : Nat)))) := HB.out.step (Nat.le_refl _) HI.out (by rw [hU, Nat.mod_eq_of_lt hU16])
      have hix : ∀ h, (({ data := #[48, 49, 50, 51, 52, 53, 54, 55, 56, 57, 97, 98, 99, 100, 101, 102, 103, 104, 105, 106, 107, 108, 109, 110, 111, 112, 113, 114, 115, 116, 117, 118, 119, 120, 121, 122] } : ByteArray)[U]'h).toNat = hxD U := idx_hex U hU16
      have hcv := conv_hx HB5.out HI.out hK HK.out.1
      generalize hxD U = dU at *
      go_wp2_with fail
      go_ret2
      exact ⟨rfl, HB5.out.bel⟩
end Go.Proofs.YtiiajhomdpfafaaGreatDoor
