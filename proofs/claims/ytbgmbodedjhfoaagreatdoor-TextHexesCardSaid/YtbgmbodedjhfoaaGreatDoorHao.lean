/- Rows of floats: what came in, and rows of one's own. The contract of Horner: steps from the right, each rounded. A number less itself. The contract of ShiftUp. -/
import Derived.Test.YtbgmbodedjhfoaaGreatDoorHan
import Derived.WalkKit
import Derived.LoopTactic
import Derived.BigCall
import Derived.BigQuiet
import Derived.Maps.AppendAt
import Derived.Laws.OwnMore
import Derived.Deep.OwnRows
namespace Go.Proofs.YtbgmbodedjhfoaaGreatDoor
open Go.RowKit

theorem own_below {w w' : World} {B e size n : Nat} {v : Value} {xs : List Value} (h : w.ownsRow B e size v n xs) (hb : Below w.heap.size w w') : w'.ownsRow B e size v n xs := by
  refine ⟨h.1, ?_⟩
  rcases h.2 with hn | ⟨g, cap, cur, rfl, hg, hgg, rest⟩
  · exact .inl hn
  · exact .inr ⟨g, cap, cur, rfl, hg, by rw [hb.block g (Array.getElem?_eq_some_iff.1 hgg).1]; exact hgg, rest⟩

theorem getD_some {l : List Nat} {i : Nat} (hi : i < l.length) : l[i]? = some (l.getD i 0) := by simp [List.getD, List.getElem?_eq_getElem hi]
structure Src (w : World) (p : Option Addr) (b off : Nat) (xs : List Nat) : Prop where
  at_ : 0 < xs.length → p = some ⟨b, off, none⟩
  lt : 0 < xs.length → b < w.heap.size
  cell : ∀ j, j < xs.length → w.cell? ⟨b, off + j, none⟩ = some (.float .f64 (xs.getD j 0))
theorem Src.below {w w' : World} {p : Option Addr} {b off : Nat} {xs : List Nat} (h : Src w p b off xs) (hb : Below w.heap.size w w') : Src w' p b off xs :=
  ⟨h.at_, fun hx => Nat.lt_of_lt_of_le (h.lt hx) hb.size, fun j hj => (hb.cell (p := ⟨b, off + j, none⟩) (h.lt (by omega))).trans (h.cell j hj)⟩

structure OwnF (w : World) (B t : Nat) (f : Nat → Value) (v : Value) (xs : List Nat) : Prop where
  own : w.ownsRow B t 1 v xs.length (xs.map f)
theorem OwnF.below {w w' : World} {B t : Nat} {f : Nat → Value} {v : Value} {xs : List Nat} (h : OwnF w B t f v xs) (hb : Below w.heap.size w w') : OwnF w' B t f v xs := ⟨own_below h.own hb⟩
theorem OwnF.shape {w : World} {B t : Nat} {f : Nat → Value} {v : Value} {xs : List Nat} (h : OwnF w B t f v xs) :
    ∃ p g c, v = .slice p xs.length c ∧ (0 < xs.length → p = some ⟨g, 0, none⟩ ∧ B ≤ g ∧ g < w.heap.size) ∧ ∀ j, j < xs.length → w.cell? ⟨g, j, none⟩ = some (f (xs.getD j 0)) := by
  rcases h.own.2 with ⟨hv, hn⟩ | ⟨g, cap, cur, hv, hb, hg, _⟩
  · exact ⟨none, 0, 0, by rw [hv, hn], fun h0 => by omega, fun j hj => by omega⟩
  · refine ⟨some ⟨g, 0, none⟩, g, cap, hv, fun _ => ⟨rfl, hb, (Array.getElem?_eq_some_iff.1 hg).1⟩, fun j hj => ?_⟩
    have h2 := h.own
    rw [hv] at h2
    rw [h2.cellAt j (by omega), List.getElem?_map, getD_some hj]; rfl
end Go.Proofs.YtbgmbodedjhfoaaGreatDoor
namespace Go.Proofs.YtbgmbodedjhfoaaGreatDoor
open Go.RowKit

end Go.Proofs.YtbgmbodedjhfoaaGreatDoor
namespace Go.Proofs.YtbgmbodedjhfoaaGreatDoor
open Go.RowKit

instance (x : Nat) : Decidable (NumB x) := by unfold NumB; infer_instance
theorem sub_self {r : Nat} (h : NumB r) : floatBits .sub .f64 r r = some 0 := by
  rw [sub_num h h]
  unfold addR
  rw [if_pos (by omega)]
  cases (r / 9223372036854775808 % 2 == 1) <;> rfl
end Go.Proofs.YtbgmbodedjhfoaaGreatDoor
namespace Go.Proofs.YtbgmbodedjhfoaaGreatDoor
open Go.RowKit

theorem info_u64 : (Tryz.prog.info? 28).map (fun i => (i.zero, i.size, i.bytes)) = some (some (.int .u64 0), 1, 8) := by kernel_rfl

set_option maxHeartbeats 400000 in
theorem shiftUp_nil (p : Option Addr) (c : Nat) (n : Int) (w : World) :
    Calls Tryz.prog 83 #[.slice p 0 c, .int .i64 n] w fun e w' => e = .returned (.slice none 0 0) ∧ w' = w := by
  go_enter Tryz.func83, Tryz.ntmps83
  go_wp2
  go_ret
  exact ⟨rfl, rfl⟩

def Own (w : World) (b n M : Nat) : Prop := w.rowIs b 28 n (fun i => .int .u64 (dgt M i : Int))
theorem Own.row {w : World} {b n M : Nat} (h : Own w b n M) : RowIs w b n M := fun _ hi => h.cell hi
theorem own_made (w : World) (n : Nat) : Own (w.alloc (.cells (madeCells #[.int .u64 0] n) 28)) w.heap.size n 0 :=
  (World.rowIs_made w (.int .u64 0) n 28).congr (fun i _ => by rw [dgt_zero]; rfl)

theorem shift_step {w : World} {b L N q r k n D X : Nat} (h : Own w b L ((N % 2 ^ (32 * k)) * 2 ^ n)) (hn : n = 32 * q + r) (hr : r < 32) (hD : D = dgt N k) (hX : X = D * 2 ^ r) (_hL : k + q + 1 < L) :
    Own ((w.setCell ⟨b, k + q, none⟩ (.int .u64 ((dgt ((N % 2 ^ (32 * k)) * 2 ^ n) (k + q) : Int) + (X : Int) % 4294967296))).setCell ⟨b, k + q + 1, none⟩ (.int .u64 ((X : Int) / 4294967296))) b L ((N % 2 ^ (32 * (k + 1))) * 2 ^ n) := by
  have h2 := (h.set (k + q) (.int .u64 ((dgt ((N % 2 ^ (32 * k)) * 2 ^ n) (k + q) : Int) + (X : Int) % 4294967296))).set (k + q + 1) (.int .u64 ((X : Int) / 4294967296))
  refine h2.congr fun j _ => ?_
  have hM : N % 2 ^ (32 * k) * 2 ^ n < 2 ^ r * 2 ^ (32 * (k + q)) := by
    have h1 : N % 2 ^ (32 * k) < 2 ^ (32 * k) := Nat.mod_lt _ (Nat.two_pow_pos _)
    have e : 2 ^ r * 2 ^ (32 * (k + q)) = 2 ^ (32 * k) * 2 ^ n := by rw [← Nat.pow_add, ← Nat.pow_add]; congr 1; omega
    rw [e]; exact Nat.mul_lt_mul_of_pos_right h1 (Nat.two_pow_pos _)
  have hx63 : X < 2 ^ 63 := by
    have h1 := dgt_lt N k
    have h3 : (2 : Nat) ^ r ≤ 2 ^ 31 := Nat.pow_le_pow_right (by decide) (by omega)
    rw [hX, hD]
    calc dgt N k * 2 ^ r ≤ dgt N k * 2 ^ 31 := Nat.mul_le_mul_left _ h3
      _ < 2 ^ 63 := by omega
  have es : N % 2 ^ (32 * (k + 1)) * 2 ^ n = N % 2 ^ (32 * k) * 2 ^ n + X * 2 ^ (32 * (k + q)) := by
    rw [mod_succ, Nat.add_mul, hX, hD]
    congr 1
    rw [Nat.mul_assoc, Nat.mul_assoc, ← Nat.pow_add, ← Nat.pow_add]; congr 2; omega
  have key := add_at (j := j) hM hx63 (by rw [hX, Nat.mul_mod_left]) (by omega)
  rw [← es] at key
  rw [key]
  by_cases c1 : j = k + q + 1
  · rw [if_pos c1, if_neg (by omega), if_neg (by omega), if_pos c1]; congr 1
  · rw [if_neg c1]
    by_cases c2 : j = k + q
    · rw [if_pos c2, if_neg (by omega), if_pos c2]; congr 1
    · rw [if_neg c2]
      by_cases c3 : j < k + q
      · rw [if_pos c3]
      · rw [if_neg c3, if_neg c2, if_neg c1]
        rw [dgt_ge]
        refine Nat.lt_of_lt_of_le hM ?_
        rw [← Nat.pow_add]; exact Nat.pow_le_pow_right (by decide) (by omega)

set_option maxRecDepth 10000 in
set_option maxHeartbeats 800000 in
theorem shiftUp_row (g c N m n q r : Nat) (w : World) (hm : 1 ≤ m) (hm' : m ≤ 10000000) (hn : n ≤ 100000000) (hq : (n : Int) / 32 = q) (hr : (n : Int) % 32 = r) (hrow : Hid (RowIs w g m N)) (hg : g < w.heap.size) (hN : Hid (N < 2 ^ (32 * m))) :
    Calls Tryz.prog 83 #[.slice (some ⟨g, 0, none⟩) m c, .int .i64 n] w fun e w' => ∃ v, e = .returned v ∧ DN w' v (N * 2 ^ n) ∧ From w.heap.size v ∧ Below w.heap.size w w' := by
  have hq1 : q ≤ 3125000 := by omega
  have hr1 : r < 32 := by omega
  have HN : Hid (n = 32 * q + r) := by show _ = _; omega
  have hmk := fun w => run_make_row' (P := Tryz.prog) 58 28 (.int .u64 0) 8 Tryz.underlying58 info_u64 rfl .i64 .i64 (m + q + 1) (by omega) (by omega) w
  have ec : ((m + q + 1 : Nat) : Int) = (m : Int) + (q : Int) + 1 := by omega
  rw [ec] at hmk
  clear ec
  have HO := hide (own_made w (m + q + 1))
  go_enter Tryz.func83, Tryz.ntmps83
  go_wp2
  go_loopw [6] (fun i wr => ∃ k : Nat, k ≤ m ∧ i = .int .i64 k ∧ Hid (Own wr w.heap.size (m + q + 1) ((N % 2 ^ (32 * k)) * 2 ^ n)) ∧ Hid (Below w.heap.size w wr)) (fun i _ => m - (intOf i).toNat)
  case atStart => exact ⟨0, Nat.zero_le _, rfl, by rw [Nat.mul_zero, Nat.pow_zero, Nat.mod_one, Nat.zero_mul]; exact HO, (Below.refl _ _).alloc (Nat.le_refl _) _⟩
  case round =>
    clear HO hmk
    obtain ⟨k, hk, rfl, HOwn, HB⟩ := hrel
    by_cases hlt : k < m
    · have hc : wr.cell? ⟨g, k, none⟩ = some (.int .u64 (dgt N k : Int)) := (HB.out.cell (p := ⟨g, k, none⟩) hg).trans (hrow.out k hlt)
      have h1 := HOwn.out.cell (i := k + q) (by omega)
      have h2 := HOwn.out.cell (i := k + q + 1) (by omega)
      have f1 := HOwn.out.frozen (k + q)
      have f2 := HOwn.out.frozen (k + q + 1)
      have b1 := dgt_lt ((N % 2 ^ (32 * k)) * 2 ^ n) (k + q)
      have b2 := dgt_lt N k
      have HS := fun D X (hD : D = dgt N k) (hX : X = D * 2 ^ r) => shift_step HOwn.out HN.out hr1 hD hX (by omega)
      have HS := hide HS
      generalize hA : dgt ((N % 2 ^ (32 * k)) * 2 ^ n) (k + q) = A at h1 b1 HS
      generalize hE : dgt ((N % 2 ^ (32 * k)) * 2 ^ n) (k + q + 1) = E at h2
      generalize hD : dgt N k = D at hc b2
      have HD := hide hD
      clear hA hE hD
      have hX : IntKind.u64.wrap ((D : Int) * 2 ^ r) = ((D * 2 ^ r : Nat) : Int) := by
        have e1 : ((D : Int) * 2 ^ r) = ((D * 2 ^ r : Nat) : Int) := by rw [Int.natCast_mul, Int.natCast_pow]; rfl
        have h3 : (2 : Nat) ^ r ≤ 2 ^ 31 := Nat.pow_le_pow_right (by decide) (by omega)
        have h4 : D * 2 ^ r ≤ D * 2 ^ 31 := Nat.mul_le_mul_left _ h3
        rw [e1, IntKind.wrap_u64]; omega
      have hXb : D * 2 ^ r < 9223372036854775808 := by
        have h3 : (2 : Nat) ^ r ≤ 2 ^ 31 := Nat.pow_le_pow_right (by decide) (by omega)
        have h4 : D * 2 ^ r ≤ D * 2 ^ 31 := Nat.mul_le_mul_left _ h3
        omega
      generalize hXX : D * 2 ^ r = X at hX hXb
      have HXX := hide hXX
      clear hXX
      go_wp2
      go_roundw
      case rel => exact ⟨k + 1, by omega, by go_num, HS.out D X HD.out.symm HXX.out.symm, (HB.out.setCell (Nat.le_refl _) _).setCell (Nat.le_refl _) _⟩
      case measure => simp [intOf]; omega
    · obtain rfl : k = m := by omega
      have e : N % 2 ^ (32 * k) = N := Nat.mod_eq_of_lt hN.out
      rw [e] at HOwn
      have hM : Hid (N * 2 ^ n < 2 ^ (32 * (k + q + 1))) := by
        show _ < _
        have h1 : N * 2 ^ n < 2 ^ (32 * k) * 2 ^ n := Nat.mul_lt_mul_of_pos_right hN.out (Nat.two_pow_pos _)
        rw [← Nat.pow_add] at h1
        refine Nat.lt_of_lt_of_le h1 (Nat.pow_le_pow_right (by decide) ?_)
        have := HN.out; omega
      have hlt2 := HOwn.out.lt
      have HD := hide (dn_mk HOwn.out.row hM.out (Nat.le_refl _) hlt2)
      clear e
      go_wp2_with fail
      refine (trim_row _ _ _ _ _ HOwn.out.row hM.out (Nat.le_refl _) (by omega)).mono ?_
      rintro e w' ⟨rfl, rfl⟩
      go_wp2_with fail
      go_ret
      exact ⟨_, rfl, HD.out, from_at _ _ _ _ (Nat.le_refl _), HB.out⟩

theorem shiftUp_new (v : Value) (N n : Nat) (w : World) (h : DN w v N) (hb : nd N ≤ 10000000) (hn : n ≤ 100000000) :
    Calls Tryz.prog 83 #[v, .int .i64 n] w fun e w' => ∃ v, e = .returned v ∧ DN w' v (N * 2 ^ n) ∧ From w.heap.size v ∧ Below w.heap.size w w' := by
  rcases h with ⟨h0, p, c, rfl⟩ | ⟨h0, g, c, rfl, hc, hg, hr⟩
  · refine (shiftUp_nil p c n w).mono ?_
    rintro e w' ⟨rfl, rfl⟩
    exact ⟨_, rfl, Or.inl ⟨by rw [h0, Nat.zero_mul], none, 0, rfl⟩, from_nil _, Below.refl _ _⟩
  · exact shiftUp_row g c N (nd N) n (n / 32) (n % 32) w (nd_pos h0) hb hn (by omega) (by omega) hr hg (nd_lt N)
theorem shiftUp_any (v : Value) (N n : Nat) (w : World) (h : DN w v N) (hb : nd N ≤ 10000000) (hn : n ≤ 100000000) :
    Calls Tryz.prog 83 #[v, .int .i64 n] w fun e w' => ∃ v, e = .returned v ∧ DN w' v (N * 2 ^ n) ∧ Below w.heap.size w w' :=
  (shiftUp_new v N n w h hb hn).mono fun _ _ ⟨v, a, b, _, d⟩ => ⟨v, a, b, d⟩

end Go.Proofs.YtbgmbodedjhfoaaGreatDoor
