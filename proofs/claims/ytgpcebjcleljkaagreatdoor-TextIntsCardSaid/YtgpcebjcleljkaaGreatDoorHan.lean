/- The closed look of every statement of this layer: the document's fixed answers. The contracts of shiftNear, near and Join: the nearest number. The contract of Split. Contracts of the document's digits: trim, Digits, Len, digit. -/
import Derived.Test.YtgpcebjcleljkaaGreatDoorHak
import Derived.Test.YtgpcebjcleljkaaGreatDoorShelf
import Derived.BigQuiet
import Derived.Test.YtgpcebjcleljkaaGreatDoorHad
import Derived.LoopTactic
namespace Go.Proofs.YtgpcebjcleljkaaGreatDoor
open Go.RowKit

end Go.Proofs.YtgpcebjcleljkaaGreatDoor
namespace Go.Proofs.YtgpcebjcleljkaaGreatDoor
open Go.RowKit

end Go.Proofs.YtgpcebjcleljkaaGreatDoor
namespace Go.Proofs.YtgpcebjcleljkaaGreatDoor
open Go.RowKit

theorem and_mask52 {z : Int} (h0 : 0 ≤ z) (h : z < 18446744073709551616) : bits .and .u64 z 4503599627370495 = z % 4503599627370496 := by
  obtain ⟨b, rfl⟩ := Int.eq_ofNat_of_zero_le h0
  have := bits_and_u64_nat b 4503599627370495 (by omega) (by decide)
  rw [show ((4503599627370495 : Nat) : Int) = 4503599627370495 from rfl] at this
  rw [this]
  have e := Nat.and_two_pow_sub_one_eq_mod b 52
  rw [show (2 : Nat) ^ 52 - 1 = 4503599627370495 from rfl, show (2 : Nat) ^ 52 = 4503599627370496 from rfl] at e
  rw [e]; omega
theorem or_hidden {z : Int} (h0 : 0 ≤ z) (h : z < 4503599627370496) : bits .or .u64 z 4503599627370496 = 4503599627370496 + z := by
  obtain ⟨b, rfl⟩ := Int.eq_ofNat_of_zero_le h0
  have := bits_or_u64_nat b 4503599627370496 (by omega) (by decide)
  rw [show ((4503599627370496 : Nat) : Int) = 4503599627370496 from rfl] at this
  rw [this]
  have h2 := Nat.two_pow_add_eq_or_of_lt (i := 52) (b := b) (by omega) 1
  rw [Nat.or_comm, show (4503599627370496 : Nat) = 2 ^ 52 * 1 from rfl, ← h2]
  omega

def magI (z : Int) : Int := if z < 4503599627370496 then z else 4503599627370496 + z % 4503599627370496
def plcI (z : Int) : Int := if z < 4503599627370496 then -1074 else z / 4503599627370496 - 1075
def splOk (u : Int) : Bool := decide (szI u < 9218868437227405312)
def splM (u : Int) : Int := if splOk u then (if sgB u then -magI (szI u) else magI (szI u)) else 0
def splE (u : Int) : Int := if splOk u && decide (szI u ≠ 0) then plcI (szI u) else 0

set_option maxHeartbeats 400000 in
theorem split_no (b : Nat) (u : Int) (w : World) (hu : Hid (u = b)) (h : U64 u) (h1 : 9218868437227405312 ≤ szI u) :
    Calls Tryz.prog 25 #[.float .f64 b] w fun e w' => e = .returned (.tuple #[.int .i64 0, .int .i64 0, .bool false]) ∧ w' = w := by
  go_enter Tryz.func25, Tryz.ntmps25
  go_wp2_with (go_at_call 38; refine (size_as _ _ _ hu h).mono ?_; rintro e w' ⟨rfl, rfl⟩)
  go_ret3
  exact ⟨rfl, rfl⟩

set_option maxHeartbeats 400000 in
theorem split_zero (b : Nat) (u : Int) (w : World) (hu : Hid (u = b)) (h : U64 u) (h1 : szI u = 0) :
    Calls Tryz.prog 25 #[.float .f64 b] w fun e w' => e = .returned (.tuple #[.int .i64 0, .int .i64 0, .bool true]) ∧ w' = w := by
  go_enter Tryz.func25, Tryz.ntmps25
  go_wp2_with (go_at_call 38; refine (size_as _ _ _ hu h).mono ?_; rintro e w' ⟨rfl, rfl⟩)
  go_ret3
  exact ⟨rfl, rfl⟩

set_option maxHeartbeats 400000 in
theorem split_sub (b : Nat) (u : Int) (w : World) (hu : Hid (u = b)) (h : U64 u) (h1 : 0 < szI u) (h2 : szI u < 4503599627370496) :
    Calls Tryz.prog 25 #[.float .f64 b] w fun e w' => e = .returned (.tuple #[.int .i64 (if sgB u then -szI u else szI u), .int .i64 (-1074), .bool true]) ∧ w' = w := by
  cases hs : sgB u
  all_goals
    simp only [Bool.false_eq_true, if_true, if_false]
    go_enter Tryz.func25, Tryz.ntmps25
    go_wp2_with (first | (go_at_call 38; refine (size_as _ _ _ hu h).mono ?_; rintro e w' ⟨rfl, rfl⟩) | (go_at_call 39; refine (signed_as _ _ _ hu h).mono ?_; rintro e w' ⟨rfl, rfl⟩))
    go_ret3
    exact ⟨rfl, rfl⟩

set_option maxHeartbeats 400000 in
theorem split_normal (b : Nat) (u m : Int) (w : World) (hu : Hid (u = b)) (h : U64 u) (h1 : 4503599627370496 ≤ szI u) (h2 : szI u < 9218868437227405312)
    (hm : bits .or .u64 (bits .and .u64 (szI u) 4503599627370495) 4503599627370496 = m) (hm0 : 4503599627370496 ≤ m) (hm1 : m < 9007199254740992) :
    Calls Tryz.prog 25 #[.float .f64 b] w fun e w' => e = .returned (.tuple #[.int .i64 (if sgB u then -m else m), .int .i64 (szI u / 4503599627370496 - 1 + -1074), .bool true]) ∧ w' = w := by
  cases hs : sgB u
  all_goals
    simp only [Bool.false_eq_true, if_true, if_false]
    go_enter Tryz.func25, Tryz.ntmps25
    go_wp2_with (first | (go_at_call 38; refine (size_as _ _ _ hu h).mono ?_; rintro e w' ⟨rfl, rfl⟩) | (go_at_call 39; refine (signed_as _ _ _ hu h).mono ?_; rintro e w' ⟨rfl, rfl⟩))
    go_ret3
    exact ⟨rfl, rfl⟩

theorem split_as (b : Nat) (u : Int) (w : World) (hu : Hid (u = b)) (h : U64 u) :
    Calls Tryz.prog 25 #[.float .f64 b] w fun e w' => e = .returned (.tuple #[.int .i64 (splM u), .int .i64 (splE u), .bool (splOk u)]) ∧ w' = w := by
  have hlo := szI_lo u
  have hhi := szI_hi u
  by_cases h1 : szI u < 9218868437227405312
  · have e1 : splOk u = true := by simp [splOk, h1]
    by_cases h2 : szI u = 0
    · have e2 : splM u = 0 := by unfold splM magI; rw [h2]; simp
      have e3 : splE u = 0 := by unfold splE; rw [h2]; simp
      rw [e1, e2, e3]; exact split_zero b u w hu h h2
    · by_cases h3 : szI u < 4503599627370496
      · have e2 : splM u = if sgB u then -szI u else szI u := by unfold splM magI; rw [e1, if_pos h3]; rfl
        have e3 : splE u = -1074 := by unfold splE plcI; simp [e1, h2, h3]
        rw [e1, e2, e3]; exact split_sub b u w hu h (by omega) h3
      · have e2 : splM u = if sgB u then -(4503599627370496 + szI u % 4503599627370496) else 4503599627370496 + szI u % 4503599627370496 := by unfold splM magI; rw [e1, if_neg h3]; rfl
        have e3 : splE u = szI u / 4503599627370496 - 1 + -1074 := by unfold splE plcI; simp [e1, h2, h3]; omega
        rw [e1, e2, e3]
        exact split_normal b u _ w hu h (by omega) h1 (by rw [and_mask52 hlo (by omega), or_hidden (by omega) (by omega)]) (by omega) (by omega)
  · have e1 : splOk u = false := by simp [splOk, h1]
    have e2 : splM u = 0 := by simp [splM, e1]
    have e3 : splE u = 0 := by simp [splE, e1]
    rw [e1, e2, e3]; exact split_no b u w hu h (by omega)
end Go.Proofs.YtgpcebjcleljkaaGreatDoor
namespace Go.Proofs.YtgpcebjcleljkaaGreatDoor
open Go.RowKit

theorem hide {p : Prop} (h : p) : Hid p := h
theorem unhide {p : Prop} (h : Hid p) : p := h

def RowIs (w : World) (g n M : Nat) : Prop := ∀ i, i < n → w.cell? ⟨g, i, none⟩ = some (.int .u64 (dgt M i : Int))

theorem ret_slice {g a b c : Nat} (h : a = b) : Ending.returned (.slice (some ⟨g, 0, none⟩) a c) = .returned (.slice (some ⟨g, 0, none⟩) b c) := by rw [h]

set_option maxHeartbeats 400000 in
theorem trim_row (g n c M : Nat) (w : World) (hrow : RowIs w g n M) (hM : M < 2 ^ (32 * n)) (hn : n ≤ c) (hb : n ≤ 4611686018427387904) :
    Calls Tryz.prog 34 #[.slice (some ⟨g, 0, none⟩) n c] w fun e w' => e = .returned (.slice (some ⟨g, 0, none⟩) (nd M) c) ∧ w' = w := by
  have HR := hide hrow
  have HM := hide hM
  clear hrow hM
  go_enter Tryz.func34, Tryz.ntmps34
  go_wp2
  go_loop [3] (fun t => ∃ k : Nat, k ≤ n ∧ t = .int .i64 k ∧ Hid (M < 2 ^ (32 * k))) (fun t => (intOf t).toNat)
  case atStart => exact ⟨n, Nat.le_refl _, rfl, HM⟩
  case round =>
    obtain ⟨k, hk, rfl, HK⟩ := hrel
    cases k with
    | zero =>
      go_wp2
      go_ret
      exact ⟨ret_slice (by have h1 := HK.out; rw [Nat.mul_zero, Nat.pow_zero] at h1; rw [show M = 0 by omega]; rfl), rfl⟩
    | succ j =>
      have hc := unhide HR j (by omega)
      by_cases h0 : dgt M j = 0
      · rw [h0] at hc
        go_wp2
        go_round
        case rel => exact ⟨j, by omega, rfl, trim_step HK.out h0⟩
        case measure => simp [intOf]
      · have H0 := hide h0
        have h1 : ((dgt M j : Int) == 0) = false := by simpa using h0
        clear h0
        generalize (dgt M j : Int) = q at h1 hc
        go_wp2
        go_ret
        exact ⟨ret_slice (trim_end HK.out H0.out).symm, rfl⟩

def DN (w : World) (v : Value) (N : Nat) : Prop :=
  (N = 0 ∧ ∃ p c, v = .slice p 0 c) ∨ (N ≠ 0 ∧ ∃ g c, v = .slice (some ⟨g, 0, none⟩) (nd N) c ∧ nd N ≤ c ∧ g < w.heap.size ∧ RowIs w g (nd N) N)

theorem RowIs.mono {w : World} {g n m M : Nat} (h : RowIs w g n M) (hm : m ≤ n) : RowIs w g m M := fun i hi => h i (by omega)
theorem RowIs.below {w w' : World} {g n M : Nat} (h : RowIs w g n M) (hg : g < w.heap.size) (hb : Below w.heap.size w w') : RowIs w' g n M :=
  fun i hi => (hb.cell (p := ⟨g, i, none⟩) hg).trans (h i hi)
theorem DN.below {w w' : World} {v : Value} {N : Nat} (h : DN w v N) (hb : Below w.heap.size w w') : DN w' v N := by
  rcases h with h | ⟨h0, g, c, hv, hc, hg, hr⟩
  · exact Or.inl h
  · exact Or.inr ⟨h0, g, c, hv, hc, Nat.lt_of_lt_of_le hg hb.size, hr.below hg hb⟩
theorem dn_mk {w : World} {g c n M : Nat} (hr : RowIs w g n M) (hM : M < 2 ^ (32 * n)) (hc : n ≤ c) (hg : g < w.heap.size) : DN w (.slice (some ⟨g, 0, none⟩) (nd M) c) M := by
  by_cases h0 : M = 0
  · exact Or.inl ⟨h0, some ⟨g, 0, none⟩, c, by rw [h0]; rfl⟩
  · have := nd_mono hM
    exact Or.inr ⟨h0, g, c, rfl, by omega, hg, hr.mono this⟩

theorem row_two (n : Nat) (w : World) (h : n < 18446744073709551616) : RowIs (w.alloc (.cells #[.int .u64 ((n : Int) % 4294967296), .int .u64 ((n : Int) / 4294967296)] 33)) w.heap.size 2 n := by
  intro i hi
  have e0 : (dgt n 0 : Int) = (n : Int) % 4294967296 := by unfold dgt; rw [Nat.mul_zero, Nat.pow_zero, Nat.div_one]; omega
  have e1 : (dgt n 1 : Int) = (n : Int) / 4294967296 := by unfold dgt; rw [show (2 : Nat) ^ (32 * 1) = 4294967296 from rfl]; omega
  match i, hi with
  | 0, _ => rw [e0]; simp
  | 1, _ => rw [e1]; simp

def From (B : Nat) (v : Value) : Prop := ∀ a l c, v = .slice (some a) l c → B ≤ a.block
theorem from_at (B g l c : Nat) (h : B ≤ g) : From B (.slice (some ⟨g, 0, none⟩) l c) := fun a l' c' e => by cases e; exact h
theorem DN.set {w : World} {v : Value} {N B : Nat} (h : DN w v N) (hf : From B v) {a : Addr} (ha : a.block < B) (x : Value) : DN (w.setCell a x) v N := by
  rcases h with h | ⟨h0, g, c, rfl, hc, hg, hr⟩
  · exact Or.inl h
  · have := hf _ _ _ rfl
    refine Or.inr ⟨h0, g, c, rfl, hc, by simpa using hg, fun i hi => ?_⟩
    exact (World.cell?_of_block (a := ⟨g, i, none⟩) (Below.heap_setCell w a x g (by have h9 : B ≤ g := this; omega))).trans (hr i hi)

set_option maxHeartbeats 400000 in
theorem digits_new (n : Nat) (w : World) (h : n < 18446744073709551616) :
    Calls Tryz.prog 20 #[.int .u64 n] w fun e w' => ∃ v, e = .returned v ∧ DN w' v n ∧ From w.heap.size v ∧ Below w.heap.size w w' := by
  have HR := hide (row_two n w h)
  have HD := hide (dn_mk HR.out (by omega) (Nat.le_refl 2) (by simp))
  go_enter Tryz.func20, Tryz.ntmps20
  go_wp2_with fail
  refine (trim_row _ 2 2 n _ HR.out (by omega) (Nat.le_refl 2) (by omega)).mono ?_
  rintro e w' ⟨rfl, rfl⟩
  go_wp2_with fail
  go_ret
  exact ⟨_, rfl, HD.out, from_at _ _ _ _ (Nat.le_refl _), (Below.refl _ _).alloc (Nat.le_refl _) _⟩
theorem digits_as (u : Int) (n : Nat) (w : World) (hu : Hid (u = n)) (h : n < 18446744073709551616) :
    Calls Tryz.prog 20 #[.int .u64 u] w fun e w' => ∃ v, e = .returned v ∧ DN w' v n ∧ From w.heap.size v ∧ Below w.heap.size w w' := by
  rw [hu.out]; exact digits_new n w h

theorem bl_le64 {x : Nat} (h : x < 18446744073709551616) : bl x ≤ 64 := by
  unfold bl
  by_cases h0 : x = 0
  · rw [if_pos h0]; omega
  · rw [if_neg h0]; have := (Nat.log2_lt h0).2 (show x < 2 ^ 64 from h); omega

set_option maxHeartbeats 400000 in
theorem len_nil (p : Option Addr) (c : Nat) (w : World) :
    Calls Tryz.prog 10 #[.slice p 0 c] w fun e w' => e = .returned (.int .i64 0) ∧ w' = w := by
  go_enter Tryz.func10, Tryz.ntmps10
  go_wp2
  go_ret
  exact ⟨rfl, rfl⟩

set_option maxHeartbeats 400000 in
theorem len_row (g n c N : Nat) (w : World) (hN : N ≠ 0) (hn : Hid (n + 1 = nd N)) (hb : n ≤ 100000000) (hcell : w.cell? ⟨g, n, none⟩ = some (.int .u64 (dgt N n : Int))) :
    Calls Tryz.prog 10 #[.slice (some ⟨g, 0, none⟩) (n + 1 : Nat) c] w fun e w' => e = .returned (.int .i64 (bl N : Int)) ∧ w' = w := by
  have HB : Hid (bl N = 32 * n + bl (dgt N n)) := by
    have := bl_top hN
    rw [← hn.out, Nat.add_sub_cancel] at this; exact this
  have hd := dgt_lt N n
  generalize dgt N n = d at hcell HB hd
  rw [HB.out]
  clear HB
  go_enter Tryz.func10, Tryz.ntmps10
  go_wp2
  go_loop [3, 4] (fun s t => ∃ a x : Nat, s = .int .i64 a ∧ t = .int .u64 x ∧ x < 4294967296 ∧ Hid (a + bl x = 32 * n + bl d)) (fun _ t => (intOf t).toNat)
  case atStart => exact ⟨32 * n, d, by go_num, rfl, hd, rfl⟩
  case round =>
    obtain ⟨a, x, rfl, rfl, hx, HA⟩ := hrel
    have ha : a ≤ 3200000064 := by
      have h1 := HA.out
      have h2 : bl d ≤ 64 := bl_le64 (by omega)
      omega
    by_cases h0 : x = 0
    · subst h0
      go_wp2
      go_ret
      exact ⟨ret_int (by have := HA.out; rw [show bl 0 = 0 from rfl] at this; omega), rfl⟩
    · have HB := hide (bl_half h0)
      have h1 : 0 < x := by omega
      clear h0
      go_wp2
      go_round
      case rel => exact ⟨a + 1, x / 2, by go_num, by go_num, by omega, by have h2 := HA.out; rw [HB.out] at h2; show _ = _; omega⟩
      case measure => simp [intOf]; omega

theorem len_any (v : Value) (N : Nat) (w : World) (h : DN w v N) (hb : nd N ≤ 100000000) :
    Calls Tryz.prog 10 #[v] w fun e w' => e = .returned (.int .i64 (bl N : Int)) ∧ w' = w := by
  rcases h with ⟨h0, p, c, rfl⟩ | ⟨h0, g, c, rfl, hc, hg, hr⟩
  · rw [h0]; exact len_nil p c w
  · have h1 := nd_pos h0
    obtain ⟨n, hn⟩ : ∃ n, n + 1 = nd N := ⟨nd N - 1, by omega⟩
    rw [← hn]
    exact len_row g n c N w h0 hn (by omega) (hr n (by omega))

set_option maxHeartbeats 400000 in
theorem digit_out (p : Option Addr) (n c : Nat) (i : Int) (w : World) (hi : i < 0 ∨ (n : Int) ≤ i) :
    Calls Tryz.prog 33 #[.slice p n c, .int .i64 i] w fun e w' => e = .returned (.int .u64 0) ∧ w' = w := by
  by_cases h : i < 0
  · go_enter Tryz.func33, Tryz.ntmps33
    go_wp2
    go_ret
    exact ⟨rfl, rfl⟩
  · have h2 : (n : Int) ≤ i := by omega
    go_enter Tryz.func33, Tryz.ntmps33
    go_wp2
    go_ret
    exact ⟨rfl, rfl⟩

set_option maxHeartbeats 400000 in
theorem digit_in (g n c k : Nat) (q : Int) (w : World) (hk : k < n) (hcell : w.cell? ⟨g, k, none⟩ = some (.int .u64 q)) :
    Calls Tryz.prog 33 #[.slice (some ⟨g, 0, none⟩) n c, .int .i64 k] w fun e w' => e = .returned (.int .u64 q) ∧ w' = w := by
  go_enter Tryz.func33, Tryz.ntmps33
  go_wp2
  go_ret
  exact ⟨rfl, rfl⟩

theorem digit_any (v : Value) (N k : Nat) (w : World) (h : DN w v N) :
    Calls Tryz.prog 33 #[v, .int .i64 k] w fun e w' => e = .returned (.int .u64 (dgt N k : Int)) ∧ w' = w := by
  rcases h with ⟨h0, p, c, rfl⟩ | ⟨h0, g, c, rfl, hc, hg, hr⟩
  · rw [h0, dgt_zero]; exact digit_out p 0 c k w (by omega)
  · by_cases hk : k < nd N
    · exact digit_in g (nd N) c k _ w hk (hr k hk)
    · rw [dgt_past (by omega)]; exact digit_out _ _ c k w (by omega)

end Go.Proofs.YtgpcebjcleljkaaGreatDoor
