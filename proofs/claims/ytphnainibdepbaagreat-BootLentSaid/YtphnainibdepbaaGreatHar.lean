/- The contracts of nearest, isSameMonth, nearestOfMonth and count. The contracts of almanacOf, Open and Holiday. The contracts of Adjust, Add and Count. -/
import Derived.Test.YtphnainibdepbaaGreatHaq
namespace Go.Proofs.YtphnainibdepbaaGreat
open Go.RowKit

set_option maxHeartbeats 800000 in
theorem count_any (A : Nat) (op : Int → Bool) (E : World → Prop) (a b : Int) (w : World) (HO : Hid (OpH A op E)) (HE : Hid (E w)) (ha : isDayP a) (hb : isDayP b) (hab : a ≤ b) :
    Calls Tryz.prog 112 #[.pointer (some ⟨A, 0, none⟩), .int .i64 a, .int .i64 b] w fun e w' => e = .returned (.int .i64 (cntN op a (b - a).toNat : Nat)) ∧ E w' ∧ Below A w w' := by
  have a0 := ha.1
  have b1 := hb.2
  clear ha hb
  obtain ⟨R, hR⟩ : ∃ R : Int, ((cntN op a (b - a).toNat : Nat) : Int) = R := ⟨_, rfl⟩
  rw [hR]
  have HR := hideS hR
  clear hR
  go_enter Tryz.func112, Tryz.ntmps112
  go_wp2_with fail
  go_loopw [7, 8] (fun q i wr => ∃ (j : Nat) (x z : Int), a ≤ x ∧ x ≤ b ∧ 0 ≤ z ∧ z ≤ 110000 ∧ i = .int .i64 x ∧ q = .int .i64 z ∧ Hid (E wr) ∧ Hid (Below A w wr) ∧ Hid (x = a + j ∧ z = (cntN op a j : Nat) ∧ cntN op a j ≤ j)) (fun _ i _ => (b - intOf i).toNat)
  case atStart => exact ⟨0, a, 0, by omega, by omega, by omega, by omega, rfl, rfl, HE, Below.refl _ _, ⟨by omega, rfl, Nat.le_refl _⟩⟩
  case round =>
    clear HE
    obtain ⟨j, x, z, x0, x1, z0, z1, rfl, rfl, HE, HB, HJ⟩ := hrel
    by_cases hlt : x < b
    · have HOx := hideS (HO.out x wr ⟨by omega, by omega⟩ HE.out)
      have hc : cntN op a (j + 1) = cntN op a j + (if op x then 1 else 0) := by rw [HJ.out.1]; rfl
      have hle := cnt_le op a (j + 1)
      have hJ := HJ.out
      cases hop : op x
      · rw [hop] at HOx hc
        rw [if_neg Bool.false_ne_true] at hc
        have HJ' : Hid (x + 1 = a + ((j + 1 : Nat) : Int) ∧ z = (cntN op a (j + 1) : Nat) ∧ cntN op a (j + 1) ≤ j + 1) := ⟨by omega, by omega, hle⟩
        clear hc hle hJ hop
        go_wp2_with (go_at_call 133; refine HOx.out.mono ?_; rintro e w1 ⟨rfl, hE1, hb1⟩)
        have HE1 := hideS hE1
        have HB1 := hideS (HB.out.trans hb1)
        clear hE1 hb1
        go_roundw
        case rel => exact ⟨j + 1, x + 1, z, by omega, by omega, by omega, by omega, rfl, rfl, HE1, HB1, HJ'⟩
        case measure => simp [intOf]; omega
      · rw [hop] at HOx hc
        rw [if_pos rfl] at hc
        have HJ' : Hid (x + 1 = a + ((j + 1 : Nat) : Int) ∧ z + 1 = (cntN op a (j + 1) : Nat) ∧ cntN op a (j + 1) ≤ j + 1) := ⟨by omega, by omega, hle⟩
        have z2 : z + 1 ≤ 110000 := by omega
        clear hc hle hJ hop
        go_wp2_with (go_at_call 133; refine HOx.out.mono ?_; rintro e w1 ⟨rfl, hE1, hb1⟩)
        have HE1 := hideS hE1
        have HB1 := hideS (HB.out.trans hb1)
        clear hE1 hb1
        go_roundw
        case rel => exact ⟨j + 1, x + 1, z + 1, by omega, by omega, by omega, by omega, rfl, rfl, HE1, HB1, HJ'⟩
        case measure => simp [intOf]; omega
    · have HZ : Hid (z = R) := by
        obtain ⟨e1, e2, _⟩ := HJ.out
        show _ = _
        rw [← HR.out, e2, show (b - a).toNat = j by omega]
      go_wp2_with fail
      go_ret
      obtain rfl := HZ.out
      exact ⟨rfl, HE.out, HB.out⟩
end Go.Proofs.YtphnainibdepbaaGreat
namespace Go.Proofs.YtphnainibdepbaaGreat
open Go.RowKit

theorem alm_new (w : World) (W : Int) (v : Value) : AlmC (w.alloc (.cells #[.int .i64 W, v, .int .i64 0, .int .i64 (-1), .slice none 0 0] 185)) w.heap.size W v 0 (-1) (.slice none 0 0) :=
  ⟨World.rowIs_alloc w #[.int .i64 W, v, .int .i64 0, .int .i64 (-1), .slice none 0 0] 185 (almF W v 0 (-1) (.slice none 0 0)) (fun i hi => by
    rcases five (show i < 5 from hi) with rfl | rfl | rfl | rfl | rfl <;> rfl)⟩
structure Days (w : World) (dp : Option Addr) (bd : Nat) (xs : List Int) : Prop where
  at_ : 0 < xs.length → dp = some ⟨bd, 0, none⟩
  lt : 0 < xs.length → bd < w.heap.size
  cell : ∀ j < xs.length, w.cell? ⟨bd, j, none⟩ = some (.int .i64 (xs.getD j 0))
theorem Days.below {w w' : World} {dp : Option Addr} {bd : Nat} {xs : List Int} (h : Days w dp bd xs) (hb : Below w.heap.size w w') : Days w' dp bd xs :=
  ⟨h.at_, fun hx => Nat.lt_of_lt_of_le (h.lt hx) hb.size, fun j hj => (hb.cell (p := ⟨bd, j, none⟩) (h.lt (by omega))).trans (h.cell j hj)⟩

set_option maxHeartbeats 1600000 in
theorem almOf_err (W : Int) (p dp : Option Addr) (c N dn dc : Nat) (A B : Int) (w : World) (hA : A ≠ 0) (HC : Hid (∀ wx, Below w.heap.size w wx → Calls Tryz.prog 25 #[.agg #[.int .i64 W, .slice p N c]] wx fun e w' => e = .returned (.tuple #[.int .i64 A, .int .i64 B]) ∧ Below wx.heap.size wx w')) :
    Calls Tryz.prog 111 #[.agg #[.int .i64 W, .slice p N c], .slice dp dn dc] w fun e w' => e = .returned (.tuple #[.pointer none, .int .i64 A]) ∧ Below w.heap.size w w' := by
  have HB0 : Hid (Below w.heap.size w (w.alloc (.cells #[.int .i64 W, .slice p N c] 24))) := (Below.refl w.heap.size w).alloc (Nat.le_refl _) _
  have hA' : (A != 0) = true := bne_iff_ne.2 hA
  clear hA
  go_enter Tryz.func111, Tryz.ntmps111
  go_wp2_with (go_at_call 25; refine (HC.out _ HB0.out).mono ?_; rintro e w1 ⟨rfl, hb1⟩)
  go_ret2
  exact ⟨rfl, HB0.out.trans (hb1.mono HB0.out.size)⟩

def AlmO (K dn : Nat) (W : Int) (p : Option Addr) (b off c : Nat) (rs : List Rul) (w : World) (e : Ending) (w' : World) : Prop :=
  (K < dn ∧ e = .returned (.tuple #[.pointer none, .int .i64 51])) ∨ (K = dn ∧ ∃ A, e = .returned (.tuple #[.pointer (some ⟨A, 0, none⟩), .int .i64 0]) ∧ w.heap.size ≤ A ∧ AlmE A W p b off c rs w')
set_option maxHeartbeats 1600000 in
theorem almOf_loop (W : Int) (p dp : Option Addr) (b off c bd dn dc K : Nat) (rs : List Rul) (xs : List Int) (w : World) (h : OkC W rs) (hs : RSrc w p b off rs) (hx : xs.length = dn) (hd : Days w dp bd xs) (hn : dn ≤ 10) (hK : K ≤ dn) (hall : ∀ j < K, isDayP (xs.getD j 0)) (hbad : K < dn → ¬ isDayP (xs.getD K 0)) :
    Calls Tryz.prog 111 #[.agg #[.int .i64 W, .slice p rs.length c], .slice dp dn dc] w fun e w' => AlmO K dn W p b off c rs w e w' ∧ Below w.heap.size w w' := by
  have HC : Hid (∀ wx, Below w.heap.size w wx → Calls Tryz.prog 25 #[.agg #[.int .i64 W, .slice p rs.length c]] wx fun e w' => e = .returned (.tuple #[.int .i64 0, .int .i64 0]) ∧ Below wx.heap.size wx w') := fun wx hb => check_any W p b off c rs 0 0 wx (.ok h) (hs.below hb) (by have := h.len; omega)
  have HH := hideS h
  have HS := hideS hs
  have HDs := hideS hd
  have HAll := hideS hall
  have HBad := hideS hbad
  have HX := hideS hx
  obtain ⟨N, hN⟩ : ∃ N, rs.length = N := ⟨_, rfl⟩
  have HN := hideS hN
  rw [hN] at HC ⊢
  clear h hs hd hall hbad hx hN
  have HB0 : Hid (Below w.heap.size w (w.alloc (.cells #[.int .i64 W, .slice p N c] 24))) := (Below.refl w.heap.size w).alloc (Nat.le_refl _) _
  have HD := hideS (fun x wx => isDay6_any x wx)
  go_enter Tryz.func111, Tryz.ntmps111
  go_wp2_with (go_at_call 25; refine (HC.out _ HB0.out).mono ?_; rintro e w1 ⟨rfl, hb1⟩)
  have HBx := hideS (CBoxP.first hb1)
  clear hb1 HC HB0
  go_loop [20] (fun i => ∃ k : Nat, k ≤ K ∧ i = .int .i64 k) (fun i => dn - (intOf i).toNat)
  case atStart => exact ⟨0, by omega, rfl⟩
  case round =>
    obtain ⟨k, hk, rfl⟩ := hrel
    by_cases hlt : k < dn
    · have hx : k < xs.length := by rw [HX.out]; exact hlt
      obtain rfl := HDs.out.at_ (by omega)
      have hc := (HDs.out.below HBx.out.below).cell k hx
      obtain ⟨x, hxe⟩ : ∃ x, xs.getD k 0 = x := ⟨_, rfl⟩
      rw [hxe] at hc
      have HDx := hideS (fun wx => HD.out x wx)
      by_cases hkK : k < K
      · have hxd := HAll.out k hkK
        rw [hxe] at hxd
        rw [decide_eq_true hxd] at HDx
        clear hxd hxe hx
        go_wp2_with (go_at_call 132; refine (turnedQ (HDx.out _)).mono ?_; rintro e w2 ⟨rfl, rfl⟩)
        go_round
        case rel => exact ⟨k + 1, by omega, by go_num⟩
        case measure => simp [intOf]; omega
      · obtain rfl : k = K := by omega
        have hxd := HBad.out hlt
        rw [hxe] at hxd
        rw [decide_eq_false hxd] at HDx
        clear hxd hxe hx
        go_wp2_with (go_at_call 132; refine (turnedQ (HDx.out _)).mono ?_; rintro e w2 ⟨rfl, rfl⟩)
        go_ret2
        exact ⟨Or.inl ⟨hlt, rfl⟩, HBx.out.below⟩
    · obtain rfl : k = K := by omega
      have hkd : k = dn := by omega
      have hge : ¬ (k : Int) < dn := by omega
      obtain ⟨c0, c1⟩ := HBx.out.cells
      go_wp2_with fail
      go_ret2
      have hA := alm_new w1 W (.slice p N c)
      have hlo := HBx.out.below.size
      refine ⟨Or.inr ⟨rfl, w1.heap.size, rfl, hlo, HH.out, HS.out.below (HBx.out.below.alloc hlo _), fun hx => Nat.lt_of_lt_of_le (HS.out.lt hx) hlo, ?_⟩, HBx.out.below.alloc hlo _⟩
      rw [HN.out]
      exact .none hA

theorem almOf_ok (W : Int) (p dp : Option Addr) (b off c bd dn dc : Nat) (rs : List Rul) (xs : List Int) (w : World) (h : OkC W rs) (hs : RSrc w p b off rs) (hx : xs.length = dn) (hd : Days w dp bd xs) (hn : dn ≤ 10) (hall : ∀ j < dn, isDayP (xs.getD j 0)) :
    Calls Tryz.prog 111 #[.agg #[.int .i64 W, .slice p rs.length c], .slice dp dn dc] w fun e w' => ∃ A, e = .returned (.tuple #[.pointer (some ⟨A, 0, none⟩), .int .i64 0]) ∧ w.heap.size ≤ A ∧ AlmE A W p b off c rs w' ∧ Below w.heap.size w w' := by
  refine (almOf_loop W p dp b off c bd dn dc dn rs xs w h hs hx hd hn (Nat.le_refl _) hall (fun a => absurd a (Nat.lt_irrefl _))).mono ?_
  rintro e w' ⟨ho, hb⟩
  rcases ho with ⟨a, _⟩ | ⟨_, A, he, hA, hE⟩
  · exact absurd a (Nat.lt_irrefl _)
  · exact ⟨A, he, hA, hE, hb⟩
theorem almOf_bad (W : Int) (p dp : Option Addr) (b off c bd dn dc : Nat) (rs : List Rul) (xs : List Int) (A B : Int) (w : World) (h : ChkR W rs A B) (hs : RSrc w p b off rs) (hl : rs.length ≤ 9223372036854775807) (hx : xs.length = dn) (hd : Days w dp bd xs) (hn : dn ≤ 10) (hbad : A ≠ 0 ∨ ∃ j < dn, ¬ isDayP (xs.getD j 0)) :
    Calls Tryz.prog 111 #[.agg #[.int .i64 W, .slice p rs.length c], .slice dp dn dc] w fun e w' => e = .returned (.tuple #[.pointer none, .int .i64 (if A ≠ 0 then A else 51)]) ∧ Below w.heap.size w w' := by
  by_cases hA : A = 0
  · subst hA
    obtain ⟨hok, rfl⟩ := chk_ok h
    rw [if_neg (fun a => a rfl)]
    rcases hbad with a | ⟨j, hj, hj2⟩
    · exact absurd rfl a
    · obtain ⟨K, hK, hK1, hK2⟩ := least_ex (p := fun j => decide (isDayP (xs.getD j 0))) (m := j) (decide_eq_false hj2)
      refine (almOf_loop W p dp b off c bd dn dc K rs xs w hok hs hx hd hn (by omega) (fun i hi => of_decide_eq_true (hK2 i hi)) (fun _ => of_decide_eq_false hK1)).mono ?_
      rintro e w' ⟨ho, hb⟩
      rcases ho with ⟨_, he⟩ | ⟨a, _⟩
      · exact ⟨he, hb⟩
      · omega
  · rw [if_pos hA]
    exact almOf_err W p dp c rs.length dn dc A B w hA (fun wx hb => check_any W p b off c rs A B wx h (hs.below hb) hl)

theorem two_day {a b : Int} (h : isDayP a) (h' : isDayP b) : ∀ j < 2, isDayP ([a, b].getD j 0) := fun j hj => by
  rcases (show j = 0 ∨ j = 1 by omega) with rfl | rfl
  · exact h
  · exact h'
theorem days_two (w : World) (o : Obj) (a b : Int) : Days ((w.alloc o).alloc (.cells #[.int .i64 a, .int .i64 b] 3)) (some ⟨w.heap.size + 1, 0, none⟩) (w.heap.size + 1) [a, b] :=
  ⟨fun _ => rfl, fun _ => by simp, fun j hj => by
    rcases (show j = 0 ∨ j = 1 by have : j < 2 := hj; omega) with rfl | rfl
    · exact new_cell _ _ 0 (by simp)
    · exact new_cell _ _ 1 (by simp)⟩
end Go.Proofs.YtphnainibdepbaaGreat
namespace Go.Proofs.YtphnainibdepbaaGreat
open Go.RowKit

theorem alm_ok2 (W x y : Int) (p : Option Addr) (b off c : Nat) (rs : List Rul) (w : World) (h : OkC W rs) (hs : RSrc w p b off rs) (hx : isDayP x) (hy : isDayP y) (o : Obj) :
    Calls Tryz.prog 111 #[.agg #[.int .i64 W, .slice p rs.length c], .slice (some ⟨w.heap.size + 1, 0, none⟩) 2 2] ((w.alloc o).alloc (.cells #[.int .i64 x, .int .i64 y] 3)) fun e w' => ∃ A, e = .returned (.tuple #[.pointer (some ⟨A, 0, none⟩), .int .i64 0]) ∧ w.heap.size ≤ A ∧ AlmE A W p b off c rs w' ∧ Below w.heap.size w w' := by
  refine (almOf_ok W p _ b off c (w.heap.size + 1) 2 2 rs [x, y] _ h (hs.below (below2 w o _)) rfl (days_two w o x y) (by omega) (two_day hx hy)).mono ?_
  rintro e w' ⟨A, he, hA, hE, hb⟩
  have := (below2 w o (.cells #[.int .i64 x, .int .i64 y] 3)).size
  exact ⟨A, he, Nat.le_trans this hA, hE, (below2 w o _).trans (hb.mono this)⟩

set_option maxHeartbeats 800000 in
theorem cntP_up (W x y : Int) (p : Option Addr) (b off c : Nat) (rs : List Rul) (w : World) (h : OkC W rs) (hs : RSrc w p b off rs) (hx : isDayP x) (hy : isDayP y) (hxy : x ≤ y) :
    Calls Tryz.prog 91 #[.agg #[.int .i64 W, .slice p rs.length c], .int .i64 x, .int .i64 y] w fun e w' => e = .returned (.tuple #[.int .i64 (cntN (opB W rs) x (y - x).toNat : Nat), .int .i64 0]) ∧ Below w.heap.size w w' := by
  have HA := hideS (fun o => alm_ok2 W x y p b off c rs w h hs hx hy o)
  have HW : Hid (∀ A wx, AlmE A W p b off c rs wx → Calls Tryz.prog 112 #[.pointer (some ⟨A, 0, none⟩), .int .i64 x, .int .i64 y] wx fun e w' => e = .returned (.int .i64 (cntN (opB W rs) x (y - x).toNat : Nat)) ∧ AlmE A W p b off c rs w' ∧ Below A wx w') := fun A wx hE => count_any A _ _ x y wx (opH A W p b off c rs) hE hx hy hxy
  generalize ((cntN (opB W rs) x (y - x).toNat : Nat) : Int) = X at *
  generalize rs.length = N at *
  have hxy' : ¬ y < x := by omega
  clear h hs hx hy
  go_enter Tryz.func91, Tryz.ntmps91
  go_wp2_with (first | (go_at_call 111; refine (HA.out _).mono ?_; rintro e w1 ⟨A, rfl, hA, hE, hb1⟩) | (go_at_call 112; refine (HW.out _ _ hE).mono ?_; rintro e w2 ⟨rfl, _, hb2⟩))
  go_ret2
  exact ⟨rfl, hb1.trans (hb2.mono hA)⟩

set_option maxHeartbeats 800000 in
theorem cntP_bad (W x y : Int) (p : Option Addr) (b off c : Nat) (rs : List Rul) (A B E : Int) (w : World) (h : ChkR W rs A B) (hs : RSrc w p b off rs) (hl : rs.length ≤ 9223372036854775807) (hE : (A ≠ 0 ∧ E = A) ∨ (A = 0 ∧ ¬ (isDayP x ∧ isDayP y) ∧ E = 51)) :
    Calls Tryz.prog 91 #[.agg #[.int .i64 W, .slice p rs.length c], .int .i64 x, .int .i64 y] w fun e w' => e = .returned (.tuple #[.int .i64 0, .int .i64 E]) ∧ Below w.heap.size w w' := by
  have HA : Hid (∀ o, Calls Tryz.prog 111 #[.agg #[.int .i64 W, .slice p rs.length c], .slice (some ⟨w.heap.size + 1, 0, none⟩) 2 2] ((w.alloc o).alloc (.cells #[.int .i64 x, .int .i64 y] 3)) fun e w' => e = .returned (.tuple #[.pointer none, .int .i64 E]) ∧ Below w.heap.size w w') := fun o => by
    have hbad : A ≠ 0 ∨ ∃ j < 2, ¬ isDayP ([x, y].getD j 0) := by
      rcases hE with ⟨a, _⟩ | ⟨_, a, _⟩
      · exact Or.inl a
      · by_cases hx : isDayP x
        · exact Or.inr ⟨1, by omega, fun c => a ⟨hx, c⟩⟩
        · exact Or.inr ⟨0, by omega, hx⟩
    have hEE : (if A ≠ 0 then A else 51) = E := by
      rcases hE with ⟨a, e⟩ | ⟨a, _, e⟩
      · rw [if_pos a, e]
      · rw [if_neg (fun c => c a), e]
    have := almOf_bad W p _ b off c (w.heap.size + 1) 2 2 rs [x, y] A B _ h (hs.below (below2 w o _)) hl rfl (days_two w o x y) (by omega) hbad
    rw [hEE] at this
    exact this.mono fun e w' ⟨he, hb⟩ => ⟨he, (below2 w o _).trans (hb.mono (below2 w o (.cells #[.int .i64 x, .int .i64 y] 3)).size)⟩
  have hne : (E != 0) = true := by
    rcases hE with ⟨a, e⟩ | ⟨_, _, e⟩
    · rw [e]; exact bne_iff_ne.2 a
    · rw [e]; rfl
  generalize rs.length = N at *
  clear h hs hl hE
  go_enter Tryz.func91, Tryz.ntmps91
  go_wp2_with (go_at_call 111; refine (HA.out _).mono ?_; rintro e w1 ⟨rfl, hb1⟩)
  go_ret2
  exact ⟨rfl, hb1⟩
end Go.Proofs.YtphnainibdepbaaGreat
