/- The contracts of almanacOf, Open and Holiday. The contracts of Adjust, Add and Count. -/
import Derived.Test.YtelghkhcplmnmaaHax
namespace Go.Proofs.Ytelghkhcplmnmaa
open Go.RowKit

theorem alm_new (w : World) (W : Int) (v : Value) : AlmC (w.alloc (.cells #[.int .i64 W, v, .int .i64 0, .int .i64 (-1), .slice none 0 0] 89)) w.heap.size W v 0 (-1) (.slice none 0 0) :=
  ⟨World.rowIs_alloc w #[.int .i64 W, v, .int .i64 0, .int .i64 (-1), .slice none 0 0] 89 (almF W v 0 (-1) (.slice none 0 0)) (fun i hi => by
    rcases five (show i < 5 from hi) with rfl | rfl | rfl | rfl | rfl <;> rfl)⟩
/-- The days that were handed on. -/
structure Days (w : World) (dp : Option Addr) (bd : Nat) (xs : List Int) : Prop where
  at_ : 0 < xs.length → dp = some ⟨bd, 0, none⟩
  lt : 0 < xs.length → bd < w.heap.size
  cell : ∀ j < xs.length, w.cell? ⟨bd, j, none⟩ = some (.int .i64 (xs.getD j 0))
theorem Days.below {w w' : World} {dp : Option Addr} {bd : Nat} {xs : List Int} (h : Days w dp bd xs) (hb : Below w.heap.size w w') : Days w' dp bd xs :=
  ⟨h.at_, fun hx => Nat.lt_of_lt_of_le (h.lt hx) hb.size, fun j hj => (hb.cell (p := ⟨bd, j, none⟩) (h.lt (by omega))).trans (h.cell j hj)⟩

set_option maxHeartbeats 1600000 in
theorem almOf_err (W : Int) (p dp : Option Addr) (c N dn dc : Nat) (A B : Int) (w : World) (hA : A ≠ 0) (HC : Hid (∀ wx, Below w.heap.size w wx → Calls Try.prog 30 #[.agg #[.int .i64 W, .slice p N c]] wx fun e w' => e = .returned (.tuple #[.int .i64 A, .int .i64 B]) ∧ Below wx.heap.size wx w')) :
    Calls Try.prog 32 #[.agg #[.int .i64 W, .slice p N c], .slice dp dn dc] w fun e w' => e = .returned (.tuple #[.pointer none, .int .i64 A]) ∧ Below w.heap.size w w' := by
  have HB0 : Hid (Below w.heap.size w (w.alloc (.cells #[.int .i64 W, .slice p N c] 24))) := (Below.refl w.heap.size w).alloc (Nat.le_refl _) _
  have hA' : (A != 0) = true := bne_iff_ne.2 hA
  clear hA
  go_enter Try.func32, Try.ntmps32
  go_wp2_with (go_at_call 30; refine (HC.out _ HB0.out).mono ?_; rintro e w1 ⟨rfl, hb1⟩)
  go_ret2
  exact ⟨rfl, HB0.out.trans (hb1.mono HB0.out.size)⟩

/-- What almanacOf tells of a calendar that may be, K of dn days gone through. -/
def AlmO (K dn : Nat) (W : Int) (p : Option Addr) (b off c : Nat) (rs : List Rul) (w : World) (e : Ending) (w' : World) : Prop :=
  (K < dn ∧ e = .returned (.tuple #[.pointer none, .int .i64 51])) ∨ (K = dn ∧ ∃ A, e = .returned (.tuple #[.pointer (some ⟨A, 0, none⟩), .int .i64 0]) ∧ w.heap.size ≤ A ∧ AlmE A W p b off c rs w')
set_option maxHeartbeats 1600000 in
theorem almOf_loop (W : Int) (p dp : Option Addr) (b off c bd dn dc K : Nat) (rs : List Rul) (xs : List Int) (w : World) (h : OkC W rs) (hs : RSrc w p b off rs) (hx : xs.length = dn) (hd : Days w dp bd xs) (hn : dn ≤ 10) (hK : K ≤ dn) (hall : ∀ j < K, isDayP (xs.getD j 0)) (hbad : K < dn → ¬ isDayP (xs.getD K 0)) :
    Calls Try.prog 32 #[.agg #[.int .i64 W, .slice p rs.length c], .slice dp dn dc] w fun e w' => AlmO K dn W p b off c rs w e w' ∧ Below w.heap.size w w' := by
  have HC : Hid (∀ wx, Below w.heap.size w wx → Calls Try.prog 30 #[.agg #[.int .i64 W, .slice p rs.length c]] wx fun e w' => e = .returned (.tuple #[.int .i64 0, .int .i64 0]) ∧ Below wx.heap.size wx w') := fun wx hb => check_any W p b off c rs 0 0 wx (.ok h) (hs.below hb) (by have := h.len; omega)
  have HH := hideS h
  have HS := hideS hs
  have HDs := hideS hd
  have HAll := hideS hall
  have HBad := hideS hbad
  have HX := hideS hx
  obtain ⟨N, hN⟩ : ∃ N, rs.length = N := ⟨_, rfl⟩
  have HN := hideS hN
  rw [hN] at HC ⊢
  clear h hs hd hall hbad hx hN
  have HB0 : Hid (Below w.heap.size w (w.alloc (.cells #[.int .i64 W, .slice p N c] 24))) := (Below.refl w.heap.size w).alloc (Nat.le_refl _) _
  have HD := hideS (fun x wx => isDay6_any x wx)
  go_enter Try.func32, Try.ntmps32
  go_wp2_with (go_at_call 30; refine (HC.out _ HB0.out).mono ?_; rintro e w1 ⟨rfl, hb1⟩)
  have HBx := hideS (CBoxP.first hb1)
  clear hb1 HC HB0
  go_loop [20] (fun i => ∃ k : Nat, k ≤ K ∧ i = .int .i64 k) (fun i => dn - (intOf i).toNat)
  case atStart => exact ⟨0, by omega, rfl⟩
  case round =>
    obtain ⟨k, hk, rfl⟩ := hrel
    by_cases hlt : k < dn
    · have hx : k < xs.length := by rw [HX.out]; exact hlt
      obtain rfl := HDs.out.at_ (by omega)
      have hc := (HDs.out.below HBx.out.below).cell k hx
      obtain ⟨x, hxe⟩ : ∃ x, xs.getD k 0 = x := ⟨_, rfl⟩
      rw [hxe] at hc
      have HDx := hideS (fun wx => HD.out x wx)
      by_cases hkK : k < K
      · have hxd := HAll.out k hkK
        rw [hxe] at hxd
        rw [decide_eq_true hxd] at HDx
        clear hxd hxe hx
        go_wp2_with (go_at_call 33; refine (turnedQ (HDx.out _)).mono ?_; rintro e w2 ⟨rfl, rfl⟩)
        go_round
        case rel => exact ⟨k + 1, by omega, by go_num⟩
        case measure => simp [intOf]; omega
      · obtain rfl : k = K := by omega
        have hxd := HBad.out hlt
        rw [hxe] at hxd
        rw [decide_eq_false hxd] at HDx
        clear hxd hxe hx
        go_wp2_with (go_at_call 33; refine (turnedQ (HDx.out _)).mono ?_; rintro e w2 ⟨rfl, rfl⟩)
        go_ret2
        exact ⟨Or.inl ⟨hlt, rfl⟩, HBx.out.below⟩
    · obtain rfl : k = K := by omega
      have hkd : k = dn := by omega
      have hge : ¬ (k : Int) < dn := by omega
      obtain ⟨c0, c1⟩ := HBx.out.cells
      go_wp2_with fail
      go_ret2
      have hA := alm_new w1 W (.slice p N c)
      have hlo := HBx.out.below.size
      refine ⟨Or.inr ⟨rfl, w1.heap.size, rfl, hlo, HH.out, HS.out.below (HBx.out.below.alloc hlo _), fun hx => Nat.lt_of_lt_of_le (HS.out.lt hx) hlo, ?_⟩, HBx.out.below.alloc hlo _⟩
      rw [HN.out]
      exact .none hA

/-- What all calls ask first: a calendar that may be, and days. -/
theorem almOf_ok (W : Int) (p dp : Option Addr) (b off c bd dn dc : Nat) (rs : List Rul) (xs : List Int) (w : World) (h : OkC W rs) (hs : RSrc w p b off rs) (hx : xs.length = dn) (hd : Days w dp bd xs) (hn : dn ≤ 10) (hall : ∀ j < dn, isDayP (xs.getD j 0)) :
    Calls Try.prog 32 #[.agg #[.int .i64 W, .slice p rs.length c], .slice dp dn dc] w fun e w' => ∃ A, e = .returned (.tuple #[.pointer (some ⟨A, 0, none⟩), .int .i64 0]) ∧ w.heap.size ≤ A ∧ AlmE A W p b off c rs w' ∧ Below w.heap.size w w' := by
  refine (almOf_loop W p dp b off c bd dn dc dn rs xs w h hs hx hd hn (Nat.le_refl _) hall (fun a => absurd a (Nat.lt_irrefl _))).mono ?_
  rintro e w' ⟨ho, hb⟩
  rcases ho with ⟨a, _⟩ | ⟨_, A, he, hA, hE⟩
  · exact absurd a (Nat.lt_irrefl _)
  · exact ⟨A, he, hA, hE, hb⟩
theorem almOf_bad (W : Int) (p dp : Option Addr) (b off c bd dn dc : Nat) (rs : List Rul) (xs : List Int) (A B : Int) (w : World) (h : ChkR W rs A B) (hs : RSrc w p b off rs) (hl : rs.length ≤ 9223372036854775807) (hx : xs.length = dn) (hd : Days w dp bd xs) (hn : dn ≤ 10) (hbad : A ≠ 0 ∨ ∃ j < dn, ¬ isDayP (xs.getD j 0)) :
    Calls Try.prog 32 #[.agg #[.int .i64 W, .slice p rs.length c], .slice dp dn dc] w fun e w' => e = .returned (.tuple #[.pointer none, .int .i64 (if A ≠ 0 then A else 51)]) ∧ Below w.heap.size w w' := by
  by_cases hA : A = 0
  · subst hA
    obtain ⟨hok, rfl⟩ := chk_ok h
    rw [if_neg (fun a => a rfl)]
    rcases hbad with a | ⟨j, hj, hj2⟩
    · exact absurd rfl a
    · obtain ⟨K, hK, hK1, hK2⟩ := least_ex (p := fun j => decide (isDayP (xs.getD j 0))) (m := j) (decide_eq_false hj2)
      refine (almOf_loop W p dp b off c bd dn dc K rs xs w hok hs hx hd hn (by omega) (fun i hi => of_decide_eq_true (hK2 i hi)) (fun _ => of_decide_eq_false hK1)).mono ?_
      rintro e w' ⟨ho, hb⟩
      rcases ho with ⟨_, he⟩ | ⟨a, _⟩
      · exact ⟨he, hb⟩
      · omega
  · rw [if_pos hA]
    exact almOf_err W p dp c rs.length dn dc A B w hA (fun wx hb => check_any W p b off c rs A B wx h (hs.below hb) hl)

theorem one_day {n : Int} (h : isDayP n) : ∀ j < 1, isDayP ([n].getD j 0) := fun j hj => by
  obtain rfl : j = 0 := by omega
  exact h
theorem two_day {a b : Int} (h : isDayP a) (h' : isDayP b) : ∀ j < 2, isDayP ([a, b].getD j 0) := fun j hj => by
  rcases (show j = 0 ∨ j = 1 by omega) with rfl | rfl
  · exact h
  · exact h'
theorem days_one (w : World) (o : Obj) (n : Int) : Days ((w.alloc o).alloc (.cells #[.int .i64 n] 3)) (some ⟨w.heap.size + 1, 0, none⟩) (w.heap.size + 1) [n] :=
  ⟨fun _ => rfl, fun _ => by simp, fun j hj => by
    obtain rfl : j = 0 := by simpa using hj
    exact new_cell _ _ 0 (by simp)⟩
theorem days_two (w : World) (o : Obj) (a b : Int) : Days ((w.alloc o).alloc (.cells #[.int .i64 a, .int .i64 b] 3)) (some ⟨w.heap.size + 1, 0, none⟩) (w.heap.size + 1) [a, b] :=
  ⟨fun _ => rfl, fun _ => by simp, fun j hj => by
    rcases (show j = 0 ∨ j = 1 by have : j < 2 := hj; omega) with rfl | rfl
    · exact new_cell _ _ 0 (by simp)
    · exact new_cell _ _ 1 (by simp)⟩
theorem days_none (w : World) (bd : Nat) : Days w none bd [] := ⟨fun h => absurd h (by simp), fun h => absurd h (by simp), fun j hj => absurd hj (by simp)⟩

theorem alm_err1 (W n : Int) (p : Option Addr) (b off c : Nat) (rs : List Rul) (A B : Int) (w : World) (h : ChkR W rs A B) (hs : RSrc w p b off rs) (hl : rs.length ≤ 9223372036854775807) (hbad : A ≠ 0 ∨ ¬ isDayP n) (o : Obj) :
    Calls Try.prog 32 #[.agg #[.int .i64 W, .slice p rs.length c], .slice (some ⟨w.heap.size + 1, 0, none⟩) 1 1] ((w.alloc o).alloc (.cells #[.int .i64 n] 3)) fun e w' => e = .returned (.tuple #[.pointer none, .int .i64 (if A ≠ 0 then A else 51)]) ∧ Below w.heap.size w w' := by
  refine (almOf_bad W p _ b off c (w.heap.size + 1) 1 1 rs [n] A B _ h (hs.below (below2 w o _)) hl rfl (days_one w o n) (by omega) (hbad.imp id (fun a => ⟨0, by omega, a⟩))).mono ?_
  rintro e w' ⟨he, hb⟩
  exact ⟨he, (below2 w o _).trans (hb.mono (below2 w o (.cells #[.int .i64 n] 3)).size)⟩
end Go.Proofs.Ytelghkhcplmnmaa
namespace Go.Proofs.Ytelghkhcplmnmaa
open Go.RowKit

theorem adjO_0 (op : Int → Bool) (n : Int) : adjO op n 0 = some n := by unfold adjO; rw [if_pos rfl]
theorem adjO_1 (op : Int → Bool) (n : Int) : adjO op n 1 = srch op n 1 := by
  unfold adjO
  rw [if_neg (by decide), if_neg (fun a => by have := a.1; omega), show stepI 1 = 1 from rfl]
theorem adjO_2 (op : Int → Bool) (n : Int) : adjO op n 2 = srch op n (-1) := by
  unfold adjO
  rw [if_neg (by decide), if_neg (fun a => by have := a.1; omega), show stepI 2 = -1 from rfl]
theorem adjO_3 (op : Int → Bool) (n : Int) : adjO op n 3 = nomO op n 1 := by
  unfold adjO nomO
  rw [if_neg (by decide), show stepI 3 = 1 from rfl]
  by_cases h : ∀ x, srch op n 1 = some x → moI x ≠ moI n
  · rw [if_pos ⟨Or.inl rfl, h⟩, if_pos h]
  · rw [if_neg (fun a => h a.2), if_neg h]
theorem adjO_4 (op : Int → Bool) (n : Int) : adjO op n 4 = nomO op n (-1) := by
  unfold adjO nomO
  rw [if_neg (by decide), show stepI 4 = -1 from rfl]
  by_cases h : ∀ x, srch op n (-1) = some x → moI x ≠ moI n
  · rw [if_pos ⟨Or.inr rfl, h⟩, if_pos h]
  · rw [if_neg (fun a => h a.2), if_neg h]

/-- What the calls lean on, of a calendar that may be. -/
structure PubH (w : World) (W : Int) (p : Option Addr) (b off c N : Nat) (rs : List Rul) (n : Int) : Prop where
  alm : ∀ o, Calls Try.prog 32 #[.agg #[.int .i64 W, .slice p N c], .slice none 0 0] (w.alloc o) fun e w' => ∃ A, e = .returned (.tuple #[.pointer (some ⟨A, 0, none⟩), .int .i64 0]) ∧ w.heap.size ≤ A ∧ AlmE A W p b off c rs w' ∧ Below w.heap.size w w'
  day : ∀ wx, Calls Try.prog 33 #[.int .i64 n] wx fun e w' => e = .returned (.bool true) ∧ wx = w'
  near : ∀ s A wx, (s = 1 ∨ s = -1) → AlmE A W p b off c rs wx → Calls Try.prog 34 #[.pointer (some ⟨A, 0, none⟩), .int .i64 n, .int .i64 s] wx fun e w' => e = .returned (.tuple #[.int .i64 ((srch (opB W rs) n s).getD 0), .int .i64 (ansE (srch (opB W rs) n s))]) ∧ AlmE A W p b off c rs w' ∧ Below A wx w'
  nom : ∀ s A wx, (s = 1 ∨ s = -1) → AlmE A W p b off c rs wx → Calls Try.prog 35 #[.pointer (some ⟨A, 0, none⟩), .int .i64 n, .int .i64 s] wx fun e w' => e = .returned (.tuple #[.int .i64 ((nomO (opB W rs) n s).getD 0), .int .i64 (ansE (nomO (opB W rs) n s))]) ∧ AlmE A W p b off c rs w' ∧ Below A wx w'
theorem pubH_of (w : World) (W : Int) (p : Option Addr) (b off c : Nat) (rs : List Rul) (n : Int) (h : OkC W rs) (hs : RSrc w p b off rs) (hn : isDayP n) : PubH w W p b off c rs.length rs n where
  alm o := by
    have hb0 : Below w.heap.size w (w.alloc o) := (Below.refl w.heap.size w).alloc (Nat.le_refl _) _
    refine (almOf_ok W p none b off c 0 0 0 rs [] _ h (hs.below hb0) rfl (days_none _ _) (by omega) (fun j hj => by omega)).mono ?_
    rintro e w' ⟨A, he, hA, hE, hb⟩
    exact ⟨A, he, Nat.le_trans hb0.size hA, hE, hb0.trans (hb.mono hb0.size)⟩
  day wx := by
    have := turnedQ (isDay6_any n wx)
    rw [decide_eq_true hn] at this; exact this
  near s A wx hs' hE := nearest_any A _ _ n s wx (opH A W p b off c rs) hE hn hs'
  nom s A wx hs' hE := nom_any A _ _ n s wx (opH A W p b off c rs) hE hn hs'

set_option maxHeartbeats 3200000 in
theorem adjP_ok (W n way : Int) (p : Option Addr) (b off c : Nat) (rs : List Rul) (w : World) (h : OkC W rs) (hs : RSrc w p b off rs) (hw : 0 ≤ way ∧ way ≤ 4) (hn : isDayP n) :
    Calls Try.prog 20 #[.agg #[.int .i64 W, .slice p rs.length c], .int .i64 n, .int .i64 way] w fun e w' => e = .returned (.tuple #[.int .i64 ((adjO (opB W rs) n way).getD 0), .int .i64 (ansE (adjO (opB W rs) n way))]) ∧ Below w.heap.size w w' := by
  have H := hideS (pubH_of w W p b off c rs n h hs hn)
  generalize rs.length = N at *
  clear h hs hn
  rcases (show way = 0 ∨ way = 1 ∨ way = 2 ∨ way = 3 ∨ way = 4 by omega) with rfl | rfl | rfl | rfl | rfl
  · rw [adjO_0, show ansE (some n) = 0 from rfl, show (some n : Option Int).getD 0 = n from rfl]
    clear hw
    go_enter Try.func20, Try.ntmps20
    go_wp2_with (first | (go_at_call 32; refine (H.out.alm _).mono ?_; rintro e w1 ⟨A, rfl, hA, hE, hb1⟩) | (go_at_call 33; refine (H.out.day _).mono ?_; rintro e w2 ⟨rfl, rfl⟩))
    go_ret2
    exact ⟨rfl, hb1⟩
  · rw [adjO_1]
    have HN := hideS (fun A wx => H.out.near 1 A wx (Or.inl rfl))
    generalize (srch (opB W rs) n 1).getD 0 = X at *
    generalize ansE (srch (opB W rs) n 1) = Z at *
    clear hw
    go_enter Try.func20, Try.ntmps20
    go_wp2_with (first | (go_at_call 32; refine (H.out.alm _).mono ?_; rintro e w1 ⟨A, rfl, hA, hE, hb1⟩) | (go_at_call 33; refine (H.out.day _).mono ?_; rintro e w2 ⟨rfl, rfl⟩) | (go_at_call 34; refine (HN.out _ _ hE).mono ?_; rintro e w3 ⟨rfl, _, hb3⟩))
    go_ret2
    exact ⟨rfl, hb1.trans (hb3.mono hA)⟩
  · rw [adjO_2]
    have HN := hideS (fun A wx => H.out.near (-1) A wx (Or.inr rfl))
    generalize (srch (opB W rs) n (-1)).getD 0 = X at *
    generalize ansE (srch (opB W rs) n (-1)) = Z at *
    clear hw
    go_enter Try.func20, Try.ntmps20
    go_wp2_with (first | (go_at_call 32; refine (H.out.alm _).mono ?_; rintro e w1 ⟨A, rfl, hA, hE, hb1⟩) | (go_at_call 33; refine (H.out.day _).mono ?_; rintro e w2 ⟨rfl, rfl⟩) | (go_at_call 34; refine (HN.out _ _ hE).mono ?_; rintro e w3 ⟨rfl, _, hb3⟩))
    go_ret2
    exact ⟨rfl, hb1.trans (hb3.mono hA)⟩
  · rw [adjO_3]
    have HN := hideS (fun A wx => H.out.nom 1 A wx (Or.inl rfl))
    generalize (nomO (opB W rs) n 1).getD 0 = X at *
    generalize ansE (nomO (opB W rs) n 1) = Z at *
    clear hw
    go_enter Try.func20, Try.ntmps20
    go_wp2_with (first | (go_at_call 32; refine (H.out.alm _).mono ?_; rintro e w1 ⟨A, rfl, hA, hE, hb1⟩) | (go_at_call 33; refine (H.out.day _).mono ?_; rintro e w2 ⟨rfl, rfl⟩) | (go_at_call 35; refine (HN.out _ _ hE).mono ?_; rintro e w3 ⟨rfl, _, hb3⟩))
    go_ret2
    exact ⟨rfl, hb1.trans (hb3.mono hA)⟩
  · rw [adjO_4]
    have HN := hideS (fun A wx => H.out.nom (-1) A wx (Or.inr rfl))
    generalize (nomO (opB W rs) n (-1)).getD 0 = X at *
    generalize ansE (nomO (opB W rs) n (-1)) = Z at *
    clear hw
    go_enter Try.func20, Try.ntmps20
    go_wp2_with (first | (go_at_call 32; refine (H.out.alm _).mono ?_; rintro e w1 ⟨A, rfl, hA, hE, hb1⟩) | (go_at_call 33; refine (H.out.day _).mono ?_; rintro e w2 ⟨rfl, rfl⟩) | (go_at_call 35; refine (HN.out _ _ hE).mono ?_; rintro e w3 ⟨rfl, _, hb3⟩))
    go_ret2
    exact ⟨rfl, hb1.trans (hb3.mono hA)⟩

set_option maxHeartbeats 1600000 in
theorem adjP_bad (W n way : Int) (p : Option Addr) (b off c : Nat) (rs : List Rul) (A B E : Int) (w : World) (h : ChkR W rs A B) (hs : RSrc w p b off rs) (hl : rs.length ≤ 9223372036854775807)
    (hE : (A ≠ 0 ∧ E = A) ∨ (A = 0 ∧ ¬ (0 ≤ way ∧ way ≤ 4) ∧ E = 90) ∨ (A = 0 ∧ (0 ≤ way ∧ way ≤ 4) ∧ ¬ isDayP n ∧ E = 51)) :
    Calls Try.prog 20 #[.agg #[.int .i64 W, .slice p rs.length c], .int .i64 n, .int .i64 way] w fun e w' => e = .returned (.tuple #[.int .i64 0, .int .i64 E]) ∧ Below w.heap.size w w' := by
  have hb0 : ∀ o, Below w.heap.size w (w.alloc o) := fun o => (Below.refl w.heap.size w).alloc (Nat.le_refl _) _
  by_cases hA : A = 0
  · subst hA
    obtain ⟨hok, rfl⟩ := chk_ok h
    have HA : Hid (∀ o, Calls Try.prog 32 #[.agg #[.int .i64 W, .slice p rs.length c], .slice none 0 0] (w.alloc o) fun e w' => ∃ A, e = .returned (.tuple #[.pointer (some ⟨A, 0, none⟩), .int .i64 0]) ∧ w.heap.size ≤ A ∧ AlmE A W p b off c rs w' ∧ Below w.heap.size w w') := fun o => by
      refine (almOf_ok W p none b off c 0 0 0 rs [] _ hok (hs.below (hb0 o)) rfl (days_none _ _) (by omega) (fun j hj => by omega)).mono ?_
      rintro e w' ⟨A, he, hA, hE, hb⟩
      exact ⟨A, he, Nat.le_trans (hb0 o).size hA, hE, (hb0 o).trans (hb.mono (hb0 o).size)⟩
    generalize rs.length = N at *
    clear h hs hl hok hb0
    rcases hE with ⟨a, _⟩ | ⟨_, a, rfl⟩ | ⟨_, a, a2, rfl⟩
    · exact absurd rfl a
    · rcases (show way < 0 ∨ (¬ way < 0 ∧ 4 < way) by omega) with h1 | ⟨h1, h2⟩
      all_goals
        clear a
        go_enter Try.func20, Try.ntmps20
        go_wp2_with (go_at_call 32; refine (HA.out _).mono ?_; rintro e w1 ⟨A, rfl, hA, hE, hb1⟩)
        go_ret2
        exact ⟨rfl, hb1⟩
    · have HD := hideS (fun wx => turnedQ (isDay6_any n wx))
      rw [decide_eq_false a2] at HD
      obtain ⟨h1, h2⟩ := a
      have h1' : ¬ way < 0 := by omega
      have h2' : ¬ 4 < way := by omega
      clear a2
      go_enter Try.func20, Try.ntmps20
      go_wp2_with (first | (go_at_call 32; refine (HA.out _).mono ?_; rintro e w1 ⟨A, rfl, hA, hE, hb1⟩) | (go_at_call 33; refine (HD.out _).mono ?_; rintro e w2 ⟨rfl, rfl⟩))
      go_ret2
      exact ⟨rfl, hb1⟩
  · have HA : Hid (∀ o, Calls Try.prog 32 #[.agg #[.int .i64 W, .slice p rs.length c], .slice none 0 0] (w.alloc o) fun e w' => e = .returned (.tuple #[.pointer none, .int .i64 A]) ∧ Below w.heap.size w w') := fun o => by
      have := almOf_bad W p none b off c 0 0 0 rs [] A B _ h (hs.below (hb0 o)) hl rfl (days_none _ _) (by omega) (Or.inl hA)
      rw [if_pos hA] at this
      exact this.mono fun e w' ⟨he, hb⟩ => ⟨he, (hb0 o).trans (hb.mono (hb0 o).size)⟩
    have hA' : (A != 0) = true := bne_iff_ne.2 hA
    obtain rfl : E = A := by
      rcases hE with ⟨_, a⟩ | ⟨a, _⟩ | ⟨a, _⟩
      · exact a
      · exact absurd a hA
      · exact absurd a hA
    generalize rs.length = N at *
    clear h hs hl hb0 hE hA
    go_enter Try.func20, Try.ntmps20
    go_wp2_with (go_at_call 32; refine (HA.out _).mono ?_; rintro e w1 ⟨rfl, hb1⟩)
    go_ret2
    exact ⟨rfl, hb1⟩

set_option maxHeartbeats 800000 in
theorem addP_zero (W n : Int) (v : Value) (x e0 : Int) (w : World) (H : Hid (∀ wx, Below w.heap.size w wx → Calls Try.prog 20 #[.agg #[.int .i64 W, v], .int .i64 n, .int .i64 1] wx fun e w' => e = .returned (.tuple #[.int .i64 x, .int .i64 e0]) ∧ Below wx.heap.size wx w')) :
    Calls Try.prog 36 #[.agg #[.int .i64 W, v], .int .i64 n, .int .i64 0] w fun e w' => e = .returned (.tuple #[.int .i64 x, .int .i64 e0]) ∧ Below w.heap.size w w' := by
  have HB0 : Hid (Below w.heap.size w (w.alloc (.cells #[.int .i64 W, v] 24))) := (Below.refl w.heap.size w).alloc (Nat.le_refl _) _
  go_enter Try.func36, Try.ntmps36
  go_wp2_with (go_at_call 20; refine (H.out _ HB0.out).mono ?_; rintro e w1 ⟨rfl, hb1⟩)
  go_ret2
  exact ⟨rfl, HB0.out.trans (hb1.mono HB0.out.size)⟩

theorem alm_ok1 (W n : Int) (p : Option Addr) (b off c : Nat) (rs : List Rul) (w : World) (h : OkC W rs) (hs : RSrc w p b off rs) (hn : isDayP n) (o : Obj) :
    Calls Try.prog 32 #[.agg #[.int .i64 W, .slice p rs.length c], .slice (some ⟨w.heap.size + 1, 0, none⟩) 1 1] ((w.alloc o).alloc (.cells #[.int .i64 n] 3)) fun e w' => ∃ A, e = .returned (.tuple #[.pointer (some ⟨A, 0, none⟩), .int .i64 0]) ∧ w.heap.size ≤ A ∧ AlmE A W p b off c rs w' ∧ Below w.heap.size w w' := by
  refine (almOf_ok W p _ b off c (w.heap.size + 1) 1 1 rs [n] _ h (hs.below (below2 w o _)) rfl (days_one w o n) (by omega) (one_day hn)).mono ?_
  rintro e w' ⟨A, he, hA, hE, hb⟩
  have := (below2 w o (.cells #[.int .i64 n] 3)).size
  exact ⟨A, he, Nat.le_trans this hA, hE, (below2 w o _).trans (hb.mono this)⟩

set_option maxHeartbeats 800000 in
theorem addP_ok (W n k : Int) (p : Option Addr) (b off c : Nat) (rs : List Rul) (w : World) (h : OkC W rs) (hs : RSrc w p b off rs) (hn : isDayP n) (hk : k ≠ 0) (k0 : -9223372036854775808 ≤ k) (k1 : k ≤ 9223372036854775807) :
    Calls Try.prog 36 #[.agg #[.int .i64 W, .slice p rs.length c], .int .i64 n, .int .i64 k] w fun e w' => e = .returned (.tuple #[.int .i64 ((addO (opB W rs) (if k < 0 then -1 else 1) k.natAbs n).getD 0), .int .i64 (ansE (addO (opB W rs) (if k < 0 then -1 else 1) k.natAbs n))]) ∧ Below w.heap.size w w' := by
  have HA := hideS (fun o => alm_ok1 W n p b off c rs w h hs hn o)
  have HW : Hid (∀ A wx, AlmE A W p b off c rs wx → Calls Try.prog 55 #[.pointer (some ⟨A, 0, none⟩), .int .i64 n, .int .i64 k] wx fun e w' => e = .returned (.tuple #[.int .i64 ((addO (opB W rs) (if k < 0 then -1 else 1) k.natAbs n).getD 0), .int .i64 (ansE (addO (opB W rs) (if k < 0 then -1 else 1) k.natAbs n))]) ∧ AlmE A W p b off c rs w' ∧ Below A wx w') := fun A wx hE => walk_any A _ _ n k _ wx (opH A W p b off c rs) hE hn hk k0 k1 rfl
  generalize (addO (opB W rs) (if k < 0 then -1 else 1) k.natAbs n).getD 0 = X at *
  generalize ansE (addO (opB W rs) (if k < 0 then -1 else 1) k.natAbs n) = Z at *
  generalize rs.length = N at *
  have hk' : (k == 0) = false := beq_eq_false_iff_ne.2 hk
  clear h hs hn hk
  go_enter Try.func36, Try.ntmps36
  go_wp2_with (first | (go_at_call 32; refine (HA.out _).mono ?_; rintro e w1 ⟨A, rfl, hA, hE, hb1⟩) | (go_at_call 55; refine (HW.out _ _ hE).mono ?_; rintro e w2 ⟨rfl, _, hb2⟩))
  go_ret2
  exact ⟨rfl, hb1.trans (hb2.mono hA)⟩

set_option maxHeartbeats 800000 in
theorem addP_bad (W n k : Int) (p : Option Addr) (b off c : Nat) (rs : List Rul) (A B : Int) (w : World) (h : ChkR W rs A B) (hs : RSrc w p b off rs) (hl : rs.length ≤ 9223372036854775807) (hk : k ≠ 0) (hbad : A ≠ 0 ∨ ¬ isDayP n) :
    Calls Try.prog 36 #[.agg #[.int .i64 W, .slice p rs.length c], .int .i64 n, .int .i64 k] w fun e w' => e = .returned (.tuple #[.int .i64 0, .int .i64 (if A ≠ 0 then A else 51)]) ∧ Below w.heap.size w w' := by
  have HA := hideS (fun o => alm_err1 W n p b off c rs A B w h hs hl hbad o)
  have hne : (if A ≠ 0 then A else 51) ≠ 0 := by split <;> omega
  generalize (if A ≠ 0 then A else 51) = E at *
  generalize rs.length = N at *
  have hne' : (E != 0) = true := bne_iff_ne.2 hne
  have hk' : (k == 0) = false := beq_eq_false_iff_ne.2 hk
  clear h hs hl hbad hne hk
  go_enter Try.func36, Try.ntmps36
  go_wp2_with (go_at_call 32; refine (HA.out _).mono ?_; rintro e w1 ⟨rfl, hb1⟩)
  go_ret2
  exact ⟨rfl, hb1⟩

theorem alm_ok2 (W x y : Int) (p : Option Addr) (b off c : Nat) (rs : List Rul) (w : World) (h : OkC W rs) (hs : RSrc w p b off rs) (hx : isDayP x) (hy : isDayP y) (o : Obj) :
    Calls Try.prog 32 #[.agg #[.int .i64 W, .slice p rs.length c], .slice (some ⟨w.heap.size + 1, 0, none⟩) 2 2] ((w.alloc o).alloc (.cells #[.int .i64 x, .int .i64 y] 3)) fun e w' => ∃ A, e = .returned (.tuple #[.pointer (some ⟨A, 0, none⟩), .int .i64 0]) ∧ w.heap.size ≤ A ∧ AlmE A W p b off c rs w' ∧ Below w.heap.size w w' := by
  refine (almOf_ok W p _ b off c (w.heap.size + 1) 2 2 rs [x, y] _ h (hs.below (below2 w o _)) rfl (days_two w o x y) (by omega) (two_day hx hy)).mono ?_
  rintro e w' ⟨A, he, hA, hE, hb⟩
  have := (below2 w o (.cells #[.int .i64 x, .int .i64 y] 3)).size
  exact ⟨A, he, Nat.le_trans this hA, hE, (below2 w o _).trans (hb.mono this)⟩
end Go.Proofs.Ytelghkhcplmnmaa
