/- The contract of the program's Check. The almanac in memory. -/
import Derived.Test.YtelghkhcplmnmaaHau
import Derived.Deep.OwnRows
namespace Go.Proofs.Ytelghkhcplmnmaa
open Go.RowKit

def CBoxP (w : World) (W : Int) (v : Value) (wr : World) : Prop := Below (w.heap.size + 1) (w.alloc (.cells #[.int .i64 W, v] 24)) wr
theorem CBoxP.cells {w w1 : World} {W : Int} {v : Value} (hb : CBoxP w W v w1) :
    w1.cell? ⟨w.heap.size, 0, none⟩ = some (.int .i64 W) ∧ w1.cell? ⟨w.heap.size, 1, none⟩ = some v := by
  refine ⟨?_, ?_⟩
  · rw [Below.cell hb (p := ⟨w.heap.size, 0, none⟩) (by simp)]; simp
  · rw [Below.cell hb (p := ⟨w.heap.size, 1, none⟩) (by simp)]; simp
theorem CBoxP.step {w wr w' : World} {W : Int} {v : Value} (h : CBoxP w W v wr) (hb : Below wr.heap.size wr w') : CBoxP w W v w' :=
  Below.trans h (hb.mono (by have := Below.size h; simp at this; omega))
theorem CBoxP.below {w wr : World} {W : Int} {v : Value} (h : CBoxP w W v wr) : Below w.heap.size w wr :=
  ((Below.refl w.heap.size w).alloc (Nat.le_refl _) _).trans (Below.mono h (by omega))
theorem CBoxP.first {w w' : World} {W : Int} {v : Value} (hb : Below (w.alloc (.cells #[.int .i64 W, v] 24)).heap.size (w.alloc (.cells #[.int .i64 W, v] 24)) w') : CBoxP w W v w' :=
  hb.mono (by simp)
theorem below3 {wr w2 w3 : World} {o : Obj} (h2 : Below (wr.alloc o).heap.size (wr.alloc o) w2) (h3 : Below w2.heap.size w2 w3) : Below wr.heap.size wr w3 :=
  (((Below.refl wr.heap.size wr).alloc (Nat.le_refl _) o).trans (h2.mono (by simp))).trans (h3.mono (by have := h2.size; simp at this; omega))

set_option maxHeartbeats 3200000 in
theorem check_loop (W : Int) (p : Option Addr) (b off c : Nat) (rs : List Rul) (K : Nat) (A B : Int) (w : World) (w0 : 0 ≤ W ∧ W ≤ 126) (hs : RSrc w p b off rs) (hl : rs.length ≤ 64) (hK : K ≤ rs.length) (hf : ∀ j < K, fitB (rs.getD j rul0) = true)
    (hE : (K = rs.length ∧ A = 0 ∧ B = 0) ∨ (K < rs.length ∧ fitB (rs.getD K rul0) = false ∧ A = 60 ∧ B = K)) :
    Calls Try.prog 30 #[.agg #[.int .i64 W, .slice p rs.length c]] w fun e w' => e = .returned (.tuple #[.int .i64 A, .int .i64 B]) ∧ Below w.heap.size w w' := by
  obtain ⟨w0, w1⟩ := w0
  have w1' : ¬ 127 ≤ W := by omega
  have HS := hideS hs
  have HF := hideS hf
  have HE := hideS hE
  clear hs hf hE
  obtain ⟨N, hN⟩ : ∃ N, rs.length = N := ⟨_, rfl⟩
  have HN := hideS hN
  rw [hN] at hl hK ⊢
  rw [hN] at HE
  clear hN
  go_enter Try.func30, Try.ntmps30
  go_wp2_with fail
  have HB0 : Hid (CBoxP w W (.slice p N c) (w.alloc (.cells #[.int .i64 W, .slice p N c] 24))) := Below.refl _ _
  go_loopw [21] (fun i wr => ∃ (k : Nat), k ≤ K ∧ i = .int .i64 k ∧ Hid (CBoxP w W (.slice p N c) wr)) (fun i _ => N - (intOf i).toNat)
  case atStart => exact ⟨0, by omega, rfl, HB0⟩
  case round =>
    obtain ⟨k, hk, rfl, HB⟩ := hrel
    by_cases hlt : k < N
    · have hx : k < rs.length := by rw [HN.out]; exact hlt
      obtain rfl := HS.out.at_ (by omega)
      have hrc := (HS.out.cell k hx).below HB.out.below (HS.out.lt (by omega))
      have hft := HF.out k
      have hEE : k < K ∨ (fitB (rs.getD k rul0) = false ∧ A = 60 ∧ B = k) := by
        by_cases hkK : k < K
        · exact Or.inl hkK
        · obtain rfl : k = K := by omega
          rcases HE.out with ⟨a, _⟩ | ⟨_, a⟩
          · omega
          · exact Or.inr a
      generalize rs.getD k rul0 = r at hrc hft hEE
      clear hx
      obtain ⟨g0, g1, g2, g3, g4, g5, g6, g7, g8⟩ := hrc
      have key : ∀ R, fitB r = R → (k < K ∧ R = true) ∨ (R = false ∧ A = 60 ∧ B = k) := fun R hR => by
        rw [← hR]
        by_cases a : k < K
        · exact Or.inl ⟨a, hft a⟩
        · rcases hEE with b | b
          · exact absurd b a
          · exact Or.inr b
      clear hft hEE
      have HKey := hideS key
      clear key
      obtain ⟨kind, mon, day, nth, wd, offs, fr, to, mv⟩ := r
      dsimp only at *
      by_cases hkd : kind = 1 ∨ kind = 2 ∨ kind = 3 ∨ kind = 4
      · rcases hkd with rfl | rfl | rfl | rfl
        · have HH := hideS (fun wx => (holidayOf_any 1 mon day nth wd offs fr to mv wx (by omega) : Calls Try.prog 52 _ wx fun e w' => e = .returned (.iface 97 _) ∧ Below wx.heap.size wx w'))
          have HM := hideS (fun wx => may1_any mon day nth wd offs fr to mv wx)
          obtain ⟨R, hR⟩ : ∃ R, fitB ⟨1, mon, day, nth, wd, offs, fr, to, mv⟩ = R := ⟨_, rfl⟩
          have hKK := HKey.out R hR
          rw [hR] at HM
          clear hR HKey
          rcases hKK with ⟨a, rfl⟩ | ⟨rfl, a⟩
          · go_wp2_with (first | (go_at_call 52; refine (HH.out _).mono ?_; rintro e w2 ⟨rfl, hb2⟩) | (go_at_call 101; refine (HM.out _).mono ?_; rintro e w3 ⟨rfl, hb3⟩))
            have HB2 := hideS (HB.out.step (below3 hb2 hb3))
            clear hb2 hb3
            go_roundw
            case rel => exact ⟨k + 1, by omega, by go_num, HB2⟩
            case measure => simp [intOf]; omega
          · have HA := hideS a
            clear a
            go_wp2_with (first | (go_at_call 52; refine (HH.out _).mono ?_; rintro e w2 ⟨rfl, hb2⟩) | (go_at_call 101; refine (HM.out _).mono ?_; rintro e w3 ⟨rfl, hb3⟩))
            go_ret2
            obtain ⟨rfl, rfl⟩ := HA.out
            exact ⟨rfl, (HB.out.step (below3 hb2 hb3)).below⟩
        · have HH := hideS (fun wx => (holidayOf_any 2 mon day nth wd offs fr to mv wx (by omega) : Calls Try.prog 52 _ wx fun e w' => e = .returned (.iface 98 _) ∧ Below wx.heap.size wx w'))
          have HM := hideS (fun wx => may2_any mon day nth wd offs fr to mv wx)
          obtain ⟨R, hR⟩ : ∃ R, fitB ⟨2, mon, day, nth, wd, offs, fr, to, mv⟩ = R := ⟨_, rfl⟩
          have hKK := HKey.out R hR
          rw [hR] at HM
          clear hR HKey
          rcases hKK with ⟨a, rfl⟩ | ⟨rfl, a⟩
          · go_wp2_with (first | (go_at_call 52; refine (HH.out _).mono ?_; rintro e w2 ⟨rfl, hb2⟩) | (go_at_call 104; refine (HM.out _).mono ?_; rintro e w3 ⟨rfl, hb3⟩))
            have HB2 := hideS (HB.out.step (below3 hb2 hb3))
            clear hb2 hb3
            go_roundw
            case rel => exact ⟨k + 1, by omega, by go_num, HB2⟩
            case measure => simp [intOf]; omega
          · have HA := hideS a
            clear a
            go_wp2_with (first | (go_at_call 52; refine (HH.out _).mono ?_; rintro e w2 ⟨rfl, hb2⟩) | (go_at_call 104; refine (HM.out _).mono ?_; rintro e w3 ⟨rfl, hb3⟩))
            go_ret2
            obtain ⟨rfl, rfl⟩ := HA.out
            exact ⟨rfl, (HB.out.step (below3 hb2 hb3)).below⟩
        · have HH := hideS (fun wx => (holidayOf_any 3 mon day nth wd offs fr to mv wx (by omega) : Calls Try.prog 52 _ wx fun e w' => e = .returned (.iface 99 _) ∧ Below wx.heap.size wx w'))
          have HM := hideS (fun wx => may3_any mon day nth wd offs fr to mv wx)
          obtain ⟨R, hR⟩ : ∃ R, fitB ⟨3, mon, day, nth, wd, offs, fr, to, mv⟩ = R := ⟨_, rfl⟩
          have hKK := HKey.out R hR
          rw [hR] at HM
          clear hR HKey
          rcases hKK with ⟨a, rfl⟩ | ⟨rfl, a⟩
          · go_wp2_with (first | (go_at_call 52; refine (HH.out _).mono ?_; rintro e w2 ⟨rfl, hb2⟩) | (go_at_call 106; refine (HM.out _).mono ?_; rintro e w3 ⟨rfl, hb3⟩))
            have HB2 := hideS (HB.out.step (below3 hb2 hb3))
            clear hb2 hb3
            go_roundw
            case rel => exact ⟨k + 1, by omega, by go_num, HB2⟩
            case measure => simp [intOf]; omega
          · have HA := hideS a
            clear a
            go_wp2_with (first | (go_at_call 52; refine (HH.out _).mono ?_; rintro e w2 ⟨rfl, hb2⟩) | (go_at_call 106; refine (HM.out _).mono ?_; rintro e w3 ⟨rfl, hb3⟩))
            go_ret2
            obtain ⟨rfl, rfl⟩ := HA.out
            exact ⟨rfl, (HB.out.step (below3 hb2 hb3)).below⟩
        · have HH := hideS (fun wx => (holidayOf_any 4 mon day nth wd offs fr to mv wx (by omega) : Calls Try.prog 52 _ wx fun e w' => e = .returned (.iface 100 _) ∧ Below wx.heap.size wx w'))
          have HM := hideS (fun wx => may4_any mon day nth wd offs fr to mv wx)
          obtain ⟨R, hR⟩ : ∃ R, fitB ⟨4, mon, day, nth, wd, offs, fr, to, mv⟩ = R := ⟨_, rfl⟩
          have hKK := HKey.out R hR
          rw [hR] at HM
          clear hR HKey
          rcases hKK with ⟨a, rfl⟩ | ⟨rfl, a⟩
          · go_wp2_with (first | (go_at_call 52; refine (HH.out _).mono ?_; rintro e w2 ⟨rfl, hb2⟩) | (go_at_call 110; refine (HM.out _).mono ?_; rintro e w3 ⟨rfl, hb3⟩))
            have HB2 := hideS (HB.out.step (below3 hb2 hb3))
            clear hb2 hb3
            go_roundw
            case rel => exact ⟨k + 1, by omega, by go_num, HB2⟩
            case measure => simp [intOf]; omega
          · have HA := hideS a
            clear a
            go_wp2_with (first | (go_at_call 52; refine (HH.out _).mono ?_; rintro e w2 ⟨rfl, hb2⟩) | (go_at_call 110; refine (HM.out _).mono ?_; rintro e w3 ⟨rfl, hb3⟩))
            go_ret2
            obtain ⟨rfl, rfl⟩ := HA.out
            exact ⟨rfl, (HB.out.step (below3 hb2 hb3)).below⟩
      · have HH := hideS (fun wx => holidayOf_none kind mon day nth wd offs fr to mv wx hkd)
        have HM := hideS (fun wx => may0_any wx)
        have HA : Hid (A = 60 ∧ B = k) := by
          rcases HKey.out _ (fit_no (fun a => hkd (by omega)) (fun a => hkd (by omega)) (fun a => hkd (by omega)) (fun a => hkd (by omega))) with ⟨_, a⟩ | ⟨_, a⟩
          · exact Bool.noConfusion a
          · exact a
        clear HKey hkd
        go_wp2_with (first | (go_at_call 52; refine (HH.out _).mono ?_; rintro e w2 ⟨rfl, hb2⟩) | (go_at_call 112; refine (HM.out _).mono ?_; rintro e w3 ⟨rfl, hb3⟩))
        go_ret2
        obtain ⟨rfl, rfl⟩ := HA.out
        exact ⟨rfl, (HB.out.step (below3 hb2 hb3)).below⟩
    · have HA : Hid (A = 0 ∧ B = 0) := by
        rcases HE.out with ⟨_, a⟩ | ⟨a, _⟩
        · exact a
        · omega
      have hge : ¬ (k : Int) < N := by omega
      go_wp2_with fail
      go_ret2
      obtain ⟨rfl, rfl⟩ := HA.out
      exact ⟨rfl, HB.out.below⟩

set_option maxHeartbeats 400000 in
theorem check_any (W : Int) (p : Option Addr) (b off c : Nat) (rs : List Rul) (A B : Int) (w : World) (h : ChkR W rs A B) (hs : RSrc w p b off rs) (hl : rs.length ≤ 9223372036854775807) :
    Calls Try.prog 30 #[.agg #[.int .i64 W, .slice p rs.length c]] w fun e w' => e = .returned (.tuple #[.int .i64 A, .int .i64 B]) ∧ Below w.heap.size w w' := by
  cases h with
  | long h =>
    generalize rs.length = N at *
    have h' : (64 : Int) < N := by omega
    clear hs h
    go_enter Try.func30, Try.ntmps30
    go_wp2_with fail
    go_ret2
    exact ⟨rfl, (Below.refl w.heap.size w).alloc (Nat.le_refl _) _⟩
  | week h h2 =>
    generalize rs.length = N at *
    have h' : ¬ (64 : Int) < N := by omega
    clear hs h
    rcases (show W < 0 ∨ (¬ W < 0 ∧ 127 ≤ W) by omega) with a | ⟨a, a2⟩
    all_goals
      clear h2
      go_enter Try.func30, Try.ntmps30
      go_wp2_with fail
      go_ret2
      exact ⟨rfl, (Below.refl w.heap.size w).alloc (Nat.le_refl _) _⟩
  | rule k h1 h2 h3 h4 h5 => exact check_loop W p b off c rs k 60 k w h2 hs h1 (by omega) h5 (Or.inr ⟨h3, h4, rfl, rfl⟩)
  | ok h => exact check_loop W p b off c rs rs.length 0 0 w ⟨h.w0, h.w1⟩ hs h.len (Nat.le_refl _) (fun j hj => h.fit _ (getD_mem hj)) (Or.inl ⟨rfl, rfl, rfl⟩)
end Go.Proofs.Ytelghkhcplmnmaa
namespace Go.Proofs.Ytelghkhcplmnmaa
open Go.RowKit

def almF (W : Int) (v : Value) (f l : Int) (m : Value) : Nat → Value
  | 0 => .int .i64 W
  | 1 => v
  | 2 => .int .i64 f
  | 3 => .int .i64 l
  | _ => m
theorem five {i : Nat} (h : i < 5) : i = 0 ∨ i = 1 ∨ i = 2 ∨ i = 3 ∨ i = 4 := by omega
/-- The almanac's five cells. -/
structure AlmC (w : World) (A : Nat) (W : Int) (v : Value) (f l : Int) (m : Value) : Prop where
  row : w.rowIs A 89 5 (almF W v f l m)
theorem AlmC.c0 {w : World} {A : Nat} {W : Int} {v : Value} {f l : Int} {m : Value} (h : AlmC w A W v f l m) : w.cell? ⟨A, 0, none⟩ = some (.int .i64 W) := h.row.cell (i := 0) (by omega)
theorem AlmC.c1 {w : World} {A : Nat} {W : Int} {v : Value} {f l : Int} {m : Value} (h : AlmC w A W v f l m) : w.cell? ⟨A, 1, none⟩ = some v := h.row.cell (i := 1) (by omega)
theorem AlmC.c2 {w : World} {A : Nat} {W : Int} {v : Value} {f l : Int} {m : Value} (h : AlmC w A W v f l m) : w.cell? ⟨A, 2, none⟩ = some (.int .i64 f) := h.row.cell (i := 2) (by omega)
theorem AlmC.c3 {w : World} {A : Nat} {W : Int} {v : Value} {f l : Int} {m : Value} (h : AlmC w A W v f l m) : w.cell? ⟨A, 3, none⟩ = some (.int .i64 l) := h.row.cell (i := 3) (by omega)
theorem AlmC.c4 {w : World} {A : Nat} {W : Int} {v : Value} {f l : Int} {m : Value} (h : AlmC w A W v f l m) : w.cell? ⟨A, 4, none⟩ = some m := h.row.cell (i := 4) (by omega)
theorem AlmC.fz {w : World} {A : Nat} {W : Int} {v : Value} {f l : Int} {m : Value} (h : AlmC w A W v f l m) (i : Nat) : w.frozen? ⟨A, i, none⟩ = false := h.row.frozen i
theorem AlmC.lt {w : World} {A : Nat} {W : Int} {v : Value} {f l : Int} {m : Value} (h : AlmC w A W v f l m) : A < w.heap.size := h.row.lt
theorem AlmC.set2 {w : World} {A : Nat} {W : Int} {v : Value} {f l : Int} {m : Value} (h : AlmC w A W v f l m) (x : Int) : AlmC (w.setCell ⟨A, 2, none⟩ (.int .i64 x)) A W v x l m :=
  ⟨(h.row.set 2 (.int .i64 x)).congr fun i hi => by rcases five hi with rfl | rfl | rfl | rfl | rfl <;> rfl⟩
theorem AlmC.set3 {w : World} {A : Nat} {W : Int} {v : Value} {f l : Int} {m : Value} (h : AlmC w A W v f l m) (x : Int) : AlmC (w.setCell ⟨A, 3, none⟩ (.int .i64 x)) A W v f x m :=
  ⟨(h.row.set 3 (.int .i64 x)).congr fun i hi => by rcases five hi with rfl | rfl | rfl | rfl | rfl <;> rfl⟩
theorem AlmC.set4 {w : World} {A : Nat} {W : Int} {v : Value} {f l : Int} {m : Value} (h : AlmC w A W v f l m) (x : Value) : AlmC (w.setCell ⟨A, 4, none⟩ x) A W v f l x :=
  ⟨(h.row.set 4 x).congr fun i hi => by rcases five hi with rfl | rfl | rfl | rfl | rfl <;> rfl⟩
theorem AlmC.below {w w' : World} {A B : Nat} {W : Int} {v : Value} {f l : Int} {m : Value} (h : AlmC w A W v f l m) (hb : Below B w w') (hB : A < B) : AlmC w' A W v f l m := ⟨h.row.of_block (hb.block A hB)⟩
theorem AlmC.alloc {w : World} {A : Nat} {W : Int} {v : Value} {f l : Int} {m : Value} (h : AlmC w A W v f l m) (o : Obj) : AlmC (w.alloc o) A W v f l m := ⟨h.row.alloc o⟩
theorem AlmC.other {w : World} {A : Nat} {W : Int} {v : Value} {f l : Int} {m : Value} (h : AlmC w A W v f l m) {a : Addr} (ha : A ≠ a.block) (u : Value) : AlmC (w.setCell a u) A W v f l m := ⟨h.row.setOther ha u⟩

/-- The almanac while a year is marked. -/
structure MK (w : World) (A : Nat) (W : Int) (v : Value) (f l : Int) (bm L : Nat) (F : Nat → Bool) (wr : World) : Prop where
  alm : AlmC wr A W v f l (.slice (some ⟨bm, 0, none⟩) L L)
  row : wr.rowIs bm 4 L (fun i => .bool (F i))
  low : Below A w wr
  lt : A < bm
theorem MK.step {w wr w' : World} {A : Nat} {W : Int} {v : Value} {f l : Int} {bm L : Nat} {F : Nat → Bool} (h : MK w A W v f l bm L F wr) (hb : Below wr.heap.size wr w') : MK w A W v f l bm L F w' :=
  ⟨h.alm.below hb h.alm.lt, h.row.of_block (hb.block bm h.row.lt), h.low.trans (hb.mono (Nat.le_of_lt h.alm.lt)), h.lt⟩
theorem MK.congr {w wr : World} {A : Nat} {W : Int} {v : Value} {f l : Int} {bm L : Nat} {F G : Nat → Bool} (h : MK w A W v f l bm L F wr) (e : ∀ i < L, F i = G i) : MK w A W v f l bm L G wr :=
  ⟨h.alm, h.row.congr (fun i hi => by rw [e i hi]), h.low, h.lt⟩
theorem MK.set {w wr : World} {A : Nat} {W : Int} {v : Value} {f l : Int} {bm L : Nat} {F : Nat → Bool} (h : MK w A W v f l bm L F wr) (i : Nat) : MK w A W v f l bm L (fun j => F j || decide (j = i)) (wr.setCell ⟨bm, i, none⟩ (.bool true)) :=
  ⟨h.alm.other (a := ⟨bm, i, none⟩) (by have := h.lt; show A ≠ bm; omega) _, (h.row.set i (.bool true)).congr (fun j _ => by
    by_cases e : j = i
    · rw [if_pos e, decide_eq_true e, Bool.or_true]
    · rw [if_neg e, decide_eq_false e, Bool.or_false]), h.low.setCell (p := ⟨bm, i, none⟩) (Nat.le_of_lt h.lt) _, h.lt⟩
theorem MK.drewN {w wr : World} {A : Nat} {W : Int} {v : Value} {f l : Int} {bm L : Nat} {F : Nat → Bool} (h : MK w A W v f l bm L F wr) (n : Nat) : MK w A W v f l bm L F (wr.drewN n) :=
  ⟨⟨h.alm.row⟩, h.row, below_drewN' h.low, h.lt⟩
/-- The same, with the rule's box. -/
structure MK2 (w : World) (A : Nat) (W : Int) (v : Value) (f l : Int) (bm L : Nat) (F : Nat → Bool) (b9 : Nat) (mv : Int) (wr : World) : Prop where
  one : MK w A W v f l bm L F wr
  c8 : wr.cell? ⟨b9, 8, none⟩ = some (.int .i64 mv)
  lt9 : b9 < wr.heap.size
  ne9 : b9 ≠ bm
theorem MK2.step {w wr w' : World} {A : Nat} {W : Int} {v : Value} {f l : Int} {bm L : Nat} {F : Nat → Bool} {b9 : Nat} {mv : Int} (h : MK2 w A W v f l bm L F b9 mv wr) (hb : Below wr.heap.size wr w') : MK2 w A W v f l bm L F b9 mv w' :=
  ⟨h.one.step hb, (hb.cell (p := ⟨b9, 8, none⟩) h.lt9).trans h.c8, Nat.lt_of_lt_of_le h.lt9 hb.size, h.ne9⟩
theorem MK2.congr {w wr : World} {A : Nat} {W : Int} {v : Value} {f l : Int} {bm L : Nat} {F G : Nat → Bool} {b9 : Nat} {mv : Int} (h : MK2 w A W v f l bm L F b9 mv wr) (e : ∀ i < L, F i = G i) : MK2 w A W v f l bm L G b9 mv wr :=
  ⟨h.one.congr e, h.c8, h.lt9, h.ne9⟩
theorem MK2.set {w wr : World} {A : Nat} {W : Int} {v : Value} {f l : Int} {bm L : Nat} {F : Nat → Bool} {b9 : Nat} {mv : Int} (h : MK2 w A W v f l bm L F b9 mv wr) (i : Nat) : MK2 w A W v f l bm L (fun j => F j || decide (j = i)) b9 mv (wr.setCell ⟨bm, i, none⟩ (.bool true)) :=
  ⟨h.one.set i, by
    have e : (wr.setCell ⟨bm, i, none⟩ (.bool true)).cell? ⟨b9, 8, none⟩ = wr.cell? ⟨b9, 8, none⟩ := World.cell?_of_block (w := wr) (Below.heap_setCell wr ⟨bm, i, none⟩ _ b9 h.ne9)
    rw [e]; exact h.c8, by simpa using h.lt9, h.ne9⟩
theorem MK2.drewN {w wr : World} {A : Nat} {W : Int} {v : Value} {f l : Int} {bm L : Nat} {F : Nat → Bool} {b9 : Nat} {mv : Int} (h : MK2 w A W v f l bm L F b9 mv wr) (n : Nat) : MK2 w A W v f l bm L F b9 mv (wr.drewN n) :=
  ⟨h.one.drewN n, h.c8, h.lt9, h.ne9⟩
theorem MK2.first {w wr : World} {A : Nat} {W : Int} {v : Value} {f l : Int} {bm L : Nat} {F : Nat → Bool} {kind mon day nth wd off fr to mv : Int} (h : MK w A W v f l bm L F wr) :
    MK2 w A W v f l bm L F wr.heap.size mv (wr.alloc (.cells #[.int .i64 kind, .int .i64 mon, .int .i64 day, .int .i64 nth, .int .i64 wd, .int .i64 off, .int .i64 fr, .int .i64 to, .int .i64 mv] 45)) :=
  ⟨h.step ((Below.refl _ wr).alloc (Nat.le_refl _) _), by simp, by simp, by have := h.row.lt; omega⟩
end Go.Proofs.Ytelghkhcplmnmaa
