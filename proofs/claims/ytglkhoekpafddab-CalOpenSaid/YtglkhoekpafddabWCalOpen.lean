/- The walk of CalOpen: an open day is told as itself; what Adjust tells is open, and no open day lies between. -/
import Derived.Test.YtglkhoekpafddabQFew
import Derived.Test.YtglkhoekpafddabQLaw
import Derived.Lib.MinMax
namespace Go.Proofs.Ytglkhoekpafddab
open Go.RowKit

set_option maxHeartbeats 1600000 in
theorem calOpen_skip (W n way E : Int) (B : Bool) (p : Option Addr) (N c : Nat) (w : World) (h2 : N ≤ 9223372036854775807)
    (HO : Hid (∀ wx, Below w.heap.size w wx → Calls Try.prog 6 #[.agg #[.int .i64 W, .slice p N c], .int .i64 n] wx fun e w' => e = .returned (.tuple #[.bool B, .int .i64 E]) ∧ Below wx.heap.size wx w'))
    (h : 12 < N ∨ (N ≤ 12 ∧ E ≠ 0) ∨ (N ≤ 12 ∧ E = 0 ∧ way < 0) ∨ (N ≤ 12 ∧ E = 0 ∧ ¬ way < 0 ∧ 4 < way)) :
    Calls Try.prog 3 #[.agg #[.int .i64 W, .slice p N c], .int .i64 n, .int .i64 way] w fun e w' => e = .returned (.bool true) ∧ Below w.heap.size w w' := by
  have HFw := hideS (fun wx => few_any W p N c wx h2)
  have HB0 : Hid (Below w.heap.size w (w.alloc (.cells #[.int .i64 W, .slice p N c] 24))) := (Below.refl w.heap.size w).alloc (Nat.le_refl _) _
  have h' : (decide (N ≤ 12) = false) ∨ (decide (N ≤ 12) = true ∧ (E != 0) = true) ∨ (decide (N ≤ 12) = true ∧ E = 0 ∧ way < 0) ∨ (decide (N ≤ 12) = true ∧ E = 0 ∧ ¬ way < 0 ∧ 4 < way) := by
    rcases h with a | ⟨a, b⟩ | ⟨a, b⟩ | ⟨a, b⟩
    · exact Or.inl (decide_eq_false (by omega))
    · exact Or.inr (Or.inl ⟨decide_eq_true a, bne_iff_ne.2 b⟩)
    · exact Or.inr (Or.inr (Or.inl ⟨decide_eq_true a, b⟩))
    · exact Or.inr (Or.inr (Or.inr ⟨decide_eq_true a, b⟩))
  clear h
  rcases h' with a | ⟨a, b⟩ | ⟨a, rfl, b⟩ | ⟨a, rfl, b, b2⟩
  all_goals
    rw [a] at HFw
    clear a
    go_enter Try.func3, Try.ntmps3
    go_wp2_with fail
    refine (HO.out _ HB0.out).mono ?_
    rintro e w1 ⟨rfl, hb1⟩
    have X1 := hideS (CBoxP.first hb1)
    clear hb1
    obtain ⟨c0, c1⟩ := X1.out.cells
    go_wp2_with fail
    refine (HFw.out _).mono ?_
    rintro e w2 ⟨rfl, hb2⟩
    have X2 := hideS (X1.out.step hb2)
    clear hb2
    go_wp2_with (go_at_call 8; refine (awake6 _).mono ?_; rintro e w3 ⟨rfl, hb3⟩)
    go_ret
    exact ⟨rfl, (X2.out.step hb3).below⟩

set_option maxHeartbeats 1600000 in
theorem calOpen_flat (W n way X E : Int) (B : Bool) (p : Option Addr) (N c : Nat) (w : World) (hN : N ≤ 12) (w0 : 0 ≤ way) (w4 : way ≤ 4)
    (HO : Hid (∀ wx, Below w.heap.size w wx → Calls Try.prog 6 #[.agg #[.int .i64 W, .slice p N c], .int .i64 n] wx fun e w' => e = .returned (.tuple #[.bool B, .int .i64 0]) ∧ Below wx.heap.size wx w'))
    (HA : Hid (∀ wx, Below w.heap.size w wx → Calls Try.prog 9 #[.agg #[.int .i64 W, .slice p N c], .int .i64 n, .int .i64 way] wx fun e w' => e = .returned (.tuple #[.int .i64 X, .int .i64 E]) ∧ Below wx.heap.size wx w'))
    (h : (E = 51 ∧ B = false ∧ (way != 0) = true) ∨ (E = 0 ∧ B = true ∧ X = n) ∨ (E = 0 ∧ B = false ∧ way = 0 ∧ X = n)) :
    Calls Try.prog 3 #[.agg #[.int .i64 W, .slice p N c], .int .i64 n, .int .i64 way] w fun e w' => e = .returned (.bool true) ∧ Below w.heap.size w w' := by
  have HFw := hideS (fun wx => few_any W p N c wx (by omega))
  rw [decide_eq_true hN] at HFw
  have HB0 : Hid (Below w.heap.size w (w.alloc (.cells #[.int .i64 W, .slice p N c] 24))) := (Below.refl w.heap.size w).alloc (Nat.le_refl _) _
  have h1 : ¬ way < 0 := by omega
  have h2 : ¬ 4 < way := by omega
  rcases h with ⟨rfl, rfl, h3⟩ | ⟨rfl, rfl, rfl⟩ | ⟨rfl, rfl, rfl, rfl⟩
  all_goals
    go_enter Try.func3, Try.ntmps3
    go_wp2_with fail
    refine (HO.out _ HB0.out).mono ?_
    rintro e w1 ⟨rfl, hb1⟩
    have X1 := hideS (CBoxP.first hb1)
    clear hb1
    obtain ⟨c0, c1⟩ := X1.out.cells
    go_wp2_with fail
    refine (HFw.out _).mono ?_
    rintro e w2 ⟨rfl, hb2⟩
    have X2 := hideS (X1.out.step hb2)
    clear hb2 c0 c1
    obtain ⟨c0, c1⟩ := X2.out.cells
    go_wp2_with fail
    refine (HA.out _ X2.out.below).mono ?_
    rintro e w3 ⟨rfl, hb3⟩
    have X3 := hideS (X2.out.step hb3)
    clear hb3 c0 c1
    go_wp2_with (go_at_call 8; refine (awake6 _).mono ?_; rintro e w4 ⟨rfl, hb4⟩)
    go_ret
    exact ⟨rfl, (X3.out.step hb4).below⟩

set_option maxHeartbeats 3200000 in
theorem calOpen_far (W n way x lo hi : Int) (op : Int → Bool) (p : Option Addr) (N c : Nat) (w : World) (hN : N ≤ 12) (hn : isDayP n) (hx : isDayP x) (hop : op x = true) (hno : op n = false) (hlo : min n x = lo) (hhi : max n x = hi) (hlt : lo < hi) (hbt : Hid (∀ i, lo < i → i < hi → isDayP i ∧ op i = false))
    (hw : (way = 1 ∧ n < x) ∨ (way = 2 ∧ x < n) ∨ way = 3 ∨ way = 4)
    (HO : Hid (∀ i wx, isDayP i → Below w.heap.size w wx → Calls Try.prog 6 #[.agg #[.int .i64 W, .slice p N c], .int .i64 i] wx fun e w' => e = .returned (.tuple #[.bool (op i), .int .i64 0]) ∧ Below wx.heap.size wx w'))
    (HA : Hid (∀ wx, Below w.heap.size w wx → Calls Try.prog 9 #[.agg #[.int .i64 W, .slice p N c], .int .i64 n, .int .i64 way] wx fun e w' => e = .returned (.tuple #[.int .i64 x, .int .i64 0]) ∧ Below wx.heap.size wx w')) :
    Calls Try.prog 3 #[.agg #[.int .i64 W, .slice p N c], .int .i64 n, .int .i64 way] w fun e w' => e = .returned (.bool true) ∧ Below w.heap.size w w' := by
  have HFw := hideS (fun wx => few_any W p N c wx (by omega))
  rw [decide_eq_true hN] at HFw
  have HB0 : Hid (Below w.heap.size w (w.alloc (.cells #[.int .i64 W, .slice p N c] 24))) := (Below.refl w.heap.size w).alloc (Nat.le_refl _) _
  have HO1 := hideS (fun wx => HO.out n wx hn)
  rw [hno] at HO1
  have HO2 := hideS (fun wx => HO.out x wx hx)
  rw [hop] at HO2
  have b0 : 0 ≤ lo := by have := hn.1; have := hx.1; omega
  have b1 : hi ≤ 109572 := by have := hn.2; have := hx.2; omega
  have HLH := hideS (And.intro hlo hhi)
  clear hn hx hop hno
  rcases hw with ⟨rfl, hw⟩ | ⟨rfl, hw⟩ | rfl | rfl
  all_goals
    go_enter Try.func3, Try.ntmps3
    go_wp2_with fail
    refine (HO1.out _ HB0.out).mono ?_
    rintro e w1 ⟨rfl, hb1⟩
    have X1 := hideS (CBoxP.first hb1)
    clear hb1
    obtain ⟨c0, c1⟩ := X1.out.cells
    go_wp2_with fail
    refine (HFw.out _).mono ?_
    rintro e w2 ⟨rfl, hb2⟩
    have X2 := hideS (X1.out.step hb2)
    clear hb2 c0 c1
    obtain ⟨c0, c1⟩ := X2.out.cells
    go_wp2_with fail
    refine (HA.out _ X2.out.below).mono ?_
    rintro e w3 ⟨rfl, hb3⟩
    have X3 := hideS (X2.out.step hb3)
    clear hb3 c0 c1
    obtain ⟨c0, c1⟩ := X3.out.cells
    go_wp2_with fail
    refine (HO2.out _ X3.out.below).mono ?_
    rintro e w4 ⟨rfl, hb4⟩
    have X4 := hideS (X3.out.step hb4)
    clear hb4 c0 c1 X1 X2 X3
    go_wp2_with fail
    go_loopw [13] (fun i wr => ∃ (I : Int), lo + 1 ≤ I ∧ I ≤ hi ∧ i = .int .i64 I ∧ Hid (CBoxP w W (.slice p N c) wr)) (fun i _ => (hi - intOf i).toNat)
    case atStart => exact ⟨lo + 1, by omega, by omega, rfl, X4⟩
    case round =>
      clear X4
      obtain ⟨I, I0, I1, rfl, XI⟩ := hrel
      obtain ⟨c0, c1⟩ := XI.out.cells
      by_cases hl : I < hi
      · obtain ⟨hd, hf⟩ := hbt.out I (by omega) hl
        have HOi := hideS (fun wx => HO.out I wx hd)
        rw [hf] at HOi
        clear hd hf
        go_wp2_with (go_at_call 6; refine (HOi.out _ XI.out.below).mono ?_; rintro e w5 ⟨rfl, hb5⟩)
        have X5 := hideS (XI.out.step hb5)
        clear hb5
        go_roundw
        case rel => exact ⟨I + 1, by omega, by omega, rfl, X5⟩
        case measure => simp [intOf]; omega
      · go_wp2_with (go_at_call 8; refine (awake6 _).mono ?_; rintro e w5 ⟨rfl, hb5⟩)
        go_ret
        exact ⟨rfl, (XI.out.step hb5).below⟩

theorem calOpen_walk (W n way : Int) (p : Option Addr) (b off c : Nat) (rs : List Rul) (w : World) (hs : RSrc w p b off rs) (hl : rs.length ≤ 9223372036854775807) (_ : I64 W) (_ : ∀ r ∈ rs, RulI r) (_ : I64 n) (_ : I64 way) :
    Calls Try.prog 3 #[.agg #[.int .i64 W, .slice p rs.length c], .int .i64 n, .int .i64 way] w fun e w' => e = .returned (.bool true) ∧ Below w.heap.size w w' := by
  obtain ⟨A, B, h⟩ := chk_ex W rs
  by_cases hbad : A ≠ 0 ∨ ¬ isDayP n
  · have hE : (if A ≠ 0 then A else 51) ≠ 0 := by split <;> omega
    exact calOpen_skip W n way _ false p rs.length c w hl (fun wx hb => openP_bad W n p b off c rs A B wx h (hs.below hb) hl hbad) (by omega)
  · have hA : A = 0 := Classical.byContradiction fun a => hbad (Or.inl a)
    have hn : isDayP n := Classical.byContradiction fun a => hbad (Or.inr a)
    subst hA
    obtain ⟨hok, _⟩ := chk_ok h
    have HO : ∀ i wx, isDayP i → Below w.heap.size w wx → Calls Try.prog 6 #[.agg #[.int .i64 W, .slice p rs.length c], .int .i64 i] wx fun e w' => e = .returned (.tuple #[.bool (opB W rs i), .int .i64 0]) ∧ Below wx.heap.size wx w' := fun i wx hi hb => openP_ok W i p b off c rs wx hok (hs.below hb) hi
    by_cases hw : rs.length ≤ 12 ∧ 0 ≤ way ∧ way ≤ 4
    · obtain ⟨h12, hw⟩ := hw
      have HA : ∀ wx, Below w.heap.size w wx → Calls Try.prog 9 #[.agg #[.int .i64 W, .slice p rs.length c], .int .i64 n, .int .i64 way] wx fun e w' => e = .returned (.tuple #[.int .i64 ((adjO (opB W rs) n way).getD 0), .int .i64 (ansE (adjO (opB W rs) n way))]) ∧ Below wx.heap.size wx w' := fun wx hb => adjP_ok W n way p b off c rs wx hok (hs.below hb) hw hn
      cases hop : opB W rs n
      · by_cases hz : way = 0
        · subst hz
          rw [adjO_0] at HA
          have HO' := fun wx => HO n wx hn
          rw [hop] at HO'
          exact calOpen_flat W n 0 n 0 false p rs.length c w h12 (by omega) (by omega) HO' HA (Or.inr (Or.inr ⟨rfl, rfl, rfl, rfl⟩))
        · cases hR : adjO (opB W rs) n way with
          | none =>
            rw [hR] at HA
            have HO' := fun wx => HO n wx hn
            rw [hop] at HO'
            exact calOpen_flat W n way 0 51 false p rs.length c w h12 (by omega) (by omega) HO' HA (Or.inl ⟨rfl, rfl, bne_iff_ne.2 hz⟩)
          | some x =>
            rw [hR] at HA
            obtain ⟨hx, hxo, g1, g2, g3⟩ := adj_shut (by omega) hn hop hR
            have hne : x ≠ n := fun e => by rw [e, hop] at hxo; exact Bool.noConfusion hxo
            exact calOpen_far W n way x _ _ (opB W rs) p rs.length c w h12 hn hx hxo hop rfl rfl (by omega) g3 (by omega) HO HA
      · rw [adj_open hw hn hop] at HA
        have HO' := fun wx => HO n wx hn
        rw [hop] at HO'
        exact calOpen_flat W n way n 0 true p rs.length c w h12 (by omega) (by omega) HO' HA (Or.inr (Or.inl ⟨rfl, rfl, rfl⟩))
    · exact calOpen_skip W n way 0 _ p rs.length c w hl (fun wx hb => HO n wx hn hb) (by omega)
end Go.Proofs.Ytglkhoekpafddab
