/- strconv.ParseFloat at three closed texts: 1, 3 and 0.5. text.Parse at three closed texts: 1, 3 and 0.5. text.Parse at 0.1. text.at, text.isDigit, text.isWhole at any text. text.isWhole at any text. text.Int at a text that is not of the form. text.readHex, in plain words; hexDigit. text.readHex at any text. -/
import Derived.Test.YtbgmbodedjhfoaaGreatDoorProg
import Derived.Handy
import Derived.WalkMore
import Derived.Below
import Derived.BigFrame
import Derived.BigQuiet
import Derived.WalkSpells
import Derived.WalkLawsBesides
import Derived.Test.YtbgmbodedjhfoaaGreatDoorDqS
import Derived.Laws.BitsLemmas
namespace Go.Proofs.YtbgmbodedjhfoaaGreatDoor
open Go.RowKit

theorem results_tmp7 {fn : Func} {a b c d e f g : Tmp} (h : fn.results = #[.tmp a, .tmp b, .tmp c, .tmp d, .tmp e, .tmp f, .tmp g]) (tmps : Array Value) (P : Program) (w : World) :
    (results fn tmps).run P w = .ok (.tuple #[tmps.getD a undef, tmps.getD b undef, tmps.getD c undef, tmps.getD d undef, tmps.getD e undef, tmps.getD f undef, tmps.getD g undef]) w := by
  simp [results, h]
structure PfT (gi gq gp b o c : Nat) (w : World) : Prop where
  mb : w.cell? ⟨gi, 0, none⟩ = some (.int .u64 52)
  op : w.cell? ⟨gq, 0, none⟩ = some (.bool true)
  pw : w.cell? ⟨gp, 0, none⟩ = some (.slice (some ⟨b, o, none⟩) 23 c)
  p1 : w.cell? ⟨b, o + 1, none⟩ = some (.float .f64 4621819117588971520)
end Go.Proofs.YtbgmbodedjhfoaaGreatDoor
namespace Go.Proofs.YtbgmbodedjhfoaaGreatDoor
open Go.RowKit

end Go.Proofs.YtbgmbodedjhfoaaGreatDoor
namespace Go.Proofs.YtbgmbodedjhfoaaGreatDoor
open Go.RowKit

set_option maxRecDepth 20000 in
set_option maxHeartbeats 3200000 in
theorem rf_01 (w : World) : Calls Tryz.prog 134 #[.string ⟨#[48, 46, 49]⟩] w fun e w' => e = .returned (.tuple #[.int .u64 1, .int .i64 (-1), .bool false, .bool false, .bool false, .int .i64 3, .bool true]) ∧ w' = w := by
  have hb0 : ∀ h, ({ data := #[48, 46, 49] } : ByteArray)[0]'h = 48 := fun _ => rfl
  have hb1 : ∀ h, ({ data := #[48, 46, 49] } : ByteArray)[1]'h = 46 := fun _ => rfl
  have hb2 : ∀ h, ({ data := #[48, 46, 49] } : ByteArray)[2]'h = 49 := fun _ => rfl
  go_enter Tryz.func134, Tryz.ntmps134
  go_wp2
  go_step3
  go_wp2
  go_step3
  go_wp2
  refine wp_loop_rounds 5 ?_
  rw [rounds_succ]
  go_wp2
  rw [rounds_succ]
  go_wp2
  rw [rounds_succ]
  go_wp2
  rw [rounds_succ]
  go_wp2
  simp only [Exit.noGoto_ret]
  refine bodyPost_ret (results_tmp7 rfl _ _ _) rfl ?_
  exact ⟨rfl, rfl⟩
theorem quo_01 (w : World) : (binOp .quo 22 (.float .f64 (floatOfInt .f64 1)) (.float .f64 4621819117588971520)).run Tryz.prog w = .ok (.float .f64 4591870180066957722) w := by kernel_rfl
set_option maxRecDepth 20000 in
set_option maxHeartbeats 3200000 in
theorem ax_01 (b o c : Nat) (w : World) (h : PfT 6 4 14 b o c w) : Calls Tryz.prog 144 #[.int .u64 1, .int .i64 (-1), .bool false] w fun e w' => e = .returned (.tuple #[.float .f64 4591870180066957722, .bool true]) ∧ w' = w := by
  obtain ⟨m, q, p0, p1⟩ := h
  have hq := quo_01
  go_enter Tryz.func144, Tryz.ntmps144
  go_wp2
  go_ret2
  exact ⟨by rfl, rfl⟩
set_option maxRecDepth 20000 in
set_option maxHeartbeats 3200000 in
theorem pf_01 (b o c : Nat) (w : World) (h : PfT 6 4 14 b o c w) : Calls Tryz.prog 50 #[.string ⟨#[48, 46, 49]⟩, .int .i64 64] w fun e w' => e = .returned (.tuple #[.float .f64 4591870180066957722, .nilIface]) ∧ w' = w := by
  have ha := ax_01 b o c w h
  have hr := rf_01 w
  obtain ⟨m, q, _, _⟩ := h
  have hb0 : ∀ h, ({ data := #[48, 46, 49] } : ByteArray)[0]'h = 48 := fun _ => rfl
  have hb1 : ∀ h, ({ data := #[48, 46, 49] } : ByteArray)[1]'h = 46 := fun _ => rfl
  have hb2 : ∀ h, ({ data := #[48, 46, 49] } : ByteArray)[2]'h = 49 := fun _ => rfl
  go_enter Tryz.func50, Tryz.ntmps50
  go_wp2_with (first | (go_at_call 134; refine hr.mono ?_; rintro e w' ⟨rfl, rfl⟩) | (go_at_call 144; refine ha.mono ?_; rintro e w' ⟨rfl, rfl⟩) | go_in)
  go_ret2
  exact ⟨rfl, rfl⟩
set_option maxRecDepth 20000 in
set_option maxHeartbeats 3200000 in
theorem isd_01 (w : World) : Calls Tryz.prog 49 #[.string ⟨#[48, 46, 49]⟩] w fun e w' => e = .returned (.bool true) ∧ w' = w := by
  have hb0 : ∀ h, ({ data := #[48, 46, 49] } : ByteArray)[0]'h = 48 := fun _ => rfl
  have hb1 : ∀ h, ({ data := #[48, 46, 49] } : ByteArray)[1]'h = 46 := fun _ => rfl
  have hb2 : ∀ h, ({ data := #[48, 46, 49] } : ByteArray)[2]'h = 49 := fun _ => rfl
  go_enter Tryz.func49, Tryz.ntmps49
  go_wp2
  refine wp_scope_hops 3 ?_
  go_wp2
  go_step3
  go_wp2
  refine wp_goto ?_
  simp only [Exit.then, Exit.inBlock, scopeN]
  refine ⟨_, rfl, ?_⟩
  go_wp2
  go_step3
  go_wp2
  refine wp_goto ?_
  simp only [Exit.then, scopeN]
  refine ⟨_, rfl, ?_⟩
  go_wp2
  simp only [scopeN]
  go_ret
  exact ⟨rfl, rfl⟩
set_option maxRecDepth 20000 in
set_option maxHeartbeats 3200000 in
theorem tp_01 (b o c : Nat) (w : World) (h : PfT 6 4 14 b o c w) : Calls Tryz.prog 28 #[.string ⟨#[48, 46, 49]⟩] w fun e w' => e = .returned (.tuple #[.float .f64 4591870180066957722, .int .i64 0]) ∧ w' = w := by
  have h1 := isd_01 w
  have h2 := pf_01 b o c w h
  clear h
  go_enter Tryz.func28, Tryz.ntmps28
  go_wp2_with (first | (go_at_call 49; refine h1.mono ?_; rintro e w' ⟨rfl, rfl⟩) | (go_at_call 50; refine h2.mono ?_; rintro e w' ⟨rfl, rfl⟩))
  go_ret2
  exact ⟨rfl, rfl⟩
end Go.Proofs.YtbgmbodedjhfoaaGreatDoor
namespace Go.Proofs.YtbgmbodedjhfoaaGreatDoor
open Go.RowKit

def byN (s : ByteArray) (i : Nat) : Nat := if h : i < s.size then (s[i]'h).toNat else 0
def dgB (c : Nat) : Bool := decide (48 ≤ c ∧ c ≤ 57)
set_option maxRecDepth 20000 in
set_option maxHeartbeats 1600000 in
theorem at_any (s : ByteArray) (i : Nat) (w : World) : Calls Tryz.prog 42 #[.string s, .int .i64 (i : Int)] w fun e w' => e = .returned (.int .u8 (byN s i : Nat)) ∧ w' = w := by
  by_cases h : i < s.size
  · have hb : byN s i = (s[i]'h).toNat := by unfold byN; rw [dif_pos h]
    obtain ⟨c, hc⟩ : ∃ c, s[i]'h = c := ⟨_, rfl⟩
    have hbk : ∀ h, s[i]'h = c := fun _ => hc
    rw [hb, hc]
    have t1 : ¬ (s.size : Int) ≤ (i : Int) := by omega
    go_enter Tryz.func42, Tryz.ntmps42
    go_wp2
    go_ret
    exact ⟨rfl, rfl⟩
  · have hb : byN s i = 0 := by unfold byN; rw [dif_neg h]
    rw [hb]
    have t1 : (s.size : Int) ≤ (i : Int) := by omega
    go_enter Tryz.func42, Tryz.ntmps42
    go_wp2
    go_ret
    exact ⟨rfl, rfl⟩
set_option maxRecDepth 20000 in
set_option maxHeartbeats 1600000 in
theorem dig_any (c : Nat) (w : World) : Calls Tryz.prog 44 #[.int .u8 (c : Int)] w fun e w' => e = .returned (.bool (dgB c)) ∧ w' = w := by
  unfold dgB
  by_cases h1 : 48 ≤ c
  · by_cases h2 : c ≤ 57
    · rw [decide_eq_true ⟨h1, h2⟩]
      have t1 : decide ((48 : Int) ≤ (c : Int)) = true := decide_eq_true (by omega)
      have t2 : decide ((c : Int) ≤ 57) = true := decide_eq_true (by omega)
      have t3 : decide (48 ≤ c) = true := decide_eq_true h1
      have t4 : decide (c ≤ 57) = true := decide_eq_true h2
      go_enter Tryz.func44, Tryz.ntmps44
      go_wp2
      go_ret
      exact ⟨rfl, rfl⟩
    · rw [decide_eq_false (fun h => h2 h.2)]
      have t1 : decide ((48 : Int) ≤ (c : Int)) = true := decide_eq_true (by omega)
      have t2 : decide ((c : Int) ≤ 57) = false := decide_eq_false (by omega)
      have t3 : decide (48 ≤ c) = true := decide_eq_true h1
      have t4 : decide (c ≤ 57) = false := decide_eq_false h2
      go_enter Tryz.func44, Tryz.ntmps44
      go_wp2
      go_ret
      exact ⟨rfl, rfl⟩
  · rw [decide_eq_false (fun h => h1 h.1)]
    have t1 : decide ((48 : Int) ≤ (c : Int)) = false := decide_eq_false (by omega)
    have t3 : decide (48 ≤ c) = false := decide_eq_false h1
    go_enter Tryz.func44, Tryz.ntmps44
    go_wp2
    go_ret
    exact ⟨rfl, rfl⟩
end Go.Proofs.YtbgmbodedjhfoaaGreatDoor
namespace Go.Proofs.YtbgmbodedjhfoaaGreatDoor
open Go.RowKit

def WhP (s : ByteArray) : Prop := (s.size = 1 ∧ byN s 0 = 48) ∨ ∃ o, o ≤ 1 ∧ (o = 1 → byN s 0 = 45) ∧ 49 ≤ byN s o ∧ byN s o ≤ 57 ∧ ∀ j, o < j → j < s.size → dgB (byN s j) = true
theorem byN_in {s : ByteArray} {i : Nat} (h : byN s i ≠ 0) : i < s.size := by
  unfold byN at h
  split at h
  · assumption
  · exact absurd rfl h
structure DgR (s : ByteArray) (o i : Nat) : Prop where
  o1 : o ≤ 1
  mi : o = 1 → byN s 0 = 45
  lo : 49 ≤ byN s o
  hi : byN s o ≤ 57
  oi : o ≤ i
  il : i < s.size
  dg : ∀ j, o < j → j ≤ i → dgB (byN s j) = true
theorem DgR.whole {s : ByteArray} {o i : Nat} (h : DgR s o i) (hn : dgB (byN s (i + 1)) = false) : (i + 1 = s.size) ↔ WhP s := by
  have hil := h.il
  constructor
  · intro e
    exact Or.inr ⟨o, h.o1, h.mi, h.lo, h.hi, fun j h1 h2 => h.dg j h1 (by omega)⟩
  · rintro (⟨_, h48⟩ | ⟨o', h1, h2, h3, h4, h5⟩)
    · have lo := h.lo
      rcases (show o = 0 ∨ o = 1 by have := h.o1; omega) with rfl | rfl
      · omega
      · have := h.mi rfl; omega
    · have e : o' = o := by
        have lo := h.lo
        rcases (show o = 0 ∨ o = 1 by have := h.o1; omega) with rfl | rfl
        · rcases (show o' = 0 ∨ o' = 1 by omega) with rfl | rfl
          · rfl
          · have := h2 rfl; omega
        · rcases (show o' = 0 ∨ o' = 1 by omega) with rfl | rfl
          · have := h.mi rfl; omega
          · rfl
      subst e
      by_cases hlt : i + 1 < s.size
      · have := h5 (i + 1) (by have := h.oi; omega) hlt
        rw [hn] at this; cases this
      · omega
theorem wh_zero {s : ByteArray} (h : byN s 0 = 48) : ((1 : Int) == (s.size : Int)) = true ↔ WhP s := by
  rw [beq_iff_eq]
  constructor
  · intro e; exact Or.inl ⟨by omega, h⟩
  · rintro (⟨h1, _⟩ | ⟨o, h1, h2, h3, h4, _⟩)
    · omega
    · rcases (show o = 0 ∨ o = 1 by omega) with rfl | rfl
      · omega
      · have := h2 rfl; omega
theorem wh_no {s : ByteArray} {o : Nat} (h0 : byN s 0 ≠ 48) (ho : o = if byN s 0 = 45 then 1 else 0) (hc : byN s o = 48 ∨ dgB (byN s o) = false) : ¬ WhP s := by
  rintro (⟨_, h1⟩ | ⟨o', h1, h2, h3, h4, _⟩)
  · exact h0 h1
  · have e : o' = o := by
      rcases (show o' = 0 ∨ o' = 1 by omega) with rfl | rfl
      · rw [ho, if_neg (by omega)]
      · rw [ho, if_pos (h2 rfl)]
    subst e
    rcases hc with hc | hc
    · omega
    · unfold dgB at hc
      rw [decide_eq_false_iff_not] at hc
      exact hc ⟨by omega, h4⟩
theorem dg_bd {c : Nat} (h : dgB c = true) (h0 : c ≠ 48) : 49 ≤ c ∧ c ≤ 57 := by
  unfold dgB at h
  rw [decide_eq_true_eq] at h
  omega
theorem DgR.next {s : ByteArray} {o i : Nat} (h : DgR s o i) (hd : dgB (byN s (i + 1)) = true) : DgR s o (i + 1) := by
  have hne : byN s (i + 1) ≠ 0 := by
    unfold dgB at hd
    rw [decide_eq_true_eq] at hd
    omega
  refine ⟨h.o1, h.mi, h.lo, h.hi, by have := h.oi; omega, byN_in hne, fun j h1 h2 => ?_⟩
  by_cases e : j = i + 1
  · rw [e]; exact hd
  · exact h.dg j h1 (by omega)
def WhJ (s : ByteArray) (w0 : World) (l : Nat) (a : Act) (w : World) : Prop :=
  (l = 0 ∧ byN s 0 = 48 ∧ w = w0 ∧ ∃ u1 u2 u4 u5 u6 u7 u8 u9 u10 u11 u12 u13 u14 u15 u16 u17 u18 u19 u20 u21 u22 u23 u24 u25 u26 u27 u28 u29 u30 : Value, a = ⟨#[.string s, u1, u2, .int .i64 1, u4, u5, u6, u7, u8, u9, u10, u11, u12, u13, u14, u15, u16, u17, u18, u19, u20, u21, u22, u23, u24, u25, u26, u27, u28, u29, u30], []⟩) ∨
  (l = 1 ∧ ¬ WhP s ∧ w = w0 ∧ ∃ (i : Int) (u1 u2 u4 u5 u6 u7 u8 u9 u10 u11 u12 u13 u14 u15 u16 u17 u18 u19 u20 u21 u22 u23 u24 u25 u26 u27 u28 u29 u30 : Value), a = ⟨#[.string s, u1, u2, .int .i64 i, u4, u5, u6, u7, u8, u9, u10, u11, u12, u13, u14, u15, u16, u17, u18, u19, u20, u21, u22, u23, u24, u25, u26, u27, u28, u29, u30], []⟩) ∨
  (l = 2 ∧ w = w0 ∧ ∃ (o i : Nat) (u1 u2 u4 u5 u6 u7 u8 u9 u10 u11 u12 u13 u14 u15 u16 u17 u18 u19 u20 u21 u22 u23 u24 u25 u26 u27 u28 u29 u30 : Value), DgR s o i ∧ a = ⟨#[.string s, u1, u2, .int .i64 (i : Int), u4, u5, u6, u7, u8, u9, u10, u11, u12, u13, u14, u15, u16, u17, u18, u19, u20, u21, u22, u23, u24, u25, u26, u27, u28, u29, u30], []⟩)
theorem turned0 {P : Program} {f : Nat} {args : Array Value} {w : World} {e0 : Ending} (h : Calls P f args w fun e w' => e = e0 ∧ w' = w) : Calls P f args w fun e w' => e = e0 ∧ w = w' := h.mono fun _ _ ⟨a, b⟩ => ⟨a, b.symm⟩
set_option maxRecDepth 40000 in
set_option maxHeartbeats 6400000 in
theorem whole_any (s : ByteArray) (w : World) (hs : s.size ≤ 9223372036854775806) : Calls Tryz.prog 53 #[.string s] w fun e w' => ∃ B, e = .returned (.bool B) ∧ (B = true ↔ WhP s) ∧ w' = w := by
  have HA := fun (i : Nat) => at_any s i w
  have H0 := at_any s 0 w
  go_enter Tryz.func53, Tryz.ntmps53
  go_wp2_with fail
  refine wp_scope_many (WhJ s w) (fun l a _ => if l = 2 then s.size + 1 - (intOf (a.tmps.getD 3 undef)).toNat else 0) ?_ ?_
  · by_cases h48 : byN s 0 = 48
    · rw [h48] at H0
      go_wp2_with fail
      refine (turned0 H0).mono ?_
      rintro e w3 ⟨rfl, rfl⟩
      go_wp2_with fail
      refine wp_goto ?_
      exact Or.inl ⟨rfl, h48, rfl, _, _, _, _, _, _, _, _, _, _, _, _, _, _, _, _, _, _, _, _, _, _, _, _, _, _, _, _, _, rfl⟩
    · by_cases h45 : byN s 0 = 45
      · rw [h45] at H0
        have HO := at_any s 1 w
        by_cases hz : byN s 1 = 48
        · have hno : ¬ WhP s := wh_no (o := 1) h48 (by simp [h45]) (Or.inl hz)
          rw [hz] at HO
          go_wp2_with fail
          refine (turned0 H0).mono ?_
          rintro e w3 ⟨rfl, rfl⟩
          go_wp2_with fail
          refine (turned0 HO).mono ?_
          rintro e w3 ⟨rfl, rfl⟩
          go_wp2_with fail
          refine wp_goto ?_
          exact Or.inr (Or.inl ⟨rfl, hno, rfl, _, _, _, _, _, _, _, _, _, _, _, _, _, _, _, _, _, _, _, _, _, _, _, _, _, _, _, _, _, _, rfl⟩)
        · have HD := dig_any (byN s 1) w
          have ez : (((byN s 1 : Nat) : Int) == 48) = false := by rw [beq_eq_false_iff_ne]; omega
          cases hg : dgB (byN s 1)
          · have hno : ¬ WhP s := wh_no (o := 1) h48 (by simp [h45]) (Or.inr hg)
            rw [hg] at HD
            go_wp2_with fail
            refine (turned0 H0).mono ?_
            rintro e w3 ⟨rfl, rfl⟩
            go_wp2_with fail
            refine (turned0 HO).mono ?_
            rintro e w3 ⟨rfl, rfl⟩
            go_wp2_with fail
            refine (turned0 HD).mono ?_
            rintro e w3 ⟨rfl, rfl⟩
            go_wp2_with fail
            refine wp_goto ?_
            exact Or.inr (Or.inl ⟨rfl, hno, rfl, _, _, _, _, _, _, _, _, _, _, _, _, _, _, _, _, _, _, _, _, _, _, _, _, _, _, _, _, _, _, rfl⟩)
          · have hb := dg_bd hg hz
            have hd : DgR s 1 1 := ⟨by omega, fun _ => h45, hb.1, hb.2, Nat.le_refl _, byN_in (by omega), fun j h1 h2 => by omega⟩
            rw [hg] at HD
            go_wp2_with fail
            refine (turned0 H0).mono ?_
            rintro e w3 ⟨rfl, rfl⟩
            go_wp2_with fail
            refine (turned0 HO).mono ?_
            rintro e w3 ⟨rfl, rfl⟩
            go_wp2_with fail
            refine (turned0 HD).mono ?_
            rintro e w3 ⟨rfl, rfl⟩
            have hil := hd.il
            have HA1 := at_any s 2 w
            have HD1 := dig_any (byN s 2) w
            cases hdg : dgB (byN s 2)
            · rw [hdg] at HD1
              have HW := hd.whole hdg
              generalize byN s 2 = c1 at *
              go_wp2_with fail
              refine wp_label ?_
              go_wp2_with fail
              refine (turned0 HA1).mono ?_
              rintro e w3 ⟨rfl, rfl⟩
              go_wp2_with fail
              refine (turned0 HD1).mono ?_
              rintro e w3 ⟨rfl, rfl⟩
              go_wp2_with fail
              go_step3
              go_wp2_with fail
              simp only [Exit.hop]
              go_ret
              refine ⟨_, rfl, ?_, rfl⟩
              rw [beq_iff_eq, ← HW]; omega
            · rw [hdg] at HD1
              have hn := hd.next hdg
              generalize byN s 2 = c1 at *
              go_wp2_with fail
              refine wp_label ?_
              go_wp2_with fail
              refine (turned0 HA1).mono ?_
              rintro e w3 ⟨rfl, rfl⟩
              go_wp2_with fail
              refine (turned0 HD1).mono ?_
              rintro e w3 ⟨rfl, rfl⟩
              go_wp2_with fail
              refine wp_goto ?_
              exact Or.inr (Or.inr ⟨rfl, rfl, 1, 2, _, _, _, _, _, _, _, _, _, _, _, _, _, _, _, _, _, _, _, _, _, _, _, _, _, _, _, _, _, hn, rfl⟩)
      · have e48 : (((byN s 0 : Nat) : Int) == 48) = false := by rw [beq_eq_false_iff_ne]; omega
        have e45 : (((byN s 0 : Nat) : Int) == 45) = false := by rw [beq_eq_false_iff_ne]; omega
        have HO := at_any s 0 w
        by_cases hz : byN s 0 = 48
        · exact absurd hz h48
        · have HD := dig_any (byN s 0) w
          have ez : (((byN s 0 : Nat) : Int) == 48) = false := by rw [beq_eq_false_iff_ne]; omega
          cases hg : dgB (byN s 0)
          · have hno : ¬ WhP s := wh_no (o := 0) h48 (by simp [h45]) (Or.inr hg)
            rw [hg] at HD
            go_wp2_with fail
            refine (turned0 H0).mono ?_
            rintro e w3 ⟨rfl, rfl⟩
            go_wp2_with fail
            refine (turned0 HO).mono ?_
            rintro e w3 ⟨rfl, rfl⟩
            go_wp2_with fail
            refine (turned0 HD).mono ?_
            rintro e w3 ⟨rfl, rfl⟩
            go_wp2_with fail
            refine wp_goto ?_
            exact Or.inr (Or.inl ⟨rfl, hno, rfl, _, _, _, _, _, _, _, _, _, _, _, _, _, _, _, _, _, _, _, _, _, _, _, _, _, _, _, _, _, _, rfl⟩)
          · have hb := dg_bd hg hz
            have hd : DgR s 0 0 := ⟨by omega, (fun h => by omega), hb.1, hb.2, Nat.le_refl _, byN_in (by omega), fun j h1 h2 => by omega⟩
            rw [hg] at HD
            go_wp2_with fail
            refine (turned0 H0).mono ?_
            rintro e w3 ⟨rfl, rfl⟩
            go_wp2_with fail
            refine (turned0 HO).mono ?_
            rintro e w3 ⟨rfl, rfl⟩
            go_wp2_with fail
            refine (turned0 HD).mono ?_
            rintro e w3 ⟨rfl, rfl⟩
            have hil := hd.il
            have HA1 := at_any s 1 w
            have HD1 := dig_any (byN s 1) w
            cases hdg : dgB (byN s 1)
            · rw [hdg] at HD1
              have HW := hd.whole hdg
              generalize byN s 1 = c1 at *
              go_wp2_with fail
              refine wp_label ?_
              go_wp2_with fail
              refine (turned0 HA1).mono ?_
              rintro e w3 ⟨rfl, rfl⟩
              go_wp2_with fail
              refine (turned0 HD1).mono ?_
              rintro e w3 ⟨rfl, rfl⟩
              go_wp2_with fail
              go_step3
              go_wp2_with fail
              simp only [Exit.hop]
              go_ret
              refine ⟨_, rfl, ?_, rfl⟩
              rw [beq_iff_eq, ← HW]; omega
            · rw [hdg] at HD1
              have hn := hd.next hdg
              generalize byN s 1 = c1 at *
              go_wp2_with fail
              refine wp_label ?_
              go_wp2_with fail
              refine (turned0 HA1).mono ?_
              rintro e w3 ⟨rfl, rfl⟩
              go_wp2_with fail
              refine (turned0 HD1).mono ?_
              rintro e w3 ⟨rfl, rfl⟩
              go_wp2_with fail
              refine wp_goto ?_
              exact Or.inr (Or.inr ⟨rfl, rfl, 0, 1, _, _, _, _, _, _, _, _, _, _, _, _, _, _, _, _, _, _, _, _, _, _, _, _, _, _, _, _, _, hn, rfl⟩)
  · rintro l a w2 (⟨rfl, h48, rfl, u1, u2, u4, u5, u6, u7, u8, u9, u10, u11, u12, u13, u14, u15, u16, u17, u18, u19, u20, u21, u22, u23, u24, u25, u26, u27, u28, u29, u30, rfl⟩ | ⟨rfl, hno, rfl, i, u1, u2, u4, u5, u6, u7, u8, u9, u10, u11, u12, u13, u14, u15, u16, u17, u18, u19, u20, u21, u22, u23, u24, u25, u26, u27, u28, u29, u30, rfl⟩ | ⟨rfl, rfl, o, i, u1, u2, u4, u5, u6, u7, u8, u9, u10, u11, u12, u13, u14, u15, u16, u17, u18, u19, u20, u21, u22, u23, u24, u25, u26, u27, u28, u29, u30, hd, rfl⟩)
    · refine ⟨_, rfl, ?_⟩
      go_wp2_with fail
      simp only [Exit.hop]
      go_ret
      exact ⟨_, rfl, wh_zero h48, rfl⟩
    · refine ⟨_, rfl, ?_⟩
      go_wp2_with fail
      simp only [Exit.hop]
      go_ret
      exact ⟨_, rfl, by simp [hno], rfl⟩
    · refine ⟨_, rfl, ?_⟩
      have hil := hd.il
      have f1 : IntKind.i64.wrap ((i : Int) + 1) = (i : Int) + 1 := by rw [IntKind.wrap_i64]; omega
      have HA1 := at_any s (i + 1) w2
      rw [show ((i + 1 : Nat) : Int) = (i : Int) + 1 from rfl] at HA1
      have HD1 := dig_any (byN s (i + 1)) w2
      cases hdg : dgB (byN s (i + 1))
      · rw [hdg] at HD1
        have HW := hd.whole hdg
        generalize byN s (i + 1) = c at *
        go_wp2_with fail
        refine (turned0 HA1).mono ?_
        rintro e w3 ⟨rfl, rfl⟩
        go_wp2_with fail
        refine (turned0 HD1).mono ?_
        rintro e w3 ⟨rfl, rfl⟩
        go_wp2_with fail
        go_step3
        go_wp2_with fail
        simp only [Exit.hop]
        go_ret
        refine ⟨_, rfl, ?_, rfl⟩
        rw [beq_iff_eq, ← HW]; omega
      · rw [hdg] at HD1
        have hn := hd.next hdg
        generalize byN s (i + 1) = c at *
        go_wp2_with fail
        refine (turned0 HA1).mono ?_
        rintro e w3 ⟨rfl, rfl⟩
        go_wp2_with fail
        refine (turned0 HD1).mono ?_
        rintro e w3 ⟨rfl, rfl⟩
        go_wp2_with fail
        refine wp_goto ?_
        refine ⟨Or.inr (Or.inr ⟨rfl, rfl, o, i + 1, _, _, _, _, _, _, _, _, _, _, _, _, _, _, _, _, _, _, _, _, _, _, _, _, _, _, _, _, _, hn, rfl⟩), ?_⟩
        have hl2 := hn.il
        show s.size + 1 - ((i : Int) + 1).toNat < s.size + 1 - ((i : Int)).toNat
        omega
end Go.Proofs.YtbgmbodedjhfoaaGreatDoor
namespace Go.Proofs.YtbgmbodedjhfoaaGreatDoor
open Go.RowKit

end Go.Proofs.YtbgmbodedjhfoaaGreatDoor
namespace Go.Proofs.YtbgmbodedjhfoaaGreatDoor
open Go.RowKit

def hxB (c : Nat) : Bool := dgB c || decide (97 ≤ c ∧ c ≤ 102)
def hxV (c : Nat) : Nat := if dgB c then c - 48 else c - 87
def pwF (s : ByteArray) : Nat → Nat → Nat → Nat × Nat
  | 0, i, e => (i + 1, e)
  | n + 1, i, e => if dgB (byN s (i + 1)) then pwF s n (i + 1) (10 * e + (byN s (i + 1) - 48)) else (i + 1, e)
def dgF (s : ByteArray) : Nat → Nat → Nat → Nat × Nat × Nat
  | 0, i, m => (i + 1, 0, m)
  | n + 1, i, m => if hxB (byN s (i + 1)) then dgF s n (i + 1) (m * 16 + hxV (byN s (i + 1))) else (i + 1, n + 1, m)
def endF (s : ByteArray) (d m : Nat) (sg : Int) (p : Nat × Nat) : Option (Nat × Int) := if p.1 = s.size then some (m, sg * p.2 - d * 4) else none
def powF (s : ByteArray) (i d m : Nat) : Option (Nat × Int) :=
  if byN s i = 112 then (if byN s (i + 1) = 43 then endF s d m 1 (pwF s 4 (i + 1) 0) else if byN s (i + 1) = 45 then endF s d m (-1) (pwF s 4 (i + 1) 0) else none) else none
def digF (s : ByteArray) (n i m : Nat) : Option (Nat × Int) := powF s (dgF s n i m).1 (13 - (dgF s n i m).2.1) (dgF s n i m).2.2
def midF (s : ByteArray) (m : Nat) : Option (Nat × Int) := if byN s 3 = 46 then digF s 13 3 m else powF s 3 0 m
def rhF (s : ByteArray) : Option (Nat × Int) := if byN s 0 = 48 ∧ byN s 1 = 120 then (if byN s 2 = 48 then midF s 0 else if byN s 2 = 49 then midF s 1 else none) else none
set_option maxRecDepth 20000 in
set_option maxHeartbeats 1600000 in
theorem hexDig_any (c : Nat) (w : World) : Calls Tryz.prog 43 #[.int .u8 (c : Int)] w fun e w' => e = .returned (.tuple #[.int .i64 (if hxB c then (hxV c : Int) else 0), .bool (hxB c)]) ∧ w' = w := by
  have HD := dig_any c w
  by_cases hg : dgB c = true
  · have hb : 48 ≤ c ∧ c ≤ 57 := by unfold dgB at hg; simpa using hg
    have e1 : hxB c = true := by unfold hxB; rw [hg]; rfl
    have e2 : (hxV c : Int) = (c : Int) - 48 := by unfold hxV; rw [if_pos hg]; omega
    rw [e1, if_pos rfl, e2]
    rw [hg] at HD
    have i0 : (48 : Int) ≤ (c : Int) := by omega
    have i1 : (c : Int) ≤ 57 := by omega
    go_enter Tryz.func43, Tryz.ntmps43
    go_wp2_with fail
    refine (turned0 HD).mono ?_
    rintro e w1 ⟨rfl, rfl⟩
    go_wp2_with fail
    go_ret2
    exact ⟨rfl, rfl⟩
  · have hg' : dgB c = false := by simpa using hg
    rw [hg'] at HD
    by_cases ha : 97 ≤ c ∧ c ≤ 102
    · have e1 : hxB c = true := by unfold hxB; rw [hg']; simpa using ha
      have e2 : (hxV c : Int) = (c : Int) - 97 + 10 := by unfold hxV; rw [if_neg hg]; omega
      rw [e1, if_pos rfl, e2]
      have i0 : (97 : Int) ≤ (c : Int) := by omega
      have i1 : (c : Int) ≤ 102 := by omega
      have j0 : 97 ≤ c := ha.1
      have j1 : c ≤ 102 := ha.2
      clear hg
      go_enter Tryz.func43, Tryz.ntmps43
      go_wp2_with fail
      refine (turned0 HD).mono ?_
      rintro e w1 ⟨rfl, rfl⟩
      go_wp2_with fail
      go_ret2
      exact ⟨rfl, rfl⟩
    · have e1 : hxB c = false := by unfold hxB; rw [hg']; simpa using ha
      rw [e1]
      simp only [Bool.false_eq_true, if_false]
      by_cases hl : 97 ≤ c
      · have j1 : ¬ c ≤ 102 := by omega
        have i1 : ¬ (c : Int) ≤ 102 := by omega
        have i0 : (97 : Int) ≤ (c : Int) := by omega
        go_enter Tryz.func43, Tryz.ntmps43
        go_wp2_with fail
        refine (turned0 HD).mono ?_
        rintro e w1 ⟨rfl, rfl⟩
        go_wp2_with fail
        go_ret2
        exact ⟨rfl, rfl⟩
      · have i0 : ¬ (97 : Int) ≤ (c : Int) := by omega
        go_enter Tryz.func43, Tryz.ntmps43
        go_wp2_with fail
        refine (turned0 HD).mono ?_
        rintro e w1 ⟨rfl, rfl⟩
        go_wp2_with fail
        go_ret2
        exact ⟨rfl, rfl⟩
end Go.Proofs.YtbgmbodedjhfoaaGreatDoor
namespace Go.Proofs.YtbgmbodedjhfoaaGreatDoor
open Go.RowKit

theorem wp_hop_mono {P : Program} {c : Code} {J1 J2 : Nat → Act → World → Prop} {Q : Exit → Act → World → Prop} {a : Act} {w : World} (h : c.wp P (Exit.hop J1 Q) a w) (hJ : ∀ l a w, J1 l a w → J2 l a w) : c.wp P (Exit.hop J2 Q) a w := by
  intro b k cs
  obtain ⟨e, a1, w1, hq, harr⟩ := h b k cs
  refine ⟨e, a1, w1, ?_, harr⟩
  cases e with
  | goto l => exact hJ _ _ _ hq
  | normal => exact hq
  | exit i => exact hq
  | ret => exact hq
  | panic c => exact hq
  | outgrown => exact hq
theorem wp_fall {P : Program} {c rest : Code} {l : Nat} {J1 J2 : Nat → Act → World → Prop} {Q : Exit → Act → World → Prop} {a : Act} {w : World} (h : ∃ r, findLabel c l = some (.seq .skip r) ∧ r.wp P (Exit.hop J1 Q) a w) (e : findLabel c l = some (.seq .skip rest)) (hJ : ∀ l a w, J1 l a w → J2 l a w) : rest.wp P (Exit.hop J2 Q) a w := by
  obtain ⟨r, hr, hw⟩ := h
  rw [hr] at e
  cases e
  exact wp_hop_mono hw hJ
theorem wp_scope_falls {P : Program} {a : Act} {w : World} {Q : Exit → Act → World → Prop} {c : Code} (J : Nat → Act → World → Prop) (μ : Nat → Act → World → Nat)
    (first : (∀ l a w, J l a w → ∃ rest, findLabel c l = some (.seq .skip rest) ∧ rest.wp P (Exit.hop J Q) a w) → c.wp P (Exit.hop J Q) a w)
    (pass : ∀ l a w, J l a w → (∀ l' a' w', J l' a' w' → μ l' a' w' < μ l a w → ∃ rest, findLabel c l' = some (.seq .skip rest) ∧ rest.wp P (Exit.hop (fun l2 a2 w2 => J l2 a2 w2 ∧ μ l2 a2 w2 < μ l a w) Q) a' w') → ∃ rest, findLabel c l = some (.seq .skip rest) ∧ rest.wp P (Exit.hop (fun l' a' w' => J l' a' w' ∧ μ l' a' w' < μ l a w) Q) a w) : (Code.scope c).wp P Q a w := by
  have key : ∀ n l a w, μ l a w = n → J l a w → ∃ rest, findLabel c l = some (.seq .skip rest) ∧ rest.wp P (Exit.hop (fun l' a' w' => J l' a' w' ∧ μ l' a' w' < μ l a w) Q) a w := by
    intro n
    induction n using Nat.strongRecOn with
    | _ n ih =>
      intro l a w hn hJ
      refine pass l a w hJ (fun l' a' w' hJ' hlt => ?_)
      obtain ⟨r, hr, hw⟩ := ih _ (by omega) l' a' w' rfl hJ'
      exact ⟨r, hr, wp_hop_mono hw (fun _ _ _ h => ⟨h.1, by omega⟩)⟩
  refine wp_scope_many J μ (first fun l a w h => ?_) (fun l a w h => ?_)
  · obtain ⟨r, hr, hw⟩ := key _ l a w rfl h
    exact ⟨r, hr, wp_hop_mono hw (fun _ _ _ h => h.1)⟩
  · obtain ⟨r, hr, hw⟩ := key _ l a w rfl h
    exact ⟨_, hr, wp_seq (wp_skip hw)⟩
def rhV : Option (Nat × Int) → Value
  | some p => .tuple #[.int .i64 (p.1 : Int), .int .i64 p.2, .bool true]
  | none => .tuple #[.int .i64 0, .int .i64 0, .bool false]
theorem hidR {P : Prop} (h : P) : Hid P := h
set_option maxRecDepth 20000 in
def rhA (s : ByteArray) (m e i d p g : Int) (u : Nat → Value) : Act := ⟨⟨.string s :: u 1 :: .int .i64 (m) :: .int .i64 (e) :: u 4 :: .int .i64 (i) :: .int .i64 (d) :: .int .i64 (p) :: .int .i64 (g) :: u 9 :: u 10 :: u 11 :: u 12 :: u 13 :: u 14 :: u 15 :: u 16 :: u 17 :: u 18 :: u 19 :: u 20 :: u 21 :: u 22 :: u 23 :: u 24 :: u 25 :: u 26 :: u 27 :: u 28 :: u 29 :: u 30 :: u 31 :: u 32 :: u 33 :: u 34 :: u 35 :: u 36 :: u 37 :: u 38 :: u 39 :: u 40 :: u 41 :: u 42 :: u 43 :: u 44 :: u 45 :: u 46 :: u 47 :: u 48 :: u 49 :: u 50 :: u 51 :: u 52 :: u 53 :: u 54 :: u 55 :: u 56 :: u 57 :: u 58 :: u 59 :: u 60 :: u 61 :: u 62 :: u 63 :: u 64 :: u 65 :: u 66 :: u 67 :: u 68 :: u 69 :: u 70 :: u 71 :: u 72 :: u 73 :: u 74 :: u 75 :: u 76 :: u 77 :: u 78 :: u 79 :: u 80 :: u 81 :: u 82 :: u 83 :: u 84 :: u 85 :: u 86 :: u 87 :: u 88 :: u 89 :: u 90 :: u 91 :: u 92 :: u 93 :: u 94 :: u 95 :: []⟩, []⟩
theorem rhA_of {s : ByteArray} {m e i d p g : Int} {a : Act} (h : a = rhA s m e i d p g (fun k => a.tmps.getD k undef)) : ∃ u : Nat → Value, a = rhA s m e i d p g u := ⟨_, h⟩
def RhJ (s : ByteArray) (w0 : World) (l : Nat) (a : Act) (w : World) : Prop :=
  (l = 0 ∧ rhF s = none ∧ w = w0 ∧ ∃ (m e i d p g : Int), ∃ u : Nat → Value, a = rhA s m e i d p g u) ∨
  (l = 3 ∧ w = w0 ∧ ∃ (n i e d m : Nat) (g : Int), n ≤ 4 ∧ i + n ≤ 30 ∧ e < 10 ^ (4 - n) ∧ d ≤ 13 ∧ (g = 1 ∨ g = -1) ∧ rhF s = endF s d m g (pwF s n i e) ∧ ∃ u : Nat → Value, a = rhA s m e i d (4 - (n : Int)) g u) ∨
  (l = 1 ∧ w = w0 ∧ ∃ (i d m : Nat), i ≤ 20 ∧ d ≤ 13 ∧ rhF s = powF s i d m ∧ ∃ u : Nat → Value, a = rhA s m 0 i d 0 1 u) ∨
  (l = 2 ∧ w = w0 ∧ ∃ (n i m : Nat), n ≤ 13 ∧ i + n = 16 ∧ m < 2 * 16 ^ (13 - n) ∧ rhF s = digF s n i m ∧ ∃ u : Nat → Value, a = rhA s m 0 i (13 - (n : Int)) 0 1 u)
def rhM (l : Nat) (a : Act) : Nat := if l = 2 then 100 + 30 - (intOf (a.tmps.getD 5 undef)).toNat else if l = 1 then 50 else if l = 3 then 10 + 5 - (intOf (a.tmps.getD 7 undef)).toNat else 0

set_option maxRecDepth 40000 in
set_option maxHeartbeats 6400000 in
theorem readHex_is (s : ByteArray) (w : World) : Calls Tryz.prog 22 #[.string s] w fun e w' => e = .returned (rhV (rhF s)) ∧ w' = w := by
  have b3 : ∀ {c k : Nat}, c ≠ k → (((c : Nat) : Int) == (k : Int)) = false := fun h => by rw [beq_eq_false_iff_ne]; omega
  go_enter Tryz.func22, Tryz.ntmps22
  go_wp2_with fail
  refine wp_scope_falls (RhJ s w) (fun l a _ => rhM l a) (fun HF => ?_) (fun l a w2 hJ HF => ?_)
  · have FL := hidR HF
    clear HF
    have H0 := at_any s 0 w
    have H1 := at_any s 1 w
    have H2 := at_any s 2 w
    have H3 := at_any s 3 w
    obtain ⟨c0, e0⟩ : ∃ c, byN s 0 = c := ⟨_, rfl⟩
    obtain ⟨c1, e1⟩ : ∃ c, byN s 1 = c := ⟨_, rfl⟩
    obtain ⟨c2, e2⟩ : ∃ c, byN s 2 = c := ⟨_, rfl⟩
    obtain ⟨c3, e3⟩ : ∃ c, byN s 3 = c := ⟨_, rfl⟩
    rw [e0] at H0
    rw [e1] at H1
    rw [e2] at H2
    rw [e3] at H3
    have hR : rhF s = if c0 = 48 ∧ c1 = 120 then (if c2 = 48 then midF s 0 else if c2 = 49 then midF s 1 else none) else none := by unfold rhF; rw [e0, e1, e2]
    have hM : ∀ m, midF s m = if c3 = 46 then digF s 13 3 m else powF s 3 0 m := fun m => by unfold midF; rw [e3]
    have HM := hidR hM
    clear hM
    by_cases h0 : c0 = 48
    · subst h0
      by_cases h1 : c1 = 120
      · subst h1
        by_cases h2 : c2 = 48
        · subst h2
          by_cases h4 : c3 = 46
          · subst h4
            have hr : rhF s = digF s 13 3 0 := by rw [hR, HM.out 0]; simp
            clear hR HM
            go_wp2_with fail
            refine (turned0 H0).mono ?_
            rintro e9 w9 ⟨rfl, rfl⟩
            go_wp2_with fail
            refine (turned0 H1).mono ?_
            rintro e9 w9 ⟨rfl, rfl⟩
            go_wp2_with fail
            refine (turned0 H2).mono ?_
            rintro e9 w9 ⟨rfl, rfl⟩
            go_wp2_with fail
            refine (turned0 H3).mono ?_
            rintro e9 w9 ⟨rfl, rfl⟩
            go_wp2_with fail
            refine wp_label ?_
            rename_i K0 hK0
            refine hK0 _ _ ?_
            exact wp_fall (FL.out _ _ _ (Or.inr (Or.inr (Or.inr ⟨rfl, rfl, 13, 3, 0, by decide, by decide, by decide, hr, rhA_of rfl⟩)))) rfl (fun _ _ _ h => h)
          · have x4 := b3 h4
            have hr : rhF s = powF s 3 0 0 := by rw [hR, HM.out 0]; simp [h4]
            clear hR HM FL
            go_wp2_with fail
            refine (turned0 H0).mono ?_
            rintro e9 w9 ⟨rfl, rfl⟩
            go_wp2_with fail
            refine (turned0 H1).mono ?_
            rintro e9 w9 ⟨rfl, rfl⟩
            go_wp2_with fail
            refine (turned0 H2).mono ?_
            rintro e9 w9 ⟨rfl, rfl⟩
            go_wp2_with fail
            refine (turned0 H3).mono ?_
            rintro e9 w9 ⟨rfl, rfl⟩
            go_wp2_with fail
            refine wp_goto ?_
            exact Or.inr (Or.inr (Or.inl ⟨rfl, rfl, 3, 0, 0, by decide, by decide, hr, rhA_of rfl⟩))
        · by_cases h3 : c2 = 49
          · subst h3
            by_cases h4 : c3 = 46
            · subst h4
              have hr : rhF s = digF s 13 3 1 := by rw [hR, HM.out 1]; simp
              clear hR HM
              go_wp2_with fail
              refine (turned0 H0).mono ?_
              rintro e9 w9 ⟨rfl, rfl⟩
              go_wp2_with fail
              refine (turned0 H1).mono ?_
              rintro e9 w9 ⟨rfl, rfl⟩
              go_wp2_with fail
              refine (turned0 H2).mono ?_
              rintro e9 w9 ⟨rfl, rfl⟩
              go_wp2_with fail
              refine (turned0 H3).mono ?_
              rintro e9 w9 ⟨rfl, rfl⟩
              go_wp2_with fail
              refine wp_label ?_
              rename_i K0 hK0
              refine hK0 _ _ ?_
              exact wp_fall (FL.out _ _ _ (Or.inr (Or.inr (Or.inr ⟨rfl, rfl, 13, 3, 1, by decide, by decide, by decide, hr, rhA_of rfl⟩)))) rfl (fun _ _ _ h => h)
            · have x4 := b3 h4
              have hr : rhF s = powF s 3 0 1 := by rw [hR, HM.out 1]; simp [h4]
              clear hR HM FL
              go_wp2_with fail
              refine (turned0 H0).mono ?_
              rintro e9 w9 ⟨rfl, rfl⟩
              go_wp2_with fail
              refine (turned0 H1).mono ?_
              rintro e9 w9 ⟨rfl, rfl⟩
              go_wp2_with fail
              refine (turned0 H2).mono ?_
              rintro e9 w9 ⟨rfl, rfl⟩
              go_wp2_with fail
              refine (turned0 H3).mono ?_
              rintro e9 w9 ⟨rfl, rfl⟩
              go_wp2_with fail
              refine wp_goto ?_
              exact Or.inr (Or.inr (Or.inl ⟨rfl, rfl, 3, 0, 1, by decide, by decide, hr, rhA_of rfl⟩))
          · have x2 := b3 h2
            have x3 := b3 h3
            have hno : rhF s = none := by rw [hR]; simp [h2, h3]
            clear hR HM FL
            go_wp2_with fail
            refine (turned0 H0).mono ?_
            rintro e9 w9 ⟨rfl, rfl⟩
            go_wp2_with fail
            refine (turned0 H1).mono ?_
            rintro e9 w9 ⟨rfl, rfl⟩
            go_wp2_with fail
            refine (turned0 H2).mono ?_
            rintro e9 w9 ⟨rfl, rfl⟩
            go_wp2_with fail
            refine wp_goto ?_
            exact Or.inl ⟨rfl, hno, rfl, _, _, _, _, _, _, rhA_of rfl⟩
      · have x2 := b3 h1
        have hno : rhF s = none := by rw [hR]; simp [h1]
        clear hR HM FL
        go_wp2_with fail
        refine (turned0 H0).mono ?_
        rintro e9 w9 ⟨rfl, rfl⟩
        go_wp2_with fail
        refine (turned0 H1).mono ?_
        rintro e9 w9 ⟨rfl, rfl⟩
        go_wp2_with fail
        refine wp_goto ?_
        exact Or.inl ⟨rfl, hno, rfl, _, _, _, _, _, _, rhA_of rfl⟩
    · have x2 := b3 h0
      have hno : rhF s = none := by rw [hR]; simp [h0]
      clear hR HM FL
      go_wp2_with fail
      refine (turned0 H0).mono ?_
      rintro e9 w9 ⟨rfl, rfl⟩
      go_wp2_with fail
      refine wp_goto ?_
      exact Or.inl ⟨rfl, hno, rfl, _, _, _, _, _, _, rhA_of rfl⟩
  · have HH := hidR HF
    clear HF
    rcases hJ with ⟨rfl, hno, rfl, m, e, i, d, p, g, u, rfl⟩ | ⟨rfl, rfl, n, i, e, d, m, g, hn, hi, he, hd, hg, hr, u, rfl⟩ | ⟨rfl, rfl, i, d, m, hi, hd, hr, u, rfl⟩ | ⟨rfl, rfl, n, i, m, hn, hi, hm, hr, u, rfl⟩
    all_goals unfold rhA
    · refine ⟨_, rfl, ?_⟩
      go_wp2_with fail
      simp only [Exit.hop]
      go_ret3
      exact ⟨by rw [hno]; rfl, rfl⟩
    · refine ⟨_, rfl, ?_⟩
      have f1 : IntKind.i64.wrap ((i : Int) + 1) = (i : Int) + 1 := by rw [IntKind.wrap_i64]; omega
      have HA1 := at_any s (i + 1) w2
      rw [show ((i + 1 : Nat) : Int) = (i : Int) + 1 from rfl] at HA1
      have HD1 := dig_any (byN s (i + 1)) w2
      obtain ⟨c, hc⟩ : ∃ c, byN s (i + 1) = c := ⟨_, rfl⟩
      rw [hc] at HA1 HD1
      have hee : e < 10000 := Nat.lt_of_lt_of_le he (Nat.le_trans (Nat.pow_le_pow_right (by decide) (Nat.sub_le 4 n)) (by decide))
      have f2 : IntKind.i64.wrap (g * (e : Int)) = g * (e : Int) := by rw [IntKind.wrap_i64]; rcases hg with rfl | rfl <;> omega
      have f3 : IntKind.i64.wrap ((d : Int) * 4) = (d : Int) * 4 := by rw [IntKind.wrap_i64]; omega
      have f4 : IntKind.i64.wrap (g * (e : Int) - (d : Int) * 4) = g * (e : Int) - (d : Int) * 4 := by rw [IntKind.wrap_i64]; rcases hg with rfl | rfl <;> omega
      cases n with
      | zero =>
        have hp : pwF s 0 i e = (i + 1, e) := rfl
        rw [hp] at hr
        by_cases hend : i + 1 = s.size
        · have hr1 : rhF s = some (m, g * (e : Int) - (d : Int) * 4) := by rw [hr]; unfold endF; rw [if_pos hend]
          have he1 : (((i : Int) + 1) == (s.size : Int)) = true := by rw [beq_iff_eq]; omega
          clear hr hp he hee HH
          cases hx : dgB c
          all_goals
            rw [hx] at HD1
            go_wp2_with fail
            refine (turned0 HA1).mono ?_
            rintro e9 w9 ⟨rfl, rfl⟩
            go_wp2_with fail
            refine (turned0 HD1).mono ?_
            rintro e9 w9 ⟨rfl, rfl⟩
            go_wp2_with fail
            simp only [Exit.hop]
            go_ret3
            exact ⟨by rw [hr1]; rfl, rfl⟩
        · have hno : rhF s = none := by rw [hr]; unfold endF; rw [if_neg hend]
          have he1 : (((i : Int) + 1) == (s.size : Int)) = false := by rw [beq_eq_false_iff_ne]; omega
          have FL := hidR (HH.out 0)
          clear hr hp he hee HH
          cases hx : dgB c
          all_goals
            rw [hx] at HD1
            go_wp2_with fail
            refine (turned0 HA1).mono ?_
            rintro e9 w9 ⟨rfl, rfl⟩
            go_wp2_with fail
            refine (turned0 HD1).mono ?_
            rintro e9 w9 ⟨rfl, rfl⟩
            go_wp2_with fail
            refine wp_label ?_
            rename_i K0 hK0
            refine hK0 _ _ ?_
            refine wp_fall (FL.out _ _ (Or.inl ⟨rfl, hno, rfl, _, _, _, _, _, _, rhA_of rfl⟩) ?_) rfl (fun _ _ _ h => h)
            exact (by decide : 0 < 10 + 5 - ((4 : Int) - ((0 : Nat) : Int)).toNat)
      | succ k =>
        have q0 : (4 : Int) - ((k + 1 : Nat) : Int) < 4 := by omega
        cases hx : dgB c
        · rw [hx] at HD1
          have hp : pwF s (k + 1) i e = (i + 1, e) := by unfold pwF; rw [hc, hx]; rfl
          rw [hp] at hr
          by_cases hend : i + 1 = s.size
          · have hr1 : rhF s = some (m, g * (e : Int) - (d : Int) * 4) := by rw [hr]; unfold endF; rw [if_pos hend]
            have he1 : (((i : Int) + 1) == (s.size : Int)) = true := by rw [beq_iff_eq]; omega
            clear hr hp he hee HH
            go_wp2_with fail
            refine (turned0 HA1).mono ?_
            rintro e9 w9 ⟨rfl, rfl⟩
            go_wp2_with fail
            refine (turned0 HD1).mono ?_
            rintro e9 w9 ⟨rfl, rfl⟩
            go_wp2_with fail
            simp only [Exit.hop]
            go_ret3
            exact ⟨by rw [hr1]; rfl, rfl⟩
          · have hno : rhF s = none := by rw [hr]; unfold endF; rw [if_neg hend]
            have he1 : (((i : Int) + 1) == (s.size : Int)) = false := by rw [beq_eq_false_iff_ne]; omega
            have FL := hidR (HH.out 0)
            clear hr hp he hee HH
            go_wp2_with fail
            refine (turned0 HA1).mono ?_
            rintro e9 w9 ⟨rfl, rfl⟩
            go_wp2_with fail
            refine (turned0 HD1).mono ?_
            rintro e9 w9 ⟨rfl, rfl⟩
            go_wp2_with fail
            refine wp_label ?_
            rename_i K0 hK0
            refine hK0 _ _ ?_
            refine wp_fall (FL.out _ _ (Or.inl ⟨rfl, hno, rfl, _, _, _, _, _, _, rhA_of rfl⟩) ?_) rfl (fun _ _ _ h => h)
            show 0 < 10 + 5 - ((4 : Int) - ((k + 1 : Nat) : Int)).toNat
            omega
        · rw [hx] at HD1
          have hcd : 48 ≤ c ∧ c ≤ 57 := by unfold dgB at hx; simpa using hx
          have hr1 : rhF s = endF s d m g (pwF s k (i + 1) (10 * e + (c - 48))) := by
            rw [hr]
            conv => lhs; unfold pwF
            rw [hc, hx]; simp
          have he2 : 10 * e + (c - 48) < 10 ^ (4 - k) := by
            have : 10 ^ (4 - k) = 10 ^ (4 - (k + 1)) * 10 := by rw [← Nat.pow_succ]; congr 1; omega
            omega
          have g1 : IntKind.u8.wrap ((c : Int) - 48) = (c : Int) - 48 := by rw [IntKind.wrap_u8]; omega
          have g2 : IntKind.i64.wrap ((c : Int) - 48) = (c : Int) - 48 := by rw [IntKind.wrap_i64]; omega
          have g3 : IntKind.i64.wrap (10 * (e : Int)) = 10 * (e : Int) := by rw [IntKind.wrap_i64]; omega
          have g4 : IntKind.i64.wrap (10 * (e : Int) + ((c : Int) - 48)) = 10 * (e : Int) + ((c : Int) - 48) := by rw [IntKind.wrap_i64]; omega
          have g5 : IntKind.i64.wrap ((4 : Int) - ((k + 1 : Nat) : Int) + 1) = (4 : Int) - ((k + 1 : Nat) : Int) + 1 := by rw [IntKind.wrap_i64]; omega
          clear hr HH f2 f3 f4
          go_wp2_with fail
          refine (turned0 HA1).mono ?_
          rintro e9 w9 ⟨rfl, rfl⟩
          go_wp2_with fail
          refine (turned0 HD1).mono ?_
          rintro e9 w9 ⟨rfl, rfl⟩
          go_wp2_with fail
          refine wp_goto ?_
          have z1 : (10 * (e : Int) + ((c : Int) - 48)) = ((10 * e + (c - 48) : Nat) : Int) := by omega
          have z2 : (4 : Int) - ((k : Int) + 1) + 1 = 4 - (k : Int) := by omega
          rw [z1, z2]
          refine ⟨Or.inr (Or.inl ⟨rfl, rfl, k, i + 1, 10 * e + (c - 48), d, m, g, by omega, by omega, he2, hd, hg, hr1, rhA_of rfl⟩), ?_⟩
          show 10 + 5 - ((4 : Int) - (k : Int)).toNat < 10 + 5 - ((4 : Int) - ((k + 1 : Nat) : Int)).toNat
          omega
    · refine ⟨_, rfl, ?_⟩
      have f1 : IntKind.i64.wrap ((i : Int) + 1) = (i : Int) + 1 := by rw [IntKind.wrap_i64]; omega
      have HA0 := at_any s i w2
      have HA1 := at_any s (i + 1) w2
      rw [show ((i + 1 : Nat) : Int) = (i : Int) + 1 from rfl] at HA1
      obtain ⟨c0, hc0⟩ : ∃ c, byN s i = c := ⟨_, rfl⟩
      obtain ⟨c, hc⟩ : ∃ c, byN s (i + 1) = c := ⟨_, rfl⟩
      rw [hc0] at HA0
      rw [hc] at HA1
      have hR : rhF s = if c0 = 112 then (if c = 43 then endF s d m 1 (pwF s 4 (i + 1) 0) else if c = 45 then endF s d m (-1) (pwF s 4 (i + 1) 0) else none) else none := by rw [hr]; unfold powF; rw [hc0, hc]
      clear hr
      by_cases h0 : c0 = 112
      · subst h0
        by_cases h1 : c = 43
        · subst h1
          have hr : rhF s = endF s d m 1 (pwF s 4 (i + 1) 0) := by rw [hR]; simp
          have FL := hidR (HH.out 3)
          clear hR HH
          go_wp2_with fail
          refine (turned0 HA0).mono ?_
          rintro e9 w9 ⟨rfl, rfl⟩
          go_wp2_with fail
          refine (turned0 HA1).mono ?_
          rintro e9 w9 ⟨rfl, rfl⟩
          go_wp2_with fail
          refine wp_label ?_
          rename_i K0 hK0
          refine hK0 _ _ ?_
          refine wp_fall (FL.out _ _ (Or.inr (Or.inl ⟨rfl, rfl, 4, i + 1, 0, d, m, 1, by decide, by omega, by decide, hd, Or.inl rfl, hr, rhA_of rfl⟩)) ?_) rfl (fun _ _ _ h => h)
          exact (by decide : 10 + 5 - (0 : Int).toNat < 50)
        · by_cases h2 : c = 45
          · subst h2
            have hr : rhF s = endF s d m (-1) (pwF s 4 (i + 1) 0) := by rw [hR]; simp
            have FL := hidR (HH.out 3)
            clear hR HH
            go_wp2_with fail
            refine (turned0 HA0).mono ?_
            rintro e9 w9 ⟨rfl, rfl⟩
            go_wp2_with fail
            refine (turned0 HA1).mono ?_
            rintro e9 w9 ⟨rfl, rfl⟩
            go_wp2_with fail
            refine wp_label ?_
            rename_i K0 hK0
            refine hK0 _ _ ?_
            refine wp_fall (FL.out _ _ (Or.inr (Or.inl ⟨rfl, rfl, 4, i + 1, 0, d, m, -1, by decide, by omega, by decide, hd, Or.inr rfl, hr, rhA_of rfl⟩)) ?_) rfl (fun _ _ _ h => h)
            exact (by decide : 10 + 5 - (0 : Int).toNat < 50)
          · have x1 := b3 h1
            have x2 := b3 h2
            have hno : rhF s = none := by rw [hR]; simp [h1, h2]
            clear hR HH
            go_wp2_with fail
            refine (turned0 HA0).mono ?_
            rintro e9 w9 ⟨rfl, rfl⟩
            go_wp2_with fail
            refine (turned0 HA1).mono ?_
            rintro e9 w9 ⟨rfl, rfl⟩
            go_wp2_with fail
            refine wp_goto ?_
            refine ⟨Or.inl ⟨rfl, hno, rfl, _, _, _, _, _, _, rhA_of rfl⟩, ?_⟩
            exact (by decide : 0 < 50)
      · have x1 := b3 h0
        have hno : rhF s = none := by rw [hR]; simp [h0]
        clear hR HH
        go_wp2_with fail
        refine (turned0 HA0).mono ?_
        rintro e9 w9 ⟨rfl, rfl⟩
        go_wp2_with fail
        refine wp_goto ?_
        refine ⟨Or.inl ⟨rfl, hno, rfl, _, _, _, _, _, _, rhA_of rfl⟩, ?_⟩
        exact (by decide : 0 < 50)
    · refine ⟨_, rfl, ?_⟩
      have f1 : IntKind.i64.wrap ((i : Int) + 1) = (i : Int) + 1 := by rw [IntKind.wrap_i64]; omega
      have HA1 := at_any s (i + 1) w2
      rw [show ((i + 1 : Nat) : Int) = (i : Int) + 1 from rfl] at HA1
      have HD1 := hexDig_any (byN s (i + 1)) w2
      obtain ⟨c, hc⟩ : ∃ c, byN s (i + 1) = c := ⟨_, rfl⟩
      rw [hc] at HA1 HD1
      have ci : (13 : Int) - (n : Int) = ((13 - n : Nat) : Int) := by omega
      by_cases hx : hxB c = true ∧ 0 < n
      · obtain ⟨hx, hn0⟩ := hx
        obtain ⟨k, rfl⟩ : ∃ k, n = k + 1 := ⟨n - 1, by omega⟩
        have hr1 : rhF s = digF s k (i + 1) (m * 16 + hxV c) := by
          rw [hr]; unfold digF
          conv => lhs; unfold dgF
          rw [hc, hx]; simp
        have hv : hxV c < 16 := by
          unfold hxB dgB at hx
          unfold hxV dgB
          simp at hx ⊢
          split <;> omega
        have hm2 : m * 16 + hxV c < 2 * 16 ^ (13 - k) := by
          have : 16 ^ (13 - k) = 16 ^ (13 - (k + 1)) * 16 := by rw [← Nat.pow_succ]; congr 1; omega
          omega
        have hm3 : m * 16 + hxV c < 9007199254740992 := Nat.lt_of_lt_of_le hm2 (Nat.le_trans (Nat.mul_le_mul_left 2 (Nat.pow_le_pow_right (by decide) (Nat.sub_le 13 k))) (by decide))
        obtain ⟨v, hvv⟩ : ∃ v, hxV c = v := ⟨_, rfl⟩
        rw [hx, if_pos rfl, hvv] at HD1
        rw [hvv] at hr1 hv hm2 hm3
        have q0 : (13 : Int) - ((k + 1 : Nat) : Int) < 13 := by omega
        have q1 : IntKind.i64.wrap ((13 : Int) - ((k + 1 : Nat) : Int) + 1) = (13 : Int) - ((k + 1 : Nat) : Int) + 1 := by rw [IntKind.wrap_i64]; omega
        clear hr HH ci
        go_wp2_with fail
        refine (turned0 HA1).mono ?_
        rintro e9 w9 ⟨rfl, rfl⟩
        go_wp2_with fail
        refine (turned0 HD1).mono ?_
        rintro e9 w9 ⟨rfl, rfl⟩
        go_wp2_with fail
        refine wp_goto ?_
        have z1 : bits BinOp.or IntKind.i64 ((m : Int) * 16) (v : Int) = ((m * 16 + v : Nat) : Int) := by
          rw [bits_join .i64 62 (by decide) (fun n h1 h2 => by rw [IntKind.wrap_i64]; omega) 4 ((m : Int) * 16) (v : Int) (by omega) (by omega) (by omega) (by omega) (by omega) (by omega)]
          omega
        have z2 : (13 : Int) - ((k : Int) + 1) + 1 = 13 - (k : Int) := by omega
        rw [z1, z2]
        refine ⟨Or.inr (Or.inr (Or.inr ⟨rfl, rfl, k, i + 1, m * 16 + v, by omega, by omega, hm2, hr1, rhA_of rfl⟩)), ?_⟩
        show 100 + 30 - ((i : Int) + 1).toNat < 100 + 30 - (i : Int).toNat
        omega
      · have hr1 : rhF s = powF s (i + 1) (13 - n) m := by
          rw [hr]; unfold digF
          cases n with
          | zero => rfl
          | succ k => unfold dgF; rw [hc, show hxB c = false by simpa using hx]; simp
        have FL := hidR (HH.out 1)
        clear HH
        by_cases hx2 : hxB c = true
        · have hn0 : n = 0 := by simp only [hx2, true_and] at hx; omega
          subst hn0
          rw [hx2, if_pos rfl] at HD1
          go_wp2_with fail
          refine (turned0 HA1).mono ?_
          rintro e9 w9 ⟨rfl, rfl⟩
          go_wp2_with fail
          refine (turned0 HD1).mono ?_
          rintro e9 w9 ⟨rfl, rfl⟩
          go_wp2_with fail
          refine wp_label ?_
          rename_i K0 hK0
          refine hK0 _ _ ?_
          refine wp_fall (FL.out _ _ (Or.inr (Or.inr (Or.inl ⟨rfl, rfl, i + 1, 13, m, by omega, by omega, hr1, rhA_of rfl⟩))) ?_) rfl (fun _ _ _ h => h)
          show 50 < 100 + 30 - ((i : Int)).toNat
          omega
        · have hx3 : hxB c = false := by simpa using hx2
          rw [hx3] at HD1
          rw [ci]
          go_wp2_with fail
          refine (turned0 HA1).mono ?_
          rintro e9 w9 ⟨rfl, rfl⟩
          go_wp2_with fail
          refine (turned0 HD1).mono ?_
          rintro e9 w9 ⟨rfl, rfl⟩
          go_wp2_with fail
          refine wp_label ?_
          rename_i K0 hK0
          refine hK0 _ _ ?_
          refine wp_fall (FL.out _ _ (Or.inr (Or.inr (Or.inl ⟨rfl, rfl, i + 1, 13 - n, m, by omega, by omega, hr1, rhA_of rfl⟩))) ?_) rfl (fun _ _ _ h => h)
          show 50 < 100 + 30 - ((i : Int)).toNat
          omega
end Go.Proofs.YtbgmbodedjhfoaaGreatDoor
