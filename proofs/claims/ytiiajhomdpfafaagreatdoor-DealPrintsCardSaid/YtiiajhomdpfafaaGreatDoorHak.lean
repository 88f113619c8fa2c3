/- text.at, text.isDigit, text.isWhole at any text. text.isWhole at any text. strconv.ParseFloat at three closed texts: 1, 3 and 0.5. text.Parse at three closed texts: 1, 3 and 0.5. The reader's next word: whatever the text. text.Parse at 0.1. text.Int at a text that is not of the form. text.readHex, in plain words; hexDigit. text.readHex at any text. -/
import Derived.Test.YtiiajhomdpfafaaGreatDoorDqS
import Derived.Handy
import Derived.Below
import Derived.BigFrame
import Derived.BigQuiet
import Derived.WalkSpells
import Derived.WalkLawsBesides
import Derived.Test.YtiiajhomdpfafaaGreatDoorProg
import Derived.WalkMore
import Derived.Deep.QuietTactic
import Derived.Laws.Rows
import Derived.Laws.BitsLemmas
namespace Go.Proofs.YtiiajhomdpfafaaGreatDoor
open Go.RowKit

def byN (s : ByteArray) (i : Nat) : Nat := if h : i < s.size then (s[i]'h).toNat else 0
def dgB (c : Nat) : Bool := decide (48 ≤ c ∧ c ≤ 57)
set_option maxRecDepth 20000 in
set_option maxHeartbeats 1600000 in
theorem at_any (s : ByteArray) (i : Nat) (w : World) : Calls Tryz.prog 140 #[.string s, .int .i64 (i : Int)] w fun e w' => e = .returned (.int .u8 (byN s i : Nat)) ∧ w' = w := by
  by_cases h : i < s.size
  · have hb : byN s i = (s[i]'h).toNat := by unfold byN; rw [dif_pos h]
    obtain ⟨c, hc⟩ : ∃ c, s[i]'h = c := ⟨_, rfl⟩
    have hbk : ∀ h, s[i]'h = c := fun _ => hc
    rw [hb, hc]
    have t1 : ¬ (s.size : Int) ≤ (i : Int) := by omega
    go_enter Tryz.func140, Tryz.ntmps140
    go_wp2
    go_ret
    exact ⟨rfl, rfl⟩
  · have hb : byN s i = 0 := by unfold byN; rw [dif_neg h]
    rw [hb]
    have t1 : (s.size : Int) ≤ (i : Int) := by omega
    go_enter Tryz.func140, Tryz.ntmps140
    go_wp2
    go_ret
    exact ⟨rfl, rfl⟩
set_option maxRecDepth 20000 in
set_option maxHeartbeats 1600000 in
theorem dig_any (c : Nat) (w : World) : Calls Tryz.prog 141 #[.int .u8 (c : Int)] w fun e w' => e = .returned (.bool (dgB c)) ∧ w' = w := by
  unfold dgB
  by_cases h1 : 48 ≤ c
  · by_cases h2 : c ≤ 57
    · rw [decide_eq_true ⟨h1, h2⟩]
      have t1 : decide ((48 : Int) ≤ (c : Int)) = true := decide_eq_true (by omega)
      have t2 : decide ((c : Int) ≤ 57) = true := decide_eq_true (by omega)
      have t3 : decide (48 ≤ c) = true := decide_eq_true h1
      have t4 : decide (c ≤ 57) = true := decide_eq_true h2
      go_enter Tryz.func141, Tryz.ntmps141
      go_wp2
      go_ret
      exact ⟨rfl, rfl⟩
    · rw [decide_eq_false (fun h => h2 h.2)]
      have t1 : decide ((48 : Int) ≤ (c : Int)) = true := decide_eq_true (by omega)
      have t2 : decide ((c : Int) ≤ 57) = false := decide_eq_false (by omega)
      have t3 : decide (48 ≤ c) = true := decide_eq_true h1
      have t4 : decide (c ≤ 57) = false := decide_eq_false h2
      go_enter Tryz.func141, Tryz.ntmps141
      go_wp2
      go_ret
      exact ⟨rfl, rfl⟩
  · rw [decide_eq_false (fun h => h1 h.1)]
    have t1 : decide ((48 : Int) ≤ (c : Int)) = false := decide_eq_false (by omega)
    have t3 : decide (48 ≤ c) = false := decide_eq_false h1
    go_enter Tryz.func141, Tryz.ntmps141
    go_wp2
    go_ret
    exact ⟨rfl, rfl⟩
end Go.Proofs.YtiiajhomdpfafaaGreatDoor
namespace Go.Proofs.YtiiajhomdpfafaaGreatDoor
open Go.RowKit

def WhP (s : ByteArray) : Prop := (s.size = 1 ∧ byN s 0 = 48) ∨ ∃ o, o ≤ 1 ∧ (o = 1 → byN s 0 = 45) ∧ 49 ≤ byN s o ∧ byN s o ≤ 57 ∧ ∀ j, o < j → j < s.size → dgB (byN s j) = true
theorem byN_in {s : ByteArray} {i : Nat} (h : byN s i ≠ 0) : i < s.size := by
  unfold byN at h
  split at h
  · assumption
  · exact absurd rfl h
structure DgR (s : ByteArray) (o i : Nat) : Prop where
  o1 : o ≤ 1
  mi : o = 1 → byN s 0 = 45
  lo : 49 ≤ byN s o
  hi : byN s o ≤ 57
  oi : o ≤ i
  il : i < s.size
  dg : ∀ j, o < j → j ≤ i → dgB (byN s j) = true
theorem DgR.whole {s : ByteArray} {o i : Nat} (h : DgR s o i) (hn : dgB (byN s (i + 1)) = false) : (i + 1 = s.size) ↔ WhP s := by
  have hil := h.il
  constructor
  · intro e
    exact Or.inr ⟨o, h.o1, h.mi, h.lo, h.hi, fun j h1 h2 => h.dg j h1 (by omega)⟩
  · rintro (⟨_, h48⟩ | ⟨o', h1, h2, h3, h4, h5⟩)
    · have lo := h.lo
      rcases (show o = 0 ∨ o = 1 by have := h.o1; omega) with rfl | rfl
      · omega
      · have := h.mi rfl; omega
    · have e : o' = o := by
        have lo := h.lo
        rcases (show o = 0 ∨ o = 1 by have := h.o1; omega) with rfl | rfl
        · rcases (show o' = 0 ∨ o' = 1 by omega) with rfl | rfl
          · rfl
          · have := h2 rfl; omega
        · rcases (show o' = 0 ∨ o' = 1 by omega) with rfl | rfl
          · have := h.mi rfl; omega
          · rfl
      subst e
      by_cases hlt : i + 1 < s.size
      · have := h5 (i + 1) (by have := h.oi; omega) hlt
        rw [hn] at this; cases this
      · omega
theorem wh_zero {s : ByteArray} (h : byN s 0 = 48) : ((1 : Int) == (s.size : Int)) = true ↔ WhP s := by
  rw [beq_iff_eq]
  constructor
  · intro e; exact Or.inl ⟨by omega, h⟩
  · rintro (⟨h1, _⟩ | ⟨o, h1, h2, h3, h4, _⟩)
    · omega
    · rcases (show o = 0 ∨ o = 1 by omega) with rfl | rfl
      · omega
      · have := h2 rfl; omega
theorem wh_no {s : ByteArray} {o : Nat} (h0 : byN s 0 ≠ 48) (ho : o = if byN s 0 = 45 then 1 else 0) (hc : byN s o = 48 ∨ dgB (byN s o) = false) : ¬ WhP s := by
  rintro (⟨_, h1⟩ | ⟨o', h1, h2, h3, h4, _⟩)
  · exact h0 h1
  · have e : o' = o := by
      rcases (show o' = 0 ∨ o' = 1 by omega) with rfl | rfl
      · rw [ho, if_neg (by omega)]
      · rw [ho, if_pos (h2 rfl)]
    subst e
    rcases hc with hc | hc
    · omega
    · unfold dgB at hc
      rw [decide_eq_false_iff_not] at hc
      exact hc ⟨by omega, h4⟩
theorem dg_bd {c : Nat} (h : dgB c = true) (h0 : c ≠ 48) : 49 ≤ c ∧ c ≤ 57 := by
  unfold dgB at h
  rw [decide_eq_true_eq] at h
  omega
theorem DgR.next {s : ByteArray} {o i : Nat} (h : DgR s o i) (hd : dgB (byN s (i + 1)) = true) : DgR s o (i + 1) := by
  have hne : byN s (i + 1) ≠ 0 := by
    unfold dgB at hd
    rw [decide_eq_true_eq] at hd
    omega
  refine ⟨h.o1, h.mi, h.lo, h.hi, by have := h.oi; omega, byN_in hne, fun j h1 h2 => ?_⟩
  by_cases e : j = i + 1
  · rw [e]; exact hd
  · exact h.dg j h1 (by omega)
def WhJ (s : ByteArray) (w0 : World) (l : Nat) (a : Act) (w : World) : Prop :=
  (l = 0 ∧ byN s 0 = 48 ∧ w = w0 ∧ ∃ u1 u2 u4 u5 u6 u7 u8 u9 u10 u11 u12 u13 u14 u15 u16 u17 u18 u19 u20 u21 u22 u23 u24 u25 u26 u27 u28 u29 u30 : Value, a = ⟨#[.string s, u1, u2, .int .i64 1, u4, u5, u6, u7, u8, u9, u10, u11, u12, u13, u14, u15, u16, u17, u18, u19, u20, u21, u22, u23, u24, u25, u26, u27, u28, u29, u30], []⟩) ∨
  (l = 1 ∧ ¬ WhP s ∧ w = w0 ∧ ∃ (i : Int) (u1 u2 u4 u5 u6 u7 u8 u9 u10 u11 u12 u13 u14 u15 u16 u17 u18 u19 u20 u21 u22 u23 u24 u25 u26 u27 u28 u29 u30 : Value), a = ⟨#[.string s, u1, u2, .int .i64 i, u4, u5, u6, u7, u8, u9, u10, u11, u12, u13, u14, u15, u16, u17, u18, u19, u20, u21, u22, u23, u24, u25, u26, u27, u28, u29, u30], []⟩) ∨
  (l = 2 ∧ w = w0 ∧ ∃ (o i : Nat) (u1 u2 u4 u5 u6 u7 u8 u9 u10 u11 u12 u13 u14 u15 u16 u17 u18 u19 u20 u21 u22 u23 u24 u25 u26 u27 u28 u29 u30 : Value), DgR s o i ∧ a = ⟨#[.string s, u1, u2, .int .i64 (i : Int), u4, u5, u6, u7, u8, u9, u10, u11, u12, u13, u14, u15, u16, u17, u18, u19, u20, u21, u22, u23, u24, u25, u26, u27, u28, u29, u30], []⟩)
theorem turned0 {P : Program} {f : Nat} {args : Array Value} {w : World} {e0 : Ending} (h : Calls P f args w fun e w' => e = e0 ∧ w' = w) : Calls P f args w fun e w' => e = e0 ∧ w = w' := h.mono fun _ _ ⟨a, b⟩ => ⟨a, b.symm⟩
set_option maxRecDepth 40000 in
set_option maxHeartbeats 6400000 in
theorem whole_any (s : ByteArray) (w : World) (hs : s.size ≤ 9223372036854775806) : Calls Tryz.prog 121 #[.string s] w fun e w' => ∃ B, e = .returned (.bool B) ∧ (B = true ↔ WhP s) ∧ w' = w := by
  have HA := fun (i : Nat) => at_any s i w
  have H0 := at_any s 0 w
  go_enter Tryz.func121, Tryz.ntmps121
  go_wp2_with fail
  refine wp_scope_many (WhJ s w) (fun l a _ => if l = 2 then s.size + 1 - (intOf (a.tmps.getD 3 undef)).toNat else 0) ?_ ?_
  · by_cases h48 : byN s 0 = 48
    · rw [h48] at H0
      go_wp2_with fail
      refine (turned0 H0).mono ?_
      rintro e w3 ⟨rfl, rfl⟩
      go_wp2_with fail
      refine wp_goto ?_
      exact Or.inl ⟨rfl, h48, rfl, _, _, _, _, _, _, _, _, _, _, _, _, _, _, _, _, _, _, _, _, _, _, _, _, _, _, _, _, _, rfl⟩
    · by_cases h45 : byN s 0 = 45
      · rw [h45] at H0
        have HO := at_any s 1 w
        by_cases hz : byN s 1 = 48
        · have hno : ¬ WhP s := wh_no (o := 1) h48 (by simp [h45]) (Or.inl hz)
          rw [hz] at HO
          go_wp2_with fail
          refine (turned0 H0).mono ?_
          rintro e w3 ⟨rfl, rfl⟩
          go_wp2_with fail
          refine (turned0 HO).mono ?_
          rintro e w3 ⟨rfl, rfl⟩
          go_wp2_with fail
          refine wp_goto ?_
          exact Or.inr (Or.inl ⟨rfl, hno, rfl, _, _, _, _, _, _, _, _, _, _, _, _, _, _, _, _, _, _, _, _, _, _, _, _, _, _, _, _, _, _, rfl⟩)
        · have HD := dig_any (byN s 1) w
          have ez : (((byN s 1 : Nat) : Int) == 48) = false := by rw [beq_eq_false_iff_ne]; omega
          cases hg : dgB (byN s 1)
          · have hno : ¬ WhP s := wh_no (o := 1) h48 (by simp [h45]) (Or.inr hg)
            rw [hg] at HD
            go_wp2_with fail
            refine (turned0 H0).mono ?_
            rintro e w3 ⟨rfl, rfl⟩
            go_wp2_with fail
            refine (turned0 HO).mono ?_
            rintro e w3 ⟨rfl, rfl⟩
            go_wp2_with fail
            refine (turned0 HD).mono ?_
            rintro e w3 ⟨rfl, rfl⟩
            go_wp2_with fail
            refine wp_goto ?_
            exact Or.inr (Or.inl ⟨rfl, hno, rfl, _, _, _, _, _, _, _, _, _, _, _, _, _, _, _, _, _, _, _, _, _, _, _, _, _, _, _, _, _, _, rfl⟩)
          · have hb := dg_bd hg hz
            have hd : DgR s 1 1 := ⟨by omega, fun _ => h45, hb.1, hb.2, Nat.le_refl _, byN_in (by omega), fun j h1 h2 => by omega⟩
            rw [hg] at HD
            go_wp2_with fail
            refine (turned0 H0).mono ?_
            rintro e w3 ⟨rfl, rfl⟩
            go_wp2_with fail
            refine (turned0 HO).mono ?_
            rintro e w3 ⟨rfl, rfl⟩
            go_wp2_with fail
            refine (turned0 HD).mono ?_
            rintro e w3 ⟨rfl, rfl⟩
            have hil := hd.il
            have HA1 := at_any s 2 w
            have HD1 := dig_any (byN s 2) w
            cases hdg : dgB (byN s 2)
            · rw [hdg] at HD1
              have HW := hd.whole hdg
              generalize byN s 2 = c1 at *
              go_wp2_with fail
              refine wp_label ?_
              go_wp2_with fail
              refine (turned0 HA1).mono ?_
              rintro e w3 ⟨rfl, rfl⟩
              go_wp2_with fail
              refine (turned0 HD1).mono ?_
              rintro e w3 ⟨rfl, rfl⟩
              go_wp2_with fail
              go_step3
              go_wp2_with fail
              simp only [Exit.hop]
              go_ret
              refine ⟨_, rfl, ?_, rfl⟩
              rw [beq_iff_eq, ← HW]; omega
            · rw [hdg] at HD1
              have hn := hd.next hdg
              generalize byN s 2 = c1 at *
              go_wp2_with fail
              refine wp_label ?_
              go_wp2_with fail
              refine (turned0 HA1).mono ?_
              rintro e w3 ⟨rfl, rfl⟩
              go_wp2_with fail
              refine (turned0 HD1).mono ?_
              rintro e w3 ⟨rfl, rfl⟩
              go_wp2_with fail
              refine wp_goto ?_
              exact Or.inr (Or.inr ⟨rfl, rfl, 1, 2, _, _, _, _, _, _, _, _, _, _, _, _, _, _, _, _, _, _, _, _, _, _, _, _, _, _, _, _, _, hn, rfl⟩)
      · have e48 : (((byN s 0 : Nat) : Int) == 48) = false := by rw [beq_eq_false_iff_ne]; omega
        have e45 : (((byN s 0 : Nat) : Int) == 45) = false := by rw [beq_eq_false_iff_ne]; omega
        have HO := at_any s 0 w
        by_cases hz : byN s 0 = 48
        · exact absurd hz h48
        · have HD := dig_any (byN s 0) w
          have ez : (((byN s 0 : Nat) : Int) == 48) = false := by rw [beq_eq_false_iff_ne]; omega
          cases hg : dgB (byN s 0)
          · have hno : ¬ WhP s := wh_no (o := 0) h48 (by simp [h45]) (Or.inr hg)
            rw [hg] at HD
            go_wp2_with fail
            refine (turned0 H0).mono ?_
            rintro e w3 ⟨rfl, rfl⟩
            go_wp2_with fail
            refine (turned0 HO).mono ?_
            rintro e w3 ⟨rfl, rfl⟩
            go_wp2_with fail
            refine (turned0 HD).mono ?_
            rintro e w3 ⟨rfl, rfl⟩
            go_wp2_with fail
            refine wp_goto ?_
            exact Or.inr (Or.inl ⟨rfl, hno, rfl, _, _, _, _, _, _, _, _, _, _, _, _, _, _, _, _, _, _, _, _, _, _, _, _, _, _, _, _, _, _, rfl⟩)
          · have hb := dg_bd hg hz
            have hd : DgR s 0 0 := ⟨by omega, (fun h => by omega), hb.1, hb.2, Nat.le_refl _, byN_in (by omega), fun j h1 h2 => by omega⟩
            rw [hg] at HD
            go_wp2_with fail
            refine (turned0 H0).mono ?_
            rintro e w3 ⟨rfl, rfl⟩
            go_wp2_with fail
            refine (turned0 HO).mono ?_
            rintro e w3 ⟨rfl, rfl⟩
            go_wp2_with fail
            refine (turned0 HD).mono ?_
            rintro e w3 ⟨rfl, rfl⟩
            have hil := hd.il
            have HA1 := at_any s 1 w
            have HD1 := dig_any (byN s 1) w
            cases hdg : dgB (byN s 1)
            · rw [hdg] at HD1
              have HW := hd.whole hdg
              generalize byN s 1 = c1 at *
              go_wp2_with fail
              refine wp_label ?_
              go_wp2_with fail
              refine (turned0 HA1).mono ?_
              rintro e w3 ⟨rfl, rfl⟩
              go_wp2_with fail
              refine (turned0 HD1).mono ?_
              rintro e w3 ⟨rfl, rfl⟩
              go_wp2_with fail
              go_step3
              go_wp2_with fail
              simp only [Exit.hop]
              go_ret
              refine ⟨_, rfl, ?_, rfl⟩
              rw [beq_iff_eq, ← HW]; omega
            · rw [hdg] at HD1
              have hn := hd.next hdg
              generalize byN s 1 = c1 at *
              go_wp2_with fail
              refine wp_label ?_
              go_wp2_with fail
              refine (turned0 HA1).mono ?_
              rintro e w3 ⟨rfl, rfl⟩
              go_wp2_with fail
              refine (turned0 HD1).mono ?_
              rintro e w3 ⟨rfl, rfl⟩
              go_wp2_with fail
              refine wp_goto ?_
              exact Or.inr (Or.inr ⟨rfl, rfl, 0, 1, _, _, _, _, _, _, _, _, _, _, _, _, _, _, _, _, _, _, _, _, _, _, _, _, _, _, _, _, _, hn, rfl⟩)
  · rintro l a w2 (⟨rfl, h48, rfl, u1, u2, u4, u5, u6, u7, u8, u9, u10, u11, u12, u13, u14, u15, u16, u17, u18, u19, u20, u21, u22, u23, u24, u25, u26, u27, u28, u29, u30, rfl⟩ | ⟨rfl, hno, rfl, i, u1, u2, u4, u5, u6, u7, u8, u9, u10, u11, u12, u13, u14, u15, u16, u17, u18, u19, u20, u21, u22, u23, u24, u25, u26, u27, u28, u29, u30, rfl⟩ | ⟨rfl, rfl, o, i, u1, u2, u4, u5, u6, u7, u8, u9, u10, u11, u12, u13, u14, u15, u16, u17, u18, u19, u20, u21, u22, u23, u24, u25, u26, u27, u28, u29, u30, hd, rfl⟩)
    · refine ⟨_, rfl, ?_⟩
      go_wp2_with fail
      simp only [Exit.hop]
      go_ret
      exact ⟨_, rfl, wh_zero h48, rfl⟩
    · refine ⟨_, rfl, ?_⟩
      go_wp2_with fail
      simp only [Exit.hop]
      go_ret
      exact ⟨_, rfl, by simp [hno], rfl⟩
    · refine ⟨_, rfl, ?_⟩
      have hil := hd.il
      have f1 : IntKind.i64.wrap ((i : Int) + 1) = (i : Int) + 1 := by rw [IntKind.wrap_i64]; omega
      have HA1 := at_any s (i + 1) w2
      rw [show ((i + 1 : Nat) : Int) = (i : Int) + 1 from rfl] at HA1
      have HD1 := dig_any (byN s (i + 1)) w2
      cases hdg : dgB (byN s (i + 1))
      · rw [hdg] at HD1
        have HW := hd.whole hdg
        generalize byN s (i + 1) = c at *
        go_wp2_with fail
        refine (turned0 HA1).mono ?_
        rintro e w3 ⟨rfl, rfl⟩
        go_wp2_with fail
        refine (turned0 HD1).mono ?_
        rintro e w3 ⟨rfl, rfl⟩
        go_wp2_with fail
        go_step3
        go_wp2_with fail
        simp only [Exit.hop]
        go_ret
        refine ⟨_, rfl, ?_, rfl⟩
        rw [beq_iff_eq, ← HW]; omega
      · rw [hdg] at HD1
        have hn := hd.next hdg
        generalize byN s (i + 1) = c at *
        go_wp2_with fail
        refine (turned0 HA1).mono ?_
        rintro e w3 ⟨rfl, rfl⟩
        go_wp2_with fail
        refine (turned0 HD1).mono ?_
        rintro e w3 ⟨rfl, rfl⟩
        go_wp2_with fail
        refine wp_goto ?_
        refine ⟨Or.inr (Or.inr ⟨rfl, rfl, o, i + 1, _, _, _, _, _, _, _, _, _, _, _, _, _, _, _, _, _, _, _, _, _, _, _, _, _, _, _, _, _, hn, rfl⟩), ?_⟩
        have hl2 := hn.il
        show s.size + 1 - ((i : Int) + 1).toNat < s.size + 1 - ((i : Int)).toNat
        omega
end Go.Proofs.YtiiajhomdpfafaaGreatDoor
namespace Go.Proofs.YtiiajhomdpfafaaGreatDoor
open Go.RowKit

theorem results_tmp7 {fn : Func} {a b c d e f g : Tmp} (h : fn.results = #[.tmp a, .tmp b, .tmp c, .tmp d, .tmp e, .tmp f, .tmp g]) (tmps : Array Value) (P : Program) (w : World) :
    (results fn tmps).run P w = .ok (.tuple #[tmps.getD a undef, tmps.getD b undef, tmps.getD c undef, tmps.getD d undef, tmps.getD e undef, tmps.getD f undef, tmps.getD g undef]) w := by
  simp [results, h]
structure PfT (gi gq gp b o c : Nat) (w : World) : Prop where
  mb : w.cell? ⟨gi, 0, none⟩ = some (.int .u64 52)
  op : w.cell? ⟨gq, 0, none⟩ = some (.bool true)
  pw : w.cell? ⟨gp, 0, none⟩ = some (.slice (some ⟨b, o, none⟩) 23 c)
  p1 : w.cell? ⟨b, o + 1, none⟩ = some (.float .f64 4621819117588971520)
set_option maxRecDepth 20000 in
set_option maxHeartbeats 3200000 in
theorem rf_1 (w : World) : Calls Tryz.prog 234 #[.string ⟨#[49]⟩] w fun e w' => e = .returned (.tuple #[.int .u64 1, .int .i64 0, .bool false, .bool false, .bool false, .int .i64 1, .bool true]) ∧ w' = w := by
  have hb0 : ∀ h, ({ data := #[49] } : ByteArray)[0]'h = 49 := fun _ => rfl
  go_enter Tryz.func234, Tryz.ntmps234
  go_wp2
  go_step3
  go_wp2
  go_step3
  go_wp2
  refine wp_loop_rounds 3 ?_
  rw [rounds_succ]
  go_wp2
  rw [rounds_succ]
  go_wp2
  simp only [Exit.noGoto_ret]
  refine bodyPost_ret (results_tmp7 rfl _ _ _) rfl ?_
  exact ⟨rfl, rfl⟩
set_option maxRecDepth 20000 in
set_option maxHeartbeats 3200000 in
theorem rf_3 (w : World) : Calls Tryz.prog 234 #[.string ⟨#[51]⟩] w fun e w' => e = .returned (.tuple #[.int .u64 3, .int .i64 0, .bool false, .bool false, .bool false, .int .i64 1, .bool true]) ∧ w' = w := by
  have hb0 : ∀ h, ({ data := #[51] } : ByteArray)[0]'h = 51 := fun _ => rfl
  go_enter Tryz.func234, Tryz.ntmps234
  go_wp2
  go_step3
  go_wp2
  go_step3
  go_wp2
  refine wp_loop_rounds 3 ?_
  rw [rounds_succ]
  go_wp2
  rw [rounds_succ]
  go_wp2
  simp only [Exit.noGoto_ret]
  refine bodyPost_ret (results_tmp7 rfl _ _ _) rfl ?_
  exact ⟨rfl, rfl⟩
set_option maxRecDepth 20000 in
set_option maxHeartbeats 3200000 in
theorem rf_05 (w : World) : Calls Tryz.prog 234 #[.string ⟨#[48, 46, 53]⟩] w fun e w' => e = .returned (.tuple #[.int .u64 5, .int .i64 (-1), .bool false, .bool false, .bool false, .int .i64 3, .bool true]) ∧ w' = w := by
  have hb0 : ∀ h, ({ data := #[48, 46, 53] } : ByteArray)[0]'h = 48 := fun _ => rfl
  have hb1 : ∀ h, ({ data := #[48, 46, 53] } : ByteArray)[1]'h = 46 := fun _ => rfl
  have hb2 : ∀ h, ({ data := #[48, 46, 53] } : ByteArray)[2]'h = 53 := fun _ => rfl
  go_enter Tryz.func234, Tryz.ntmps234
  go_wp2
  go_step3
  go_wp2
  go_step3
  go_wp2
  refine wp_loop_rounds 5 ?_
  rw [rounds_succ]
  go_wp2
  rw [rounds_succ]
  go_wp2
  rw [rounds_succ]
  go_wp2
  rw [rounds_succ]
  go_wp2
  simp only [Exit.noGoto_ret]
  refine bodyPost_ret (results_tmp7 rfl _ _ _) rfl ?_
  exact ⟨rfl, rfl⟩
set_option maxRecDepth 20000 in
set_option maxHeartbeats 3200000 in
theorem ax_1 (b o c : Nat) (w : World) (h : PfT 7 6 10 b o c w) : Calls Tryz.prog 244 #[.int .u64 1, .int .i64 0, .bool false] w fun e w' => e = .returned (.tuple #[.float .f64 4607182418800017408, .bool true]) ∧ w' = w := by
  obtain ⟨m, q, _, _⟩ := h
  go_enter Tryz.func244, Tryz.ntmps244
  go_wp2
  go_ret2
  exact ⟨by rfl, rfl⟩
set_option maxRecDepth 20000 in
set_option maxHeartbeats 3200000 in
theorem ax_3 (b o c : Nat) (w : World) (h : PfT 7 6 10 b o c w) : Calls Tryz.prog 244 #[.int .u64 3, .int .i64 0, .bool false] w fun e w' => e = .returned (.tuple #[.float .f64 4613937818241073152, .bool true]) ∧ w' = w := by
  obtain ⟨m, q, _, _⟩ := h
  go_enter Tryz.func244, Tryz.ntmps244
  go_wp2
  go_ret2
  exact ⟨by rfl, rfl⟩
theorem quo_05 (w : World) : (binOp .quo 43 (.float .f64 (floatOfInt .f64 5)) (.float .f64 4621819117588971520)).run Tryz.prog w = .ok (.float .f64 4602678819172646912) w := by kernel_rfl
set_option maxRecDepth 20000 in
set_option maxHeartbeats 3200000 in
theorem ax_05 (b o c : Nat) (w : World) (h : PfT 7 6 10 b o c w) : Calls Tryz.prog 244 #[.int .u64 5, .int .i64 (-1), .bool false] w fun e w' => e = .returned (.tuple #[.float .f64 4602678819172646912, .bool true]) ∧ w' = w := by
  obtain ⟨m, q, p0, p1⟩ := h
  have hq := quo_05
  go_enter Tryz.func244, Tryz.ntmps244
  go_wp2
  go_ret2
  exact ⟨by rfl, rfl⟩
set_option maxRecDepth 20000 in
set_option maxHeartbeats 3200000 in
theorem pf_1 (b o c : Nat) (w : World) (h : PfT 7 6 10 b o c w) : Calls Tryz.prog 104 #[.string ⟨#[49]⟩, .int .i64 64] w fun e w' => e = .returned (.tuple #[.float .f64 4607182418800017408, .nilIface]) ∧ w' = w := by
  have ha := ax_1 b o c w h
  have hr := rf_1 w
  obtain ⟨m, q, _, _⟩ := h
  have hb0 : ∀ h, ({ data := #[49] } : ByteArray)[0]'h = 49 := fun _ => rfl
  go_enter Tryz.func104, Tryz.ntmps104
  go_wp2_with (first | (go_at_call 234; refine hr.mono ?_; rintro e w' ⟨rfl, rfl⟩) | (go_at_call 244; refine ha.mono ?_; rintro e w' ⟨rfl, rfl⟩) | go_in)
  go_ret2
  exact ⟨rfl, rfl⟩
set_option maxRecDepth 20000 in
set_option maxHeartbeats 3200000 in
theorem pf_3 (b o c : Nat) (w : World) (h : PfT 7 6 10 b o c w) : Calls Tryz.prog 104 #[.string ⟨#[51]⟩, .int .i64 64] w fun e w' => e = .returned (.tuple #[.float .f64 4613937818241073152, .nilIface]) ∧ w' = w := by
  have ha := ax_3 b o c w h
  have hr := rf_3 w
  obtain ⟨m, q, _, _⟩ := h
  have hb0 : ∀ h, ({ data := #[51] } : ByteArray)[0]'h = 51 := fun _ => rfl
  go_enter Tryz.func104, Tryz.ntmps104
  go_wp2_with (first | (go_at_call 234; refine hr.mono ?_; rintro e w' ⟨rfl, rfl⟩) | (go_at_call 244; refine ha.mono ?_; rintro e w' ⟨rfl, rfl⟩) | go_in)
  go_ret2
  exact ⟨rfl, rfl⟩
set_option maxRecDepth 20000 in
set_option maxHeartbeats 3200000 in
theorem pf_05 (b o c : Nat) (w : World) (h : PfT 7 6 10 b o c w) : Calls Tryz.prog 104 #[.string ⟨#[48, 46, 53]⟩, .int .i64 64] w fun e w' => e = .returned (.tuple #[.float .f64 4602678819172646912, .nilIface]) ∧ w' = w := by
  have ha := ax_05 b o c w h
  have hr := rf_05 w
  obtain ⟨m, q, _, _⟩ := h
  have hb0 : ∀ h, ({ data := #[48, 46, 53] } : ByteArray)[0]'h = 48 := fun _ => rfl
  have hb1 : ∀ h, ({ data := #[48, 46, 53] } : ByteArray)[1]'h = 46 := fun _ => rfl
  have hb2 : ∀ h, ({ data := #[48, 46, 53] } : ByteArray)[2]'h = 53 := fun _ => rfl
  go_enter Tryz.func104, Tryz.ntmps104
  go_wp2_with (first | (go_at_call 234; refine hr.mono ?_; rintro e w' ⟨rfl, rfl⟩) | (go_at_call 244; refine ha.mono ?_; rintro e w' ⟨rfl, rfl⟩) | go_in)
  go_ret2
  exact ⟨rfl, rfl⟩
end Go.Proofs.YtiiajhomdpfafaaGreatDoor
namespace Go.Proofs.YtiiajhomdpfafaaGreatDoor
open Go.RowKit

set_option maxRecDepth 20000 in
set_option maxHeartbeats 3200000 in
theorem isd_1 (w : World) : Calls Tryz.prog 103 #[.string ⟨#[49]⟩] w fun e w' => e = .returned (.bool true) ∧ w' = w := by
  have hb0 : ∀ h, ({ data := #[49] } : ByteArray)[0]'h = 49 := fun _ => rfl
  go_enter Tryz.func103, Tryz.ntmps103
  go_wp2
  refine wp_scope_hops 3 ?_
  go_wp2
  go_step3
  go_wp2
  refine wp_goto ?_
  simp only [Exit.then, scopeN]
  refine ⟨_, rfl, ?_⟩
  go_wp2
  simp only [scopeN]
  go_ret
  exact ⟨rfl, rfl⟩
set_option maxRecDepth 20000 in
set_option maxHeartbeats 3200000 in
theorem tp_1 (b o c : Nat) (w : World) (h : PfT 7 6 10 b o c w) : Calls Tryz.prog 70 #[.string ⟨#[49]⟩] w fun e w' => e = .returned (.tuple #[.float .f64 4607182418800017408, .int .i64 0]) ∧ w' = w := by
  have h1 := isd_1 w
  have h2 := pf_1 b o c w h
  clear h
  go_enter Tryz.func70, Tryz.ntmps70
  go_wp2_with (first | (go_at_call 103; refine h1.mono ?_; rintro e w' ⟨rfl, rfl⟩) | (go_at_call 104; refine h2.mono ?_; rintro e w' ⟨rfl, rfl⟩))
  go_ret2
  exact ⟨rfl, rfl⟩
set_option maxRecDepth 20000 in
set_option maxHeartbeats 3200000 in
theorem isd_3 (w : World) : Calls Tryz.prog 103 #[.string ⟨#[51]⟩] w fun e w' => e = .returned (.bool true) ∧ w' = w := by
  have hb0 : ∀ h, ({ data := #[51] } : ByteArray)[0]'h = 51 := fun _ => rfl
  go_enter Tryz.func103, Tryz.ntmps103
  go_wp2
  refine wp_scope_hops 3 ?_
  go_wp2
  go_step3
  go_wp2
  refine wp_goto ?_
  simp only [Exit.then, scopeN]
  refine ⟨_, rfl, ?_⟩
  go_wp2
  simp only [scopeN]
  go_ret
  exact ⟨rfl, rfl⟩
set_option maxRecDepth 20000 in
set_option maxHeartbeats 3200000 in
theorem tp_3 (b o c : Nat) (w : World) (h : PfT 7 6 10 b o c w) : Calls Tryz.prog 70 #[.string ⟨#[51]⟩] w fun e w' => e = .returned (.tuple #[.float .f64 4613937818241073152, .int .i64 0]) ∧ w' = w := by
  have h1 := isd_3 w
  have h2 := pf_3 b o c w h
  clear h
  go_enter Tryz.func70, Tryz.ntmps70
  go_wp2_with (first | (go_at_call 103; refine h1.mono ?_; rintro e w' ⟨rfl, rfl⟩) | (go_at_call 104; refine h2.mono ?_; rintro e w' ⟨rfl, rfl⟩))
  go_ret2
  exact ⟨rfl, rfl⟩
set_option maxRecDepth 20000 in
set_option maxHeartbeats 3200000 in
theorem isd_05 (w : World) : Calls Tryz.prog 103 #[.string ⟨#[48, 46, 53]⟩] w fun e w' => e = .returned (.bool true) ∧ w' = w := by
  have hb0 : ∀ h, ({ data := #[48, 46, 53] } : ByteArray)[0]'h = 48 := fun _ => rfl
  have hb1 : ∀ h, ({ data := #[48, 46, 53] } : ByteArray)[1]'h = 46 := fun _ => rfl
  have hb2 : ∀ h, ({ data := #[48, 46, 53] } : ByteArray)[2]'h = 53 := fun _ => rfl
  go_enter Tryz.func103, Tryz.ntmps103
  go_wp2
  refine wp_scope_hops 3 ?_
  go_wp2
  go_step3
  go_wp2
  refine wp_goto ?_
  simp only [Exit.then, Exit.inBlock, scopeN]
  refine ⟨_, rfl, ?_⟩
  go_wp2
  go_step3
  go_wp2
  refine wp_goto ?_
  simp only [Exit.then, scopeN]
  refine ⟨_, rfl, ?_⟩
  go_wp2
  simp only [scopeN]
  go_ret
  exact ⟨rfl, rfl⟩
set_option maxRecDepth 20000 in
set_option maxHeartbeats 3200000 in
theorem tp_05 (b o c : Nat) (w : World) (h : PfT 7 6 10 b o c w) : Calls Tryz.prog 70 #[.string ⟨#[48, 46, 53]⟩] w fun e w' => e = .returned (.tuple #[.float .f64 4602678819172646912, .int .i64 0]) ∧ w' = w := by
  have h1 := isd_05 w
  have h2 := pf_05 b o c w h
  clear h
  go_enter Tryz.func70, Tryz.ntmps70
  go_wp2_with (first | (go_at_call 103; refine h1.mono ?_; rintro e w' ⟨rfl, rfl⟩) | (go_at_call 104; refine h2.mono ?_; rintro e w' ⟨rfl, rfl⟩))
  go_ret2
  exact ⟨rfl, rfl⟩
end Go.Proofs.YtiiajhomdpfafaaGreatDoor
namespace Go.Proofs.YtiiajhomdpfafaaGreatDoor
open Go.RowKit

def RdB (w : World) (b : Nat) (s : ByteArray) (kv : Value) (a n g : Int) (tv : Value) : Prop := w.heap[b]? = some (.cells #[.string s, kv, .int .i64 a, .int .i64 n, .int .i64 g, tv] 80 (0, 0))
structure OneB (b : Nat) (w w' : World) : Prop where
  os : w'.os = w.os
  tape : w'.tape = w.tape
  output : w'.output = w.output
  size : w'.heap.size = w.heap.size
  out : ∀ k, k ≠ b → w'.heap[k]? = w.heap[k]?
theorem OneB.refl (b : Nat) (w : World) : OneB b w w := ⟨rfl, rfl, rfl, rfl, fun _ _ => rfl⟩
theorem OneB.set {b : Nat} {w w' : World} (h : OneB b w w') (i : Nat) (v : Value) : OneB b w (w'.setCell ⟨b, i, none⟩ v) := by
  have hb := (Below.refl 0 w').setCell (p := ⟨b, i, none⟩) (Nat.zero_le _) v
  refine ⟨hb.os.trans h.os, hb.tape.trans h.tape, hb.output.trans h.output, by rw [World.size_setCell]; exact h.size, fun k hk => ?_⟩
  rw [← h.out k hk]
  simp only [World.setCell, Array.getElem?_modify]
  rw [if_neg (by intro e; exact hk e.symm)]
theorem RdB.at2 {w : World} {b : Nat} {s : ByteArray} {kv tv : Value} {a n g : Int} (h : RdB w b s kv a n g tv) (x : Int) : RdB (w.setCell ⟨b, 2, none⟩ (.int .i64 x)) b s kv x n g tv := (heap_setCell_same w b 2 _ _ _ h).trans rfl
theorem RdB.at3 {w : World} {b : Nat} {s : ByteArray} {kv tv : Value} {a n g : Int} (h : RdB w b s kv a n g tv) (x : Int) : RdB (w.setCell ⟨b, 3, none⟩ (.int .i64 x)) b s kv a x g tv := (heap_setCell_same w b 3 _ _ _ h).trans rfl
theorem RdB.cells {w : World} {b : Nat} {s : ByteArray} {kv tv : Value} {a n g : Int} (h : RdB w b s kv a n g tv) : w.cell? ⟨b, 0, none⟩ = some (.string s) ∧ w.cell? ⟨b, 2, none⟩ = some (.int .i64 a) ∧ w.cell? ⟨b, 3, none⟩ = some (.int .i64 n) ∧ w.frozen? ⟨b, 2, none⟩ = false ∧ w.frozen? ⟨b, 3, none⟩ = false := by
  unfold RdB at h
  refine ⟨?_, ?_, ?_, ?_, ?_⟩
  · simp only [World.cell?, h, Option.isSome_none, Bool.false_eq_true, if_false]; rfl
  · simp only [World.cell?, h, Option.isSome_none, Bool.false_eq_true, if_false]; rfl
  · simp only [World.cell?, h, Option.isSome_none, Bool.false_eq_true, if_false]; rfl
  · simp [World.frozen?, h]
  · simp [World.frozen?, h]
structure WordR (s : ByteArray) (i a z : Nat) : Prop where
  ia : i ≤ a
  az : a ≤ z
  zs : z ≤ s.size
  bl : ∀ j (h : j < s.size), i ≤ j → j < a → s[j] = 32
  nb : ∀ j (h : j < s.size), a ≤ j → j < z → s[j] ≠ 32
  en : ∀ h : z < s.size, s[z] = 32
  st : ∀ h : a < s.size, s[a] ≠ 32
set_option maxRecDepth 20000 in
set_option maxHeartbeats 6400000 in
theorem word_any (b : Nat) (s : ByteArray) (kv tv : Value) (a0 g : Int) (i : Nat) (w : World) (h : RdB w b s kv a0 i g tv) (hi : i ≤ s.size) (hs : s.size ≤ 9223372036854775806) :
    Calls Tryz.prog 27 #[.pointer (some ⟨b, 0, none⟩)] w fun e w' => ∃ a z, WordR s i a z ∧ e = .returned (.string (s.extract a z)) ∧ RdB w' b s kv a z g tv ∧ OneB b w w' := by
  have H1 := h.at2 (i : Int)
  obtain ⟨c0, c2, c3, f2, f3⟩ := h.cells
  obtain ⟨w1, hw1⟩ : ∃ w1, w.setCell ⟨b, 2, none⟩ (.int .i64 (i : Int)) = w1 := ⟨_, rfl⟩
  have HO1 := ((OneB.refl b w).set 2 (.int .i64 (i : Int)))
  rw [hw1] at H1 HO1
  go_enter Tryz.func27, Tryz.ntmps27
  go_wp2
  clear c0 c2 c3 f2 f3 hw1
  go_loopw [31] (fun _ wr => ∃ k : Nat, i ≤ k ∧ k ≤ s.size ∧ Hid (∀ j (h : j < s.size), i ≤ j → j < k → s[j] = 32) ∧ Hid (RdB wr b s kv k i g tv ∧ OneB b w wr)) (fun _ wr => s.size - (intOf ((wr.cell? ⟨b, 2, none⟩).getD (.int .i64 0))).toNat)
  case atStart => exact ⟨i, Nat.le_refl _, hi, fun j _ h1 h2 => by omega, ⟨H1, HO1⟩⟩
  case round =>
    clear H1 HO1
    obtain ⟨k, hk1, hk2, HBl, HR⟩ := hrel
    obtain ⟨d0, d2, d3, g2, g3⟩ := HR.out.1.cells
    by_cases hlt : k < s.size
    · obtain ⟨c, hc⟩ : ∃ c, s[k] = c := ⟨_, rfl⟩
      have hbk : ∀ h, s[k]'h = c := fun _ => hc
      have t1 : decide ((k : Int) < (s.size : Int)) = true := decide_eq_true (by omega)
      by_cases hc32 : c = 32
      · subst hc32
        go_wp2
        go_quiet (fail)
        go_wp2
        have HX : RdB ((wr.drewN nq).setCell ⟨b, 2, none⟩ (.int .i64 ((k : Int) + 1))) b s kv ((k + 1 : Nat) : Int) i g tv := (RdB.at2 (w := wr.drewN nq) HR.out.1 ((k : Int) + 1))
        have e1 := HX.cells.2.1
        refine ⟨⟨k + 1, by omega, by omega, fun j h h1 h2 => ?_, ⟨HX, ?_⟩⟩, ?_⟩
        · by_cases e : j = k
          · subst e; exact hbk h
          · exact HBl.out j h h1 (by omega)
        · have := HR.out.2
          exact OneB.set (w' := wr.drewN nq) ⟨this.os, this.tape, this.output, this.size, this.out⟩ 2 _
        · rw [e1, d2]; simp [intOf]; omega
      · have t2 : ((c.toNat : Int) == 32) = false := by
          rw [beq_eq_false_iff_ne]
          intro e
          have e2 : c.toNat = 32 := by omega
          exact hc32 (UInt8.toNat_inj.1 e2)
        have t3 : (c.toNat == 32) = false := by
          rw [beq_eq_false_iff_ne]
          intro e
          exact hc32 (UInt8.toNat_inj.1 e)
        have HSt : Hid (∀ h : k < s.size, s[k] ≠ 32) := fun h => by rw [hbk h]; exact hc32
        go_wp2
        go_quiet (fail)
        have HX := HR.out.1.at3 (k : Int)
        obtain ⟨w3, hw3⟩ : ∃ w3, (wr.drewN nq).setCell ⟨b, 3, none⟩ (.int .i64 (k : Int)) = w3 := ⟨_, rfl⟩
        have H3 : RdB w3 b s kv k k g tv := by rw [← hw3]; exact HX
        have HO3 : OneB b w w3 := by
          have := HR.out.2
          rw [← hw3]; exact OneB.set (w' := wr.drewN nq) ⟨this.os, this.tape, this.output, this.size, this.out⟩ 3 _
        clear HX
        go_wp2
        clear d0 d2 d3 g2 g3 hw3 HR
        go_loopw [67] (fun _ wr => ∃ z : Nat, k ≤ z ∧ z ≤ s.size ∧ Hid (∀ j (h : j < s.size), k ≤ j → j < z → s[j] ≠ 32) ∧ Hid (RdB wr b s kv k z g tv ∧ OneB b w wr)) (fun _ wr => s.size - (intOf ((wr.cell? ⟨b, 3, none⟩).getD (.int .i64 0))).toNat)
        case atStart => exact ⟨k, Nat.le_refl _, hk2, fun j _ h1 h2 => by omega, ⟨H3, HO3⟩⟩
        case round =>
          clear H3 HO3
          obtain ⟨z, hz1, hz2, HNb, HR⟩ := hrel
          obtain ⟨d0, d2, d3, g2, g3⟩ := HR.out.1.cells
          by_cases hzl : z < s.size
          · obtain ⟨c, hc⟩ : ∃ c, s[z] = c := ⟨_, rfl⟩
            have hbk : ∀ h, s[z]'h = c := fun _ => hc
            have t1 : decide ((z : Int) < (s.size : Int)) = true := decide_eq_true (by omega)
            by_cases hc32 : c = 32
            · subst hc32
              have HE : Hid (∀ h : z < s.size, s[z] = 32) := fun _ => hc
              clear hc
              go_wp2
              go_quiet (fail)
              go_wp2
              have HRd : RdB (wr.drewN nq) b s kv k z g tv := HR.out.1
              have HOd : OneB b w (wr.drewN nq) := ⟨HR.out.2.os, HR.out.2.tape, HR.out.2.output, HR.out.2.size, HR.out.2.out⟩
              clear d0 d2 d3 g2 g3
              generalize wr.drewN nq = w5 at *
              obtain ⟨d0, d2, d3, _, _⟩ := HRd.cells
              have k1 : (k : Int) ≤ (z : Int) := by omega
              have k2 : (z : Int) ≤ (s.size : Int) := by omega
              have k3 : (0 : Int) ≤ (k : Int) := by omega
              have k4 : (0 : Int) ≤ (z : Int) := by omega
              go_quiet (fail)
              go_wp2
              go_ret
              exact ⟨k, z, ⟨hk1, hz1, hz2, HBl.out, HNb.out, HE.out, HSt.out⟩, rfl, HRd, ⟨HOd.os, HOd.tape, HOd.output, HOd.size, HOd.out⟩⟩
            · have t2 : ((c.toNat : Int) != 32) = true := by
                rw [bne_iff_ne]
                intro e
                have e2 : c.toNat = 32 := by omega
                exact hc32 (UInt8.toNat_inj.1 e2)
              have t3 : (c.toNat != 32) = true := by
                rw [bne_iff_ne]
                intro e
                exact hc32 (UInt8.toNat_inj.1 e)
              go_wp2
              go_quiet (fail)
              go_wp2
              have HX : RdB ((wr.drewN nq).setCell ⟨b, 3, none⟩ (.int .i64 ((z : Int) + 1))) b s kv k ((z + 1 : Nat) : Int) g tv := (RdB.at3 (w := wr.drewN nq) HR.out.1 ((z : Int) + 1))
              have e1 := HX.cells.2.2.1
              refine ⟨⟨z + 1, by omega, by omega, fun j h h1 h2 => ?_, ⟨HX, ?_⟩⟩, ?_⟩
              · by_cases e : j = z
                · subst e; rw [hbk]; exact hc32
                · exact HNb.out j h h1 (by omega)
              · have := HR.out.2
                exact OneB.set (w' := wr.drewN nq) ⟨this.os, this.tape, this.output, this.size, this.out⟩ 3 _
              · rw [e1, d3]; simp [intOf]; omega
          · have t1 : decide ((z : Int) < (s.size : Int)) = false := decide_eq_false (by omega)
            go_wp2
            go_quiet (fail)
            go_wp2
            have HRd : RdB (wr.drewN nq) b s kv k z g tv := HR.out.1
            have HOd : OneB b w (wr.drewN nq) := ⟨HR.out.2.os, HR.out.2.tape, HR.out.2.output, HR.out.2.size, HR.out.2.out⟩
            clear d0 d2 d3 g2 g3
            generalize wr.drewN nq = w5 at *
            obtain ⟨d0, d2, d3, _, _⟩ := HRd.cells
            have k1 : (k : Int) ≤ (z : Int) := by omega
            have k2 : (z : Int) ≤ (s.size : Int) := by omega
            have k3 : (0 : Int) ≤ (k : Int) := by omega
            have k4 : (0 : Int) ≤ (z : Int) := by omega
            go_quiet (fail)
            go_wp2
            go_ret
            exact ⟨k, z, ⟨hk1, hz1, hz2, HBl.out, HNb.out, fun h => absurd h hzl, HSt.out⟩, rfl, HRd, ⟨HOd.os, HOd.tape, HOd.output, HOd.size, HOd.out⟩⟩
    · have t1 : decide ((k : Int) < (s.size : Int)) = false := decide_eq_false (by omega)
      have HSt : Hid (∀ h : k < s.size, s[k] ≠ 32) := fun h => absurd h hlt
      go_wp2
      go_quiet (fail)
      have HX := HR.out.1.at3 (k : Int)
      obtain ⟨w3, hw3⟩ : ∃ w3, (wr.drewN nq).setCell ⟨b, 3, none⟩ (.int .i64 (k : Int)) = w3 := ⟨_, rfl⟩
      have H3 : RdB w3 b s kv k k g tv := by rw [← hw3]; exact HX
      have HO3 : OneB b w w3 := by
        have := HR.out.2
        rw [← hw3]; exact OneB.set (w' := wr.drewN nq) ⟨this.os, this.tape, this.output, this.size, this.out⟩ 3 _
      clear HX
      go_wp2
      clear d0 d2 d3 g2 g3 hw3 HR
      go_loopw [67] (fun _ wr => ∃ z : Nat, k ≤ z ∧ z ≤ s.size ∧ Hid (∀ j (h : j < s.size), k ≤ j → j < z → s[j] ≠ 32) ∧ Hid (RdB wr b s kv k z g tv ∧ OneB b w wr)) (fun _ wr => s.size - (intOf ((wr.cell? ⟨b, 3, none⟩).getD (.int .i64 0))).toNat)
      case atStart => exact ⟨k, Nat.le_refl _, hk2, fun j _ h1 h2 => by omega, ⟨H3, HO3⟩⟩
      case round =>
        clear H3 HO3
        obtain ⟨z, hz1, hz2, HNb, HR⟩ := hrel
        obtain ⟨d0, d2, d3, g2, g3⟩ := HR.out.1.cells
        by_cases hzl : z < s.size
        · exact absurd hzl (by omega)
        · have t1 : decide ((z : Int) < (s.size : Int)) = false := decide_eq_false (by omega)
          go_wp2
          go_quiet (fail)
          go_wp2
          have HRd : RdB (wr.drewN nq) b s kv k z g tv := HR.out.1
          have HOd : OneB b w (wr.drewN nq) := ⟨HR.out.2.os, HR.out.2.tape, HR.out.2.output, HR.out.2.size, HR.out.2.out⟩
          clear d0 d2 d3 g2 g3
          generalize wr.drewN nq = w5 at *
          obtain ⟨d0, d2, d3, _, _⟩ := HRd.cells
          have k1 : (k : Int) ≤ (z : Int) := by omega
          have k2 : (z : Int) ≤ (s.size : Int) := by omega
          have k3 : (0 : Int) ≤ (k : Int) := by omega
          have k4 : (0 : Int) ≤ (z : Int) := by omega
          go_quiet (fail)
          go_wp2
          go_ret
          exact ⟨k, z, ⟨hk1, hz1, hz2, HBl.out, HNb.out, fun h => absurd h hzl, HSt.out⟩, rfl, HRd, ⟨HOd.os, HOd.tape, HOd.output, HOd.size, HOd.out⟩⟩
end Go.Proofs.YtiiajhomdpfafaaGreatDoor
namespace Go.Proofs.YtiiajhomdpfafaaGreatDoor
open Go.RowKit

end Go.Proofs.YtiiajhomdpfafaaGreatDoor
namespace Go.Proofs.YtiiajhomdpfafaaGreatDoor
open Go.RowKit

end Go.Proofs.YtiiajhomdpfafaaGreatDoor
namespace Go.Proofs.YtiiajhomdpfafaaGreatDoor
open Go.RowKit

def hxB (c : Nat) : Bool := dgB c || decide (97 ≤ c ∧ c ≤ 102)
def hxV (c : Nat) : Nat := if dgB c then c - 48 else c - 87
end Go.Proofs.YtiiajhomdpfafaaGreatDoor
namespace Go.Proofs.YtiiajhomdpfafaaGreatDoor
open Go.RowKit

end Go.Proofs.YtiiajhomdpfafaaGreatDoor
