/- Package deal: closed words are read: 1 as a whole number, 2030-01-01 as a day. Regions that draw their order and whose last operations write what others read: the reads may still be taken first. -/
import Derived.Test.YtiiajhomdpfafaaGreatDoorHak
import Derived.Test.YtiiajhomdpfafaaGreatDoorHas
import Derived.Test.YtiiajhomdpfafaaGreatDoorHaz
import Derived.Lib.ConvBytes
import Derived.Test.YtiiajhomdpfafaaGreatDoorHax
import Derived.Deep.RegionHeld3
namespace Go.Proofs.YtiiajhomdpfafaaGreatDoor
open Go.RowKit

theorem conv_1 (w : World) : ∃ C W1, (convert 9 109 (.string ⟨#[49]⟩)).run Tryz.prog w = .ok (.slice (some ⟨w.heap.size, 0, none⟩) 1 C) W1 ∧ W1.cell? ⟨w.heap.size, 0, none⟩ = some (.int .u8 49) ∧ Below w.heap.size w W1 := by
  refine ⟨_, _, Go.Lib.run_convert_string_bytes w 9 109 5 ⟨#[49]⟩ Tryz.underlying9 Tryz.underlying109 Tryz.underlying5, Go.Lib.bytesWorld_cell w _ _ 0 (by decide), ⟨rfl, rfl, rfl, by rw [Go.Lib.bytesWorld_size]; omega, fun k hk => Go.Lib.bytesWorld_at_old w _ _ k hk⟩⟩
set_option maxRecDepth 20000 in
set_option maxHeartbeats 3200000 in
theorem atoi_1 (w : World) : Calls Tryz.prog 159 #[.string ⟨#[49]⟩] w fun e w' => e = .returned (.tuple #[.int .i64 1, .nilIface]) ∧ Below w.heap.size w w' := by
  have hb0 : ∀ h, ({ data := #[49] } : ByteArray)[0]'h = 49 := fun _ => rfl
  obtain ⟨C, W1, hcv, hc0, hbl⟩ := conv_1 w
  have HB := hidD hbl
  clear hbl
  go_enter Tryz.func159, Tryz.ntmps159
  go_wp2
  refine wp_loop_rounds 3 ?_
  rw [rounds_succ]
  go_wp2
  rw [rounds_succ]
  go_wp2
  go_ret2
  exact ⟨rfl, HB.out⟩
def day20 : ByteArray := ⟨#[50, 48, 51, 48, 45, 48, 49, 45, 48, 49]⟩
theorem parse_20 (w : World) : Calls Tryz.prog 119 #[.string day20] w fun e w' => e = .returned (.tuple #[.int .i64 47482, .int .i64 0]) ∧ Below w.heap.size w w' := by
  have h := parse_day day20 w (by unfold txtOk; decide) (by unfold okD; decide)
  rw [show dayI (parseY day20) (parseM day20) (parseD day20) = 47482 by decide] at h
  exact h
theorem whp_1 : WhP ⟨#[49]⟩ := Or.inr ⟨0, by decide, by decide, by decide, by decide, fun j h1 h2 => absurd h2 (by show ¬ j < 1; omega)⟩
set_option maxRecDepth 20000 in
theorem satoi_1 (w : World) : Calls Tryz.prog 122 #[.string ⟨#[49]⟩] w fun e w' => e = .returned (.tuple #[.int .i64 1, .nilIface]) ∧ Below w.heap.size w w' := by
  have H := hidD (atoi_1 w)
  go_enter Tryz.func122, Tryz.ntmps122
  go_wp2_with fail
  refine H.out.mono ?_
  rintro e w1 ⟨rfl, hb⟩
  have HB := hidD hb
  clear hb
  go_wp2_with fail
  go_ret2
  exact ⟨rfl, HB.out⟩
set_option maxRecDepth 20000 in
theorem int_1 (w : World) : Calls Tryz.prog 82 #[.string ⟨#[49]⟩] w fun e w' => e = .returned (.tuple #[.int .i64 1, .bool true]) ∧ Below w.heap.size w w' := by
  have H := hidD (whole_any ⟨#[49]⟩ w (by decide))
  have HA := hidD satoi_1
  go_enter Tryz.func82, Tryz.ntmps82
  go_wp2_with fail
  refine H.out.mono ?_
  rintro e w1 ⟨B, rfl, hB, rfl⟩
  obtain rfl : B = true := hB.2 whp_1
  clear hB
  go_wp2_with fail
  refine (HA.out _).mono ?_
  rintro e w2 ⟨rfl, hb⟩
  have HB := hidD hb
  clear hb
  go_wp2_with fail
  go_ret2
  exact ⟨rfl, HB.out⟩
set_option maxRecDepth 20000 in
theorem readDay_20 (w : World) : Calls Tryz.prog 80 #[.string day20] w fun e w' => e = .returned (.tuple #[.int .i64 47482, .bool true]) ∧ Below w.heap.size w w' := by
  have H := hidD (parse_20 w)
  go_enter Tryz.func80, Tryz.ntmps80
  go_wp2_with fail
  refine H.out.mono ?_
  rintro e w1 ⟨rfl, hb⟩
  have HB := hidD hb
  clear hb
  go_wp2_with fail
  go_ret2
  exact ⟨rfl, HB.out⟩
def setT (t : Trm) (i : Nat) (v : Int) : Trm := if i = 5 then { t with day := v } else if i = 6 then { t with to := v } else if i = 7 then { t with cur := v } else if i = 8 then { t with count := v } else if i = 9 then { t with n := v } else { t with months := v }
theorem TrB.setI {w : World} {g : Nat} {t : Trm} (h : TrB w g t) {i : Nat} (h5 : 5 ≤ i) (hi : i ≤ 10) (v : Int) : TrB (w.setCell ⟨g, i, none⟩ (.int .i64 v)) g (setT t i v) := by
  unfold TrB trC at h ⊢
  rcases (show i = 5 ∨ i = 6 ∨ i = 7 ∨ i = 8 ∨ i = 9 ∨ i = 10 by omega) with rfl | rfl | rfl | rfl | rfl | rfl <;> exact (heap_setCell_same w g _ _ _ _ h).trans rfl
theorem TrB.setX {w : World} {g : Nat} {t : Trm} (h : TrB w g t) (v : Nat) : TrB (w.setCell ⟨g, 3, none⟩ (.float .f64 v)) g { t with x := v } := by
  unfold TrB trC at h ⊢
  exact (heap_setCell_same w g _ _ _ _ h).trans rfl
set_option maxRecDepth 20000 in
set_option maxHeartbeats 1600000 in
theorem readWho (f b i rd wr g : Nat) (lo hi v : Int) (ok : Bool) (s : ByteArray) (ha : AcF f i) (t : Trm) (w : World) (hb : WhoB b f lo hi rd wr w) (ht : TrB w g t) (h5 : 5 ≤ i) (h10 : i ≤ 10) (en : ∀ xs w, (callFunc rd xs).run Tryz.prog w = .ok (.enter rd xs) w) (hr : ∀ wx, Below w.heap.size w wx → Calls Tryz.prog rd #[.string s] wx fun e w' => e = .returned (.tuple #[.int .i64 v, .bool ok]) ∧ Below wx.heap.size wx w') :
    Calls Tryz.prog 113 #[.pointer (some ⟨g, 0, none⟩), .string s, .pointer (some ⟨b + 3, 0, none⟩), .pointer (some ⟨b, 0, none⟩)] w fun e w' => e = .returned (.bool ok) ∧ ∃ w1, Below w.heap.size w w1 ∧ w' = w1.setCell ⟨g, i, none⟩ (.int .i64 v) := by
  obtain ⟨c0, _, _, c3, _⟩ := hb.cells
  have HR := hidD (hr w (Below.refl _ _))
  have HW := hidD (And.intro hb ht)
  have HA := hidD ha.at_
  have he := ha.en
  unfold fnB at c0 c3
  clear hb ht hr ha
  go_enter Tryz.func113, Tryz.ntmps113
  go_wp2_with fail
  refine HR.out.mono ?_
  rintro e w1 ⟨rfl, hb⟩
  have d0 := (HW.out.1.below hb).cells.1
  have ht := HW.out.2.below hb
  have dc : w1.cell? ⟨g, i, none⟩ = some (.int .i64 (tAt t i)) := by
    have h := ht
    unfold TrB at h
    simp only [World.cell?, h, Option.isSome_none, Bool.false_eq_true, if_false]
    exact trC_at t h5 h10
  have df := ht.frozen i
  have HB := hidD hb
  unfold fnB at d0
  clear hb ht c0 c3 HR
  go_wp2_with fail
  refine (HA.out _ _).mono ?_
  rintro e w2 ⟨rfl, rfl⟩
  go_wp2_with fail
  go_ret
  exact ⟨rfl, _, HB.out, rfl⟩
end Go.Proofs.YtiiajhomdpfafaaGreatDoor
namespace Go.Proofs.YtiiajhomdpfafaaGreatDoor
open Go.RowKit

def AnyL (P : Program) (md : Region.Mode) (ops : Array Oper) (Q : Exit → Act → World → Prop) (S : World → Prop) (L : Nat → Bool) : Nat → Array Bool → Act → World → Prop
  | 0, l, a, w => Region.ready md ops l = [] ∧ Q .normal a w
  | f + 1, l, a, w => (Region.ready md ops l = [] → Q .normal a w) ∧ ∀ i ∈ Region.ready md ops l, wpOp P ops Q i (fun a' w' => (L i = false → S w') ∧ AnyL P md ops Q S L f (l.setIfInBounds i true) a' w') a w

variable {P : Program} {md : Region.Mode} {ops : Array Oper} {Q : Exit → Act → World → Prop} {S : World → Prop} {L : Nat → Bool}

theorem anyL_any : ∀ (f : Nat) (l : Array Bool) (a : Act) (w : World), AnyL P md ops Q S L f l a w → wpAny P md ops Q f l a w
  | 0, _, _, _, h => h
  | f + 1, _, _, _, h => ⟨h.1, fun i hi => wpOp_mono (fun a w k => anyL_any f _ a w k.2) (h.2 i hi)⟩

def closedB (md : Region.Mode) (ops : Array Oper) (l : Array Bool) : Bool :=
  (List.range ops.size).all fun k => !l.getD k false || ((ops[k]?).map (·.after.all fun e => !Region.binds md e || l.getD e.on false)).getD true
def Closed (md : Region.Mode) (ops : Array Oper) (l : Array Bool) : Prop := ∀ k ok, ops[k]? = some ok → l.getD k false = true → ∀ e ∈ ok.after, Region.binds md e = true → l.getD e.on false = true
theorem closed_of {l : Array Bool} (h : closedB md ops l = true) : Closed md ops l := fun k ok hk hl e he hb => by
  have hm := List.all_eq_true.1 h k (List.mem_range.2 (Array.getElem?_eq_some_iff.1 hk).1)
  rw [hl, hk] at hm
  simp only [Bool.not_true, Bool.false_or, Option.map_some, Option.getD_some, Array.all_eq_true'] at hm
  have := hm e he
  rw [hb] at this
  simpa using this
theorem closed_put {l : Array Bool} {j : Nat} (h : Closed md ops l) (hj : j ∈ Region.ready md ops l) : Closed md ops (l.setIfInBounds j true) := fun k ok hk hl e he hb => by
  by_cases c : j = k
  · subst c
    obtain ⟨_, oj, hoj, hall⟩ := mem_ready.1 hj
    rw [hk] at hoj
    obtain rfl := Option.some.inj hoj
    exact getD_set_true (hall e he hb)
  · rw [getD_set_ne false c] at hl
    exact getD_set_true (h k ok hk hl e he hb)
def waitsB (md : Region.Mode) (ops : Array Oper) : Nat → Nat → Nat → Bool
  | 0, _, _ => false
  | f + 1, j, i => ((ops[j]?).map (·.after.any fun e => Region.binds md e && (e.on == i || waitsB md ops f e.on i))).getD false
theorem waits_listed {l : Array Bool} (h : Closed md ops l) {i : Nat} : ∀ (f j : Nat), waitsB md ops f j i = true → (∀ oj, ops[j]? = some oj → ∀ e ∈ oj.after, Region.binds md e = true → l.getD e.on false = true) → l.getD i false = true
  | 0, _, hw, _ => by cases hw
  | f + 1, j, hw, hd => by
    unfold waitsB at hw
    cases hj : ops[j]? with
    | none => rw [hj] at hw; cases hw
    | some oj =>
      rw [hj] at hw
      simp only [Option.map_some, Option.getD_some, Array.any_eq_true'] at hw
      obtain ⟨e, he, hb⟩ := hw
      rw [Bool.and_eq_true, Bool.or_eq_true, beq_iff_eq] at hb
      have h1 := hd oj hj e he hb.1
      rcases hb.2 with c | c
      · rw [← c]; exact h1
      · exact waits_listed h f e.on c (fun ok hk e' he' hb' => h e.on ok hk h1 e' he' hb')
def lateB (md : Region.Mode) (ops : Array Oper) (L : Nat → Bool) (i : Nat) : Bool := (List.range ops.size).all fun j => !L j || waitsB md ops 6 j i
theorem late_not {i j : Nat} {l : Array Bool} (h : lateB md ops L i = true) (hc : Closed md ops l) (hi : i ∈ Region.ready md ops l) (hj : j ∈ Region.ready md ops l) : L j = false := by
  cases hl : L j with
  | false => rfl
  | true =>
    obtain ⟨_, oj, hoj, hall⟩ := mem_ready.1 hj
    have hm := List.all_eq_true.1 h j (List.mem_range.2 (Array.getElem?_eq_some_iff.1 hoj).1)
    rw [hl] at hm
    have h1 := waits_listed hc 6 j (by simpa using hm) (fun ok hk e he hb => by
      rw [hoj] at hk
      obtain rfl := Option.some.inj hk
      exact hall e he hb)
    have h0 := (mem_ready.1 hi).1
    rcases Nat.lt_or_ge i l.size with h' | h'
    · simp [h'] at h0 h1; rw [h0] at h1; cases h1
    · simp [Array.getElem?_eq_none h'] at h1

theorem anyL_first {i : Nat} {oi : Oper} {v : Value} (hi : ops[i]? = some oi) (hs : Region.noSelect ops = true) (hl : lateB md ops L i = true) (hQ : ∀ c a w, Q (.panic c) (a.put oi.dst v) w → Q (.panic c) a w) :
    ∀ (f : Nat) (l : Array Bool) (a : Act) (w : World), Closed md ops l → (∀ j oj, ops[j]? = some oj → j ≠ i → l.getD j true = false → (∀ e ∈ oj.after, Region.binds md e = true → e.on ≠ i) → oi.apart ops oj = true) →
      i ∈ Region.ready md ops l → YieldsIf P ops S oi v a → S w → AnyL P md ops Q S L f (l.setIfInBounds i true) (a.put oi.dst v) w → AnyL P md ops Q S L (f + 1) l a w := by
  intro f
  induction f with
  | zero =>
    intro l a w _ _ hr hy hS H
    refine ⟨fun h => (by rw [h] at hr; cases hr), fun j hj => ?_⟩
    by_cases c : j = i
    · subst c; exact hy.wpOp hi hS ⟨fun _ => hS, H⟩
    · have := ready_mono hj c
      rw [H.1] at this; cases this
  | succ f ih =>
    intro l a w hcl hfree hr hy hS H
    refine ⟨fun h => (by rw [h] at hr; cases hr), fun j hj => ?_⟩
    by_cases c : j = i
    · subst c; exact hy.wpOp hi hS ⟨fun _ => hS, H⟩
    · obtain ⟨hun, oj, hoj, hall⟩ := mem_ready.1 hj
      have hno : ∀ e ∈ oj.after, Region.binds md e = true → e.on ≠ i := fun e he hb heq => by
        have h1 := hall e he hb
        have h0 := (mem_ready.1 hr).1
        rw [heq] at h1
        rcases Nat.lt_or_ge i l.size with h' | h'
        · simp [h'] at h0 h1; rw [h0] at h1; cases h1
        · simp [Array.getElem?_eq_none h'] at h1
      have hLj : L j = false := late_not hl hcl hr hj
      have h2 := wpOp_putIf hoj (hfree j oj hoj c hun hno) (fun cs b => Region.noSelect_spec hs i oi cs b hi) (fun cs b => Region.noSelect_spec hs j oj cs b hoj) hQ hy (H.2 j (ready_mono hj c))
      refine wpOp_mono (fun a' w' h3 => ⟨fun _ => h3.2.1 hLj, ih (l.setIfInBounds j true) a' w' (closed_put hcl hj) (fun k ok hk hki hu hn => hfree k ok hk hki ?_ hn) (ready_mono hr (Ne.symm c)) h3.1 (h3.2.1 hLj) ?_⟩) h2
      · by_cases hjk : j = k
        · subst hjk; exact hun
        · rw [getD_set_ne true hjk] at hu; exact hu
      · rw [Array.setIfInBounds_comm _ _ c]
        exact h3.2.2
theorem anyL_take (i : Nat) {oi : Oper} (v : Value) {f : Nat} {l : Array Bool} {a : Act} {w : World} (hi : ops[i]? = some oi) (hs : Region.noSelect ops = true) (hl : lateB md ops L i = true) (hc : closedB md ops l = true) (hf : Region.free md ops l i = true) (hr : (Region.ready md ops l).contains i = true)
    (hQ : ∀ c a w, Q (.panic c) (a.put oi.dst v) w → Q (.panic c) a w) (hw : Region.wanted oi (yielded ops a.tmps) = true) (hS : S w) (hy : ∀ w, S w → (execOp a.eval oi).run P w = .ok (.value v) w)
    (h : AnyL P md ops Q S L f (l.setIfInBounds i true) (a.put oi.dst v) w) : AnyL P md ops Q S L (f + 1) l a w :=
  anyL_first hi hs hl hQ f l a w (closed_of hc) (Region.free_spec hi hf) (by simpa using hr) (Or.inl ⟨hw, hy⟩) hS h
theorem anyL_one {i : Nat} {f : Nat} {l : Array Bool} {a : Act} {w : World} (hr : Region.ready md ops l = [i])
    (h1 : wpOp P ops Q i (fun a' w' => (L i = false → S w') ∧ AnyL P md ops Q S L f (l.setIfInBounds i true) a' w') a w) : AnyL P md ops Q S L (f + 1) l a w :=
  ⟨fun h => (by rw [hr] at h; cases h), fun k hk => by
    rw [hr] at hk
    rcases List.mem_cons.1 hk with rfl | hk
    · exact h1
    · cases hk⟩
theorem anyL_done {f : Nat} {l : Array Bool} {a : Act} {w : World} (hr : Region.ready md ops l = []) (h : Q .normal a w) : AnyL P md ops Q S L f l a w := by
  cases f with
  | zero => exact ⟨hr, h⟩
  | succ f => exact ⟨fun _ => h, by rw [hr]; simp⟩
theorem wp_region_late {id : Nat} {a : Act} {w : World} (S : World → Prop) (L : Nat → Bool) (hm : P.follows .mixedOrders = true)
    (h : AnyL P .any ops Q S L ops.size (Array.replicate ops.size false) a w.drew) : (Code.region id ops true).wp P Q a w :=
  wp_region_any hm (anyL_any _ _ _ _ h)
end Go.Proofs.YtiiajhomdpfafaaGreatDoor
