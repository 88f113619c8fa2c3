/- The contracts of package interp's chosen, node, Check and Find. The contracts of package curve's isFactor, daysMayBe, factorsMayBe, Check and Last. The conversions to binary32 and back, and curve.Single where the curve may not be. The contract of package curve's Single where the curve may be. -/
import Derived.Test.YtcmbfflemoccmaaGreatHbk
import Derived.Test.YtcmbfflemoccmaaGreatBShelf
import Derived.Test.YtcmbfflemoccmaaGreatHaq
import Derived.Test.YtcmbfflemoccmaaGreatHar
import Derived.Test.YtcmbfflemoccmaaGreatHap
import Derived.Test.YtcmbfflemoccmaaGreatHbc
namespace Go.Proofs.YtcmbfflemoccmaaGreat
open Go.RowKit

structure TFl (w : World) (px py : Option Addr) (bx ox b2 oy : Nat) (xs : List Int) (ys : List Nat) : Prop where
  x : VSrc w px bx ox xs.length (xV xs)
  y : VSrc w py b2 oy ys.length (flV ys)
  f : ∀ i < ys.length, ys.getD i 0 < 18446744073709551616
theorem TFl.below {w w' : World} {px py : Option Addr} {bx ox b2 oy : Nat} {xs : List Int} {ys : List Nat} (h : TFl w px py bx ox b2 oy xs ys) (hb : Below w.heap.size w w') : TFl w' px py bx ox b2 oy xs ys := ⟨h.x.below hb, h.y.below hb, h.f⟩
theorem TFl.u {w : World} {px py : Option Addr} {bx ox b2 oy : Nat} {xs : List Int} {ys : List Nat} (h : TFl w px py bx ox b2 oy xs ys) : ∀ i < ys.length, U64 (ys.getD i 0 : Nat) := fun i hi => u64N (h.f i hi)
theorem least_or {p : Nat → Bool} (n : Nat) : ∃ K ≤ n, (∀ i < K, p i = false) ∧ (K < n → p K = true) := by
  by_cases h : ∃ i < n, p i = true
  · obtain ⟨k, hk, h1, h2⟩ := least_bad n h
    exact ⟨k, by omega, h2, fun _ => h1⟩
  · exact ⟨n, Nat.le_refl _, fun i hi => by
      cases hc : p i
      · rfl
      · exact absurd ⟨i, hi, hc⟩ h, fun c => absurd c (Nat.lt_irrefl _)⟩
theorem places_any (px : Option Addr) (bx ox cx : Nat) (xs : List Int) : ∃ g : Bool, (g = true ↔ (1 ≤ xs.length ∧ xs.length ≤ 256 ∧ ∀ i < xs.length, plB xs i = false)) ∧ ∀ w, VSrc w px bx ox xs.length (xV xs) → Calls Tryz.prog 84 #[.slice px xs.length cx] w fun e w' => e = .returned (.bool g) ∧ w' = w := by
  by_cases hl : xs.length < 1 ∨ 256 < xs.length
  · exact ⟨false, ⟨fun h => by simp at h, fun ⟨a, b, _⟩ => by omega⟩, fun w _ => places_len px _ cx w hl⟩
  · obtain ⟨K, hK, h1, h2⟩ := least_or (p := plB xs) xs.length
    refine ⟨decide (xs.length ≤ K), ⟨fun h => ⟨by omega, by omega, fun i hi => h1 i (by have := of_decide_eq_true h; omega)⟩, fun ⟨_, _, h⟩ => decide_eq_true (Classical.byContradiction fun c => ?_)⟩, fun w hw => places_loop px bx ox cx _ K xs w hw (by omega) (by omega) hK h1 h2⟩
    have := h2 (by omega)
    rw [h K (by omega)] at this
    cases this
theorem values_any (kind : Int) (py : Option Addr) (b2 oy cy : Nat) (ys : List Nat) (hn : ys.length ≤ 256) (hf : ∀ i < ys.length, ys.getD i 0 < 18446744073709551616) : ∃ g : Bool, (g = true ↔ ∀ i < ys.length, vlB kind ys i = false) ∧ ∀ w, VSrc w py b2 oy ys.length (flV ys) → Calls Tryz.prog 85 #[.int .i64 kind, .slice py ys.length cy] w fun e w' => e = .returned (.bool g) ∧ w' = w := by
  obtain ⟨K, hK, h1, h2⟩ := least_or (p := vlB kind ys) ys.length
  refine ⟨decide (ys.length ≤ K), ⟨fun h i hi => h1 i (by have := of_decide_eq_true h; omega), fun h => decide_eq_true (Classical.byContradiction fun c => ?_)⟩, fun w hw => values_loop kind py b2 oy cy _ K ys w hw hf hn hK h1 h2⟩
  have := h2 (by omega)
  rw [h K (by omega)] at this
  cases this
theorem prv_zero (xs : List Int) : prv xs 0 = -1 := rfl
theorem prv_succ (xs : List Int) (k : Nat) : prv xs (k + 1) = xs.getD k 0 := rfl
theorem node_two {kind : Int} {xs : List Int} {ys : List Nat} (h : ∀ i < xs.length, nodeB kind xs ys i = false) : (∀ i < xs.length, plB xs i = false) ∧ ∀ i < xs.length, vlB kind ys i = false := by
  refine ⟨fun i hi => ?_, fun i hi => ?_⟩
  · obtain ⟨a, b, c, _, _⟩ := node_fine (h i hi)
    unfold plB
    rw [Bool.or_eq_false_iff, decide_eq_false_iff_not, decide_eq_false_iff_not]
    refine ⟨?_, by omega⟩
    cases i with
    | zero => show ¬ xs.getD 0 0 ≤ -1; omega
    | succ i =>
      have := c (by omega)
      show ¬ xs.getD (i + 1) 0 ≤ xs.getD i 0
      rw [Nat.add_sub_cancel] at this
      omega
  · obtain ⟨_, _, _, d, e⟩ := node_fine (h i hi)
    unfold vlB
    rw [d]
    by_cases hk : kind = 4
    · rw [e hk]; simp
    · rw [decide_eq_false hk]; rfl
theorem two_node {kind : Int} {xs : List Int} {ys : List Nat} (h1 : ∀ i < xs.length, plB xs i = false) (h2 : ∀ i < xs.length, vlB kind ys i = false) : ∀ i < xs.length, nodeB kind xs ys i = false := fun i hi => by
  have pos : ∀ j, j < xs.length → 0 ≤ xs.getD j 0 := fun j => by
    induction j with
    | zero => intro hj; have := h1 0 hj; unfold plB at this; rw [Bool.or_eq_false_iff, decide_eq_false_iff_not, prv_zero] at this; have := this.1; omega
    | succ j ih => intro hj; have := h1 _ hj; have h0 := ih (by omega); unfold plB at this; rw [Bool.or_eq_false_iff, decide_eq_false_iff_not, prv_succ] at this; have := this.1; omega
  have a := h1 i hi
  have b := h2 i hi
  have p := pos i hi
  unfold plB at a
  unfold vlB at b
  rw [Bool.or_eq_false_iff, decide_eq_false_iff_not, decide_eq_false_iff_not] at a
  rw [Bool.or_eq_false_iff] at b
  unfold nodeB
  rw [decide_eq_false (by omega), decide_eq_false a.2, b.1, b.2]
  cases i with
  | zero => rfl
  | succ i =>
    have := a.1
    rw [prv_succ] at this
    rw [Nat.add_sub_cancel, decide_eq_false this]; simp

theorem eql_nil (w : World) : (binOp .eql 93 .nilFunc .nilFunc).run Tryz.prog w = .ok (.bool true) w := by kernel_rfl
theorem eql_fn (F : Nat) (w : World) : (binOp .eql 93 (.func (.func F) #[] #[]) .nilFunc).run Tryz.prog w = .ok (.bool false) w := by kernel_rfl
set_option maxRecDepth 20000 in
set_option maxHeartbeats 800000 in
theorem chosen_kind (kind : Int) (v1 v2 : Value) (w : World) (HK : Hid (∀ wx, Calls Tryz.prog 83 #[.int .i64 kind] wx fun e w' => e = .returned .nilFunc ∧ w' = wx)) :
    Calls Tryz.prog 50 #[.agg #[.int .i64 kind, v1, v2]] w fun e w' => e = .returned (.tuple #[.nilFunc, .int .i64 90]) ∧ Below w.heap.size w w' := by
  have HB := hideS (abox_at w kind v1 v2)
  have hq := eql_nil
  go_enter Tryz.func50, Tryz.ntmps50
  go_wp2_with (go_at_call 83; refine (HK.out _).mono ?_; rintro e w1 ⟨rfl, rfl⟩)
  go_ret2
  exact ⟨rfl, HB.out.bl⟩
set_option maxRecDepth 20000 in
set_option maxHeartbeats 1600000 in
theorem chosen_go (kind : Int) (F lx ly cx cy : Nat) (px py : Option Addr) (g1 g2 : Bool) (w : World) (HK : Hid (∀ wx, Calls Tryz.prog 83 #[.int .i64 kind] wx fun e w' => e = .returned (.func (.func F) #[] #[]) ∧ w' = wx))
    (HP : Hid (∀ wx, Below w.heap.size w wx → Calls Tryz.prog 84 #[.slice px lx cx] wx fun e w' => e = .returned (.bool g1) ∧ w' = wx))
    (HV : Hid (g1 = true → lx = ly → ∀ wx, Below w.heap.size w wx → Calls Tryz.prog 85 #[.int .i64 kind, .slice py ly cy] wx fun e w' => e = .returned (.bool g2) ∧ w' = wx)) :
    Calls Tryz.prog 50 #[.agg #[.int .i64 kind, .slice px lx cx, .slice py ly cy]] w fun e w' => e = .returned (if g1 = true ∧ lx = ly ∧ g2 = true then .tuple #[.func (.func F) #[] #[], .int .i64 0] else .tuple #[.nilFunc, .int .i64 100]) ∧ Below w.heap.size w w' := by
  have HB := hideS (abox_at w kind (.slice px lx cx) (.slice py ly cy))
  have hq := eql_fn
  cases g1 with
  | false =>
    rw [if_neg (by simp)]
    clear HV
    go_enter Tryz.func50, Tryz.ntmps50
    go_wp2_with (first | (go_at_call 83; refine (HK.out _).mono ?_; rintro e w1 ⟨rfl, rfl⟩) | (go_at_call 84; refine (HP.out _ HB.out.bl).mono ?_; rintro e w1 ⟨rfl, rfl⟩))
    go_ret2
    exact ⟨rfl, HB.out.bl⟩
  | true =>
    by_cases hl : lx = ly
    · have hne : ((ly : Int) != (lx : Int)) = false := by rw [hl]; simp
      have HV' := hideS (HV.out rfl hl)
      clear HV
      cases g2 with
      | false =>
        rw [if_neg (by simp)]
        clear hl
        go_enter Tryz.func50, Tryz.ntmps50
        go_wp2_with (first | (go_at_call 83; refine (HK.out _).mono ?_; rintro e w1 ⟨rfl, rfl⟩) | (go_at_call 84; refine (HP.out _ HB.out.bl).mono ?_; rintro e w1 ⟨rfl, rfl⟩) | (go_at_call 85; refine (HV'.out _ HB.out.bl).mono ?_; rintro e w1 ⟨rfl, rfl⟩))
        go_ret2
        exact ⟨rfl, HB.out.bl⟩
      | true =>
        rw [if_pos ⟨rfl, hl, rfl⟩]
        clear hl
        go_enter Tryz.func50, Tryz.ntmps50
        go_wp2_with (first | (go_at_call 83; refine (HK.out _).mono ?_; rintro e w1 ⟨rfl, rfl⟩) | (go_at_call 84; refine (HP.out _ HB.out.bl).mono ?_; rintro e w1 ⟨rfl, rfl⟩) | (go_at_call 85; refine (HV'.out _ HB.out.bl).mono ?_; rintro e w1 ⟨rfl, rfl⟩))
        go_ret2
        exact ⟨rfl, HB.out.bl⟩
    · have hne : ((ly : Int) != (lx : Int)) = true := by simp; omega
      rw [if_neg (fun c => hl c.2.1)]
      clear HV hl
      go_enter Tryz.func50, Tryz.ntmps50
      go_wp2_with (first | (go_at_call 83; refine (HK.out _).mono ?_; rintro e w1 ⟨rfl, rfl⟩) | (go_at_call 84; refine (HP.out _ HB.out.bl).mono ?_; rintro e w1 ⟨rfl, rfl⟩))
      go_ret2
      exact ⟨rfl, HB.out.bl⟩
def chF (kind E : Int) : Value := if E = 0 then .func (.func (kindF kind)) #[] #[] else .nilFunc
theorem chosen_any (kind E : Int) (px py : Option Addr) (bx ox cx b2 oy cy : Nat) (xs : List Int) (ys : List Nat) (w : World) (h : TabR kind xs ys E) (hs : TFl w px py bx ox b2 oy xs ys) :
    Calls Tryz.prog 50 #[.agg #[.int .i64 kind, .slice px xs.length cx, .slice py ys.length cy]] w fun e w' => e = .returned (.tuple #[chF kind E, .int .i64 E]) ∧ Below w.heap.size w w' := by
  have key : 1 ≤ kind → kind ≤ 4 → ∀ E, TabR kind xs ys E → (E = 0 ∨ E = 100) → Calls Tryz.prog 50 #[.agg #[.int .i64 kind, .slice px xs.length cx, .slice py ys.length cy]] w fun e w' => e = .returned (.tuple #[chF kind E, .int .i64 E]) ∧ Below w.heap.size w w' := fun k1 k4 E h hE => by
    obtain ⟨g1, e1, c1⟩ := places_any px bx ox cx xs
    have hv : ∃ g2 : Bool, (g1 = true → xs.length = ys.length → (g2 = true ↔ ∀ i < ys.length, vlB kind ys i = false)) ∧ (g1 = true → xs.length = ys.length → ∀ w, VSrc w py b2 oy ys.length (flV ys) → Calls Tryz.prog 85 #[.int .i64 kind, .slice py ys.length cy] w fun e w' => e = .returned (.bool g2) ∧ w' = w) := by
      by_cases hl : ys.length ≤ 256
      · obtain ⟨g2, e2, c2⟩ := values_any kind py b2 oy cy ys hl hs.f
        exact ⟨g2, fun _ _ => e2, fun _ _ => c2⟩
      · exact ⟨false, fun a b => by have := (e1.1 a).2.1; omega, fun a b => by have := (e1.1 a).2.1; omega⟩
    obtain ⟨g2, e2, c2⟩ := hv
    have := chosen_go kind (kindF kind) xs.length ys.length cx cy px py g1 g2 w (fun wx => betweenOf_some kind wx k1 k4) (fun wx hb => c1 wx (hs.x.below hb)) (fun a b wx hb => c2 a b wx (hs.y.below hb))
    refine this.mono fun e w' ⟨he, hb⟩ => ⟨?_, hb⟩
    rw [he]
    by_cases hg : g1 = true ∧ xs.length = ys.length ∧ g2 = true
    · have ok : OkT kind xs ys := by
        obtain ⟨a, b, c⟩ := hg
        have p := e1.1 a
        have q := (e2 a b).1 c
        exact ⟨k1, k4, p.1, p.2.1, b.symm, two_node p.2.2 (fun i hi => q i (by omega))⟩
      have hE0 : E = 0 := by
        cases h with
        | ok h => rfl
        | kind h => omega
        | len h1 h4 h => have := ok.lo; have := ok.hi; have := ok.len; omega
        | node h1 h4 lo hi len K hK bad fine => rw [ok.node K hK] at bad; cases bad
      rw [if_pos hg, hE0]; rfl
    · have hE1 : E = 100 := by
        rcases hE with hE | hE
        · exfalso; apply hg
          rw [hE] at h
          have ok := tabR_ok h
          obtain ⟨p, q⟩ := node_two ok.node
          have a := e1.2 ⟨ok.lo, ok.hi, p⟩
          exact ⟨a, ok.len.symm, (e2 a ok.len.symm).2 (fun i hi => q i (by rw [← ok.len]; exact hi))⟩
        · exact hE
      rw [if_neg hg, hE1]; rfl
  cases h with
  | kind h => exact chosen_kind kind _ _ w (fun wx => betweenOf_none kind wx h)
  | ok h => exact key h.k1 h.k4 0 (.ok h) (.inl rfl)
  | len h1 h4 h => exact key h1 h4 100 (.len h1 h4 h) (.inr rfl)
  | node h1 h4 lo hi len K hK bad fine => exact key h1 h4 100 (.node h1 h4 lo hi len K hK bad fine) (.inr rfl)

end Go.Proofs.YtcmbfflemoccmaaGreat
namespace Go.Proofs.YtcmbfflemoccmaaGreat
open Go.RowKit

def facB (x : Nat) : Bool := finB (x : Nat) && ltB 0 (x : Nat)
theorem facB_fit {x : Nat} (h : x < 18446744073709551616) (hp : ltB 0 (x : Nat) = true) : x < 9223372036854775808 ∧ nanB (x : Nat) = false := by
  obtain ⟨_, h2⟩ := ltB_pos h hp
  unfold sB at h2
  refine ⟨by have := of_decide_eq_false h2; omega, ?_⟩
  unfold ltB at hp
  simp only [Bool.and_eq_true, Bool.not_eq_true', decide_eq_true_eq] at hp
  exact hp.1.2
set_option maxHeartbeats 800000 in
theorem isFactor_any (x : Nat) (w : World) (h : x < 18446744073709551616) :
    Calls Tryz.prog 38 #[.float .f64 x] w fun e w' => e = .returned (.bool (facB x)) ∧ w' = w := by
  have hg := ogt h (show (0 : Nat) < 18446744073709551616 by decide)
  have e0 : ltB ((0 : Nat) : Int) (x : Nat) = ltB 0 (x : Nat) := rfl
  rw [e0] at hg
  unfold facB
  cases hp : ltB 0 (x : Nat) with
  | false =>
    rw [hp] at hg
    rw [Bool.and_false]
    clear hp h e0
    go_enter Tryz.func38, Tryz.ntmps38
    go_wp2
    go_ret
    exact ⟨rfl, rfl⟩
  | true =>
    rw [hp] at hg
    obtain ⟨hx, hn⟩ := facB_fit h hp
    have hi := inf_gt hn
    rw [Nat.mod_eq_of_lt hx] at hi
    have H := hideS fun w => isInf_pos x _ w hi
    rw [Bool.and_true]
    generalize finB (x : Nat) = g at *
    clear hp h e0 hi hx hn
    cases g
    all_goals
      go_enter Tryz.func38, Tryz.ntmps38
      go_wp2_with (go_at_call 56; refine (H.out _).mono ?_; rintro e w1 ⟨rfl, rfl⟩)
      go_ret
      exact ⟨rfl, rfl⟩

def dyB (base : Int) (ds : List Int) (i : Nat) : Bool := decide (ds.getD i 0 ≤ prvC base ds i) || decide (109572 < ds.getD i 0)
set_option maxHeartbeats 800000 in
theorem days_len (base : Int) (p : Option Addr) (n c : Nat) (w : World) (h : n < 1 ∨ 255 < n) :
    Calls Tryz.prog 29 #[.int .i64 base, .slice p n c] w fun e w' => e = .returned (.bool false) ∧ w' = w := by
  rcases h with h | h
  · have d1 : decide ((n : Int) < 1) = true := decide_eq_true (by omega)
    clear h
    go_enter Tryz.func29, Tryz.ntmps29
    go_wp2
    go_ret
    exact ⟨rfl, rfl⟩
  · have d1 : decide ((n : Int) < 1) = false := decide_eq_false (by omega)
    have d2 : decide ((255 : Int) < n) = true := decide_eq_true (by omega)
    clear h
    go_enter Tryz.func29, Tryz.ntmps29
    go_wp2
    go_ret
    exact ⟨rfl, rfl⟩
set_option maxHeartbeats 1600000 in
theorem days_loop (base : Int) (p : Option Addr) (b off c n K : Nat) (xs : List Int) (w : World) (hX : VSrc w p b off n (xV xs)) (hn : 1 ≤ n) (hn' : n ≤ 255) (hK : K ≤ n) (fine : ∀ i < K, dyB base xs i = false) (bad : K < n → dyB base xs K = true) :
    Calls Tryz.prog 29 #[.int .i64 base, .slice p n c] w fun e w' => e = .returned (.bool (decide (n ≤ K))) ∧ w' = w := by
  obtain ⟨g, hg⟩ : ∃ g, decide (n ≤ K) = g := ⟨_, rfl⟩
  rw [hg]
  have G0 : Hid (K < n → g = false) := fun hh => by rw [← hg]; exact decide_eq_false (by omega)
  have G1 : Hid (K = n → g = true) := fun hh => by rw [← hg]; exact decide_eq_true (by omega)
  clear hg
  have HX := hideS hX
  have HF := hideS fine
  have HB := hideS bad
  obtain rfl := hX.at_ (by omega)
  have d1 : decide ((n : Int) < 1) = false := decide_eq_false (by omega)
  have d2 : decide ((255 : Int) < n) = false := decide_eq_false (by omega)
  clear hX fine bad
  go_enter Tryz.func29, Tryz.ntmps29
  go_wp2_with fail
  clear d1 d2
  go_loop [5, 7, 19] (fun l _ i => ∃ k : Nat, k ≤ K ∧ i = .int .i64 k ∧ l = .int .i64 (prvC base xs k)) (fun _ _ i => n - (intOf i).toNat)
  case atStart => exact ⟨0, Nat.zero_le _, rfl, rfl⟩
  case round =>
    obtain ⟨k, hk, rfl, rfl⟩ := hrel
    by_cases hkK : k < K
    · have hkn : k < n := by omega
      have c1 : w.cell? ⟨b, off + k, none⟩ = some (.int .i64 (xs.getD k 0)) := HX.out.cell k hkn
      have f := HF.out k hkK
      unfold dyB at f
      rw [Bool.or_eq_false_iff] at f
      obtain ⟨f1, f2⟩ := f
      have HP := hideS (show prvC base xs (k + 1) = xs.getD k 0 from rfl)
      generalize prvC base xs k = l at *
      generalize xs.getD k 0 = y at *
      go_wp2_with fail
      go_round
      case rel => exact ⟨k + 1, by omega, by simp, by rw [HP.out]⟩
      case measure => simp [intOf]; omega
    · obtain rfl : k = K := by omega
      by_cases hl : k < n
      · have c1 : w.cell? ⟨b, off + k, none⟩ = some (.int .i64 (xs.getD k 0)) := HX.out.cell k hl
        have f := HB.out hl
        unfold dyB at f
        have HG := hideS (G0.out hl)
        generalize prvC base xs k = l at *
        generalize xs.getD k 0 = y at *
        cases f1 : decide (y ≤ l)
        · rw [f1, Bool.false_or] at f
          go_wp2_with fail
          go_ret
          exact ⟨by rw [HG.out] <;> rfl, rfl⟩
        · clear f
          go_wp2_with fail
          go_ret
          exact ⟨by rw [HG.out] <;> rfl, rfl⟩
      · obtain rfl : k = n := by omega
        have HG := hideS (G1.out rfl)
        go_wp2_with fail
        go_ret
        exact ⟨by rw [HG.out] <;> rfl, rfl⟩
set_option maxHeartbeats 1600000 in
theorem factors_loop (p : Option Addr) (b off c n K : Nat) (ys : List Nat) (w : World) (hY : VSrc w p b off n (flV ys)) (hf : ∀ i < n, ys.getD i 0 < 18446744073709551616) (hn' : n ≤ 255) (hK : K ≤ n) (fine : ∀ i < K, facB (ys.getD i 0) = true) (bad : K < n → facB (ys.getD K 0) = false) :
    Calls Tryz.prog 30 #[.slice p n c] w fun e w' => e = .returned (.bool (decide (n ≤ K))) ∧ w' = w := by
  obtain ⟨g, hg⟩ : ∃ g, decide (n ≤ K) = g := ⟨_, rfl⟩
  rw [hg]
  have G0 : Hid (K < n → g = false) := fun hh => by rw [← hg]; exact decide_eq_false (by omega)
  have G1 : Hid (K = n → g = true) := fun hh => by rw [← hg]; exact decide_eq_true (by omega)
  clear hg
  have HX := hideS hY
  have HF := hideS fine
  have HB := hideS bad
  have HU := hideS hf
  clear hY fine bad hf
  go_enter Tryz.func30, Tryz.ntmps30
  go_wp2_with fail
  go_loop [4, 7] (fun _ i => ∃ k : Nat, k ≤ K ∧ i = .int .i64 k) (fun _ i => n - (intOf i).toNat)
  case atStart => exact ⟨0, Nat.zero_le _, rfl⟩
  case round =>
    obtain ⟨k, hk, rfl⟩ := hrel
    by_cases hl : k < n
    · have c1 : w.cell? ⟨b, off + k, none⟩ = some (.float .f64 (ys.getD k 0)) := HX.out.cell k hl
      obtain rfl := HX.out.at_ (by omega)
      have H1 := hideS fun w => isFactor_any (ys.getD k 0) w (HU.out k hl)
      by_cases hkK : k < K
      · rw [HF.out k hkK] at H1
        generalize ys.getD k 0 = y at *
        go_wp2_with (go_at_call 38; refine (H1.out _).mono ?_; rintro e w' ⟨rfl, rfl⟩)
        go_round
        case rel => exact ⟨k + 1, by omega, by simp⟩
        case measure => simp [intOf]; omega
      · obtain rfl : k = K := by omega
        rw [HB.out hl] at H1
        have HG := hideS (G0.out hl)
        generalize ys.getD k 0 = y at *
        go_wp2_with (go_at_call 38; refine (H1.out _).mono ?_; rintro e w' ⟨rfl, rfl⟩)
        go_ret
        exact ⟨by rw [HG.out] <;> rfl, rfl⟩
    · obtain rfl : k = n := by omega
      obtain rfl : K = k := by omega
      have HG := hideS (G1.out rfl)
      go_wp2_with fail
      go_ret
      exact ⟨by rw [HG.out] <;> rfl, rfl⟩
theorem days_any (base : Int) (px : Option Addr) (bx ox cx : Nat) (xs : List Int) : ∃ g : Bool, (g = true ↔ (1 ≤ xs.length ∧ xs.length ≤ 255 ∧ ∀ i < xs.length, dyB base xs i = false)) ∧ ∀ w, VSrc w px bx ox xs.length (xV xs) → Calls Tryz.prog 29 #[.int .i64 base, .slice px xs.length cx] w fun e w' => e = .returned (.bool g) ∧ w' = w := by
  by_cases hl : xs.length < 1 ∨ 255 < xs.length
  · exact ⟨false, ⟨fun h => by simp at h, fun ⟨a, b, _⟩ => by omega⟩, fun w _ => days_len base px _ cx w hl⟩
  · obtain ⟨K, hK, h1, h2⟩ := least_or (p := dyB base xs) xs.length
    refine ⟨decide (xs.length ≤ K), ⟨fun h => ⟨by omega, by omega, fun i hi => h1 i (by have := of_decide_eq_true h; omega)⟩, fun ⟨_, _, h⟩ => decide_eq_true (Classical.byContradiction fun c => ?_)⟩, fun w hw => days_loop base px bx ox cx _ K xs w hw (by omega) (by omega) hK h1 h2⟩
    have := h2 (by omega)
    rw [h K (by omega)] at this
    cases this
theorem factors_any (py : Option Addr) (b2 oy cy : Nat) (ys : List Nat) (hn : ys.length ≤ 255) (hf : ∀ i < ys.length, ys.getD i 0 < 18446744073709551616) : ∃ g : Bool, (g = true ↔ ∀ i < ys.length, facB (ys.getD i 0) = true) ∧ ∀ w, VSrc w py b2 oy ys.length (flV ys) → Calls Tryz.prog 30 #[.slice py ys.length cy] w fun e w' => e = .returned (.bool g) ∧ w' = w := by
  obtain ⟨K, hK, h1, h2⟩ := least_or (p := fun i => !facB (ys.getD i 0)) ys.length
  have h1' : ∀ i < K, facB (ys.getD i 0) = true := fun i hi => by have := h1 i hi; simpa using this
  have h2' : K < ys.length → facB (ys.getD K 0) = false := fun hi => by have := h2 hi; simpa using this
  refine ⟨decide (ys.length ≤ K), ⟨fun h i hi => h1' i (by have := of_decide_eq_true h; omega), fun h => decide_eq_true (Classical.byContradiction fun c => ?_)⟩, fun w hw => factors_loop py b2 oy cy _ K ys w hw hf hn hK h1' h2'⟩
  have := h2' (by omega)
  rw [h K (by omega)] at this
  cases this
theorem nodC_two {base : Int} {ds : List Int} {fs : List Nat} {i : Nat} : nodC base ds fs i = false ↔ dyB base ds i = false ∧ facB (fs.getD i 0) = true := by
  unfold nodC dyB facB
  generalize finB (fs.getD i 0 : Nat) = a
  generalize ltB 0 (fs.getD i 0 : Nat) = b
  generalize decide (ds.getD i 0 ≤ prvC base ds i) = c
  generalize decide (109572 < ds.getD i 0) = d
  cases a <;> cases b <;> cases c <;> cases d <;> decide

set_option maxRecDepth 20000 in
set_option maxHeartbeats 800000 in
theorem curCheck_base (base kind : Int) (vd vf : Value) (w : World) (h : base < 0 ∨ 109572 < base) :
    Calls Tryz.prog 10 #[.agg #[.int .i64 base, .int .i64 kind, vd, vf]] w fun e w' => e = .returned (.int .i64 51) ∧ Below w.heap.size w w' := by
  have HB := hideS (vboxA_at w base kind vd vf)
  rcases (show base < 0 ∨ (0 ≤ base ∧ 109572 < base) by omega) with h1 | ⟨h1, h2⟩
  · have d1 : decide (base < 0) = true := decide_eq_true h1
    clear h h1
    go_enter Tryz.func10, Tryz.ntmps10
    go_wp2_with fail
    go_ret
    exact ⟨rfl, HB.out.bl⟩
  · have d1 : decide (base < 0) = false := decide_eq_false (by omega)
    have d2 : decide (109572 < base) = true := decide_eq_true h2
    clear h h1 h2
    go_enter Tryz.func10, Tryz.ntmps10
    go_wp2_with fail
    go_ret
    exact ⟨rfl, HB.out.bl⟩
set_option maxRecDepth 20000 in
set_option maxHeartbeats 800000 in
theorem curCheck_kind (base kind : Int) (vd vf : Value) (w : World) (b0 : 0 ≤ base) (b1 : base ≤ 109572) (h : kind < 1 ∨ 4 < kind) :
    Calls Tryz.prog 10 #[.agg #[.int .i64 base, .int .i64 kind, vd, vf]] w fun e w' => e = .returned (.int .i64 90) ∧ Below w.heap.size w w' := by
  have HB := hideS (vboxA_at w base kind vd vf)
  have d1 : decide (base < 0) = false := decide_eq_false (by omega)
  have d2 : decide (109572 < base) = false := decide_eq_false (by omega)
  rcases (show kind < 1 ∨ (1 ≤ kind ∧ 4 < kind) by omega) with h1 | ⟨h1, h2⟩
  · have d3 : decide (kind < 1) = true := decide_eq_true h1
    clear h h1
    go_enter Tryz.func10, Tryz.ntmps10
    go_wp2_with fail
    go_ret
    exact ⟨rfl, HB.out.bl⟩
  · have d3 : decide (kind < 1) = false := decide_eq_false (by omega)
    have d4 : decide (4 < kind) = true := decide_eq_true h2
    clear h h1 h2
    go_enter Tryz.func10, Tryz.ntmps10
    go_wp2_with fail
    go_ret
    exact ⟨rfl, HB.out.bl⟩
set_option maxRecDepth 20000 in
set_option maxHeartbeats 1600000 in
theorem curCheck_go (base kind : Int) (lx ly cx cy : Nat) (px py : Option Addr) (g1 g2 : Bool) (w : World) (b0 : 0 ≤ base) (b1 : base ≤ 109572) (h1 : 1 ≤ kind) (h4 : kind ≤ 4)
    (HP : Hid (∀ wx, Below w.heap.size w wx → Calls Tryz.prog 29 #[.int .i64 base, .slice px lx cx] wx fun e w' => e = .returned (.bool g1) ∧ w' = wx))
    (HV : Hid (g1 = true → lx = ly → ∀ wx, Below w.heap.size w wx → Calls Tryz.prog 30 #[.slice py ly cy] wx fun e w' => e = .returned (.bool g2) ∧ w' = wx)) :
    Calls Tryz.prog 10 #[.agg #[.int .i64 base, .int .i64 kind, .slice px lx cx, .slice py ly cy]] w fun e w' => e = .returned (.int .i64 (if g1 = true ∧ lx = ly ∧ g2 = true then 0 else 100)) ∧ Below w.heap.size w w' := by
  have HB := hideS (vboxA_at w base kind (.slice px lx cx) (.slice py ly cy))
  have d1 : decide (base < 0) = false := decide_eq_false (by omega)
  have d2 : decide (109572 < base) = false := decide_eq_false (by omega)
  have d3 : decide (kind < 1) = false := decide_eq_false (by omega)
  have d4 : decide (4 < kind) = false := decide_eq_false (by omega)
  clear b0 b1 h1 h4
  cases g1 with
  | false =>
    rw [if_neg (by simp)]
    clear HV
    go_enter Tryz.func10, Tryz.ntmps10
    go_wp2_with (first | (go_at_call 29; refine (HP.out _ HB.out.bl).mono ?_; rintro e w1 ⟨rfl, rfl⟩))
    go_ret
    exact ⟨rfl, HB.out.bl⟩
  | true =>
    by_cases hl : lx = ly
    · have hne : ((ly : Int) != (lx : Int)) = false := by rw [hl]; simp
      have HV' := hideS (HV.out rfl hl)
      clear HV
      cases g2 with
      | false =>
        rw [if_neg (by simp)]
        clear hl
        go_enter Tryz.func10, Tryz.ntmps10
        go_wp2_with (first | (go_at_call 29; refine (HP.out _ HB.out.bl).mono ?_; rintro e w1 ⟨rfl, rfl⟩) | (go_at_call 30; refine (HV'.out _ HB.out.bl).mono ?_; rintro e w1 ⟨rfl, rfl⟩))
        go_ret
        exact ⟨rfl, HB.out.bl⟩
      | true =>
        rw [if_pos ⟨rfl, hl, rfl⟩]
        clear hl
        go_enter Tryz.func10, Tryz.ntmps10
        go_wp2_with (first | (go_at_call 29; refine (HP.out _ HB.out.bl).mono ?_; rintro e w1 ⟨rfl, rfl⟩) | (go_at_call 30; refine (HV'.out _ HB.out.bl).mono ?_; rintro e w1 ⟨rfl, rfl⟩))
        go_ret
        exact ⟨rfl, HB.out.bl⟩
    · have hne : ((ly : Int) != (lx : Int)) = true := by simp; omega
      rw [if_neg (fun c => hl c.2.1)]
      clear HV hl
      go_enter Tryz.func10, Tryz.ntmps10
      go_wp2_with (first | (go_at_call 29; refine (HP.out _ HB.out.bl).mono ?_; rintro e w1 ⟨rfl, rfl⟩))
      go_ret
      exact ⟨rfl, HB.out.bl⟩
theorem curCheck_any (base kind : Int) (pd pf : Option Addr) (bd od cd b2 o2 cf : Nat) (ds : List Int) (fs : List Nat) (w : World) (hs : TFl w pd pf bd od b2 o2 ds fs) {E : Int} (hE : CurR base kind ds fs E) :
    Calls Tryz.prog 10 #[.agg #[.int .i64 base, .int .i64 kind, .slice pd ds.length cd, .slice pf fs.length cf]] w fun e w' => e = .returned (.int .i64 E) ∧ Below w.heap.size w w' := by
  have key : 0 ≤ base → base ≤ 109572 → 1 ≤ kind → kind ≤ 4 → ∀ E, CurR base kind ds fs E → (E = 0 ∨ E = 100) → Calls Tryz.prog 10 #[.agg #[.int .i64 base, .int .i64 kind, .slice pd ds.length cd, .slice pf fs.length cf]] w fun e w' => e = .returned (.int .i64 E) ∧ Below w.heap.size w w' := fun b0 b1 k1 k4 E h hE => by
    obtain ⟨g1, e1, c1⟩ := days_any base pd bd od cd ds
    have hv : ∃ g2 : Bool, (g1 = true → ds.length = fs.length → (g2 = true ↔ ∀ i < fs.length, facB (fs.getD i 0) = true)) ∧ (g1 = true → ds.length = fs.length → ∀ w, VSrc w pf b2 o2 fs.length (flV fs) → Calls Tryz.prog 30 #[.slice pf fs.length cf] w fun e w' => e = .returned (.bool g2) ∧ w' = w) := by
      by_cases hl : fs.length ≤ 255
      · obtain ⟨g2, e2, c2⟩ := factors_any pf b2 o2 cf fs hl hs.f
        exact ⟨g2, fun _ _ => e2, fun _ _ => c2⟩
      · exact ⟨false, fun a b => by have := (e1.1 a).2.1; omega, fun a b => by have := (e1.1 a).2.1; omega⟩
    obtain ⟨g2, e2, c2⟩ := hv
    have := curCheck_go base kind ds.length fs.length cd cf pd pf g1 g2 w b0 b1 k1 k4 (fun wx hb => c1 wx (hs.x.below hb)) (fun a b wx hb => c2 a b wx (hs.y.below hb))
    refine this.mono fun e w' ⟨he, hb⟩ => ⟨?_, hb⟩
    rw [he]
    by_cases hg : g1 = true ∧ ds.length = fs.length ∧ g2 = true
    · have ok : OkV base kind ds fs := by
        obtain ⟨a, b, c⟩ := hg
        have p := e1.1 a
        have q := (e2 a b).1 c
        exact ⟨b0, b1, k1, k4, p.1, p.2.1, b.symm, fun i hi => nodC_two.2 ⟨p.2.2 i hi, q i (by omega)⟩⟩
      have hE0 : E = 0 := by
        cases h with
        | ok h => rfl
        | base h => omega
        | kind _ _ h => omega
        | len _ _ h1 h4 h => have := ok.lo; have := ok.hi; have := ok.len; omega
        | node _ _ h1 h4 lo hi len K hK bad fine => rw [ok.node K hK] at bad; cases bad
      rw [if_pos hg, hE0]
    · have hE1 : E = 100 := by
        rcases hE with hE | hE
        · exfalso; apply hg
          rw [hE] at h
          have ok := curR_ok h
          have a := e1.2 ⟨ok.lo, ok.hi, fun i hi => (nodC_two.1 (ok.node i hi)).1⟩
          exact ⟨a, ok.len.symm, (e2 a ok.len.symm).2 (fun i hi => (nodC_two.1 (ok.node i (by rw [← ok.len]; exact hi))).2)⟩
        · exact hE
      rw [if_neg hg, hE1]
  cases hE with
  | base h => exact curCheck_base base kind _ _ w h
  | kind b0 b1 h => exact curCheck_kind base kind _ _ w b0 b1 h
  | ok h => exact key h.b0 h.b1 h.k1 h.k4 0 (.ok h) (.inl rfl)
  | len b0 b1 h1 h4 h => exact key b0 b1 h1 h4 100 (.len b0 b1 h1 h4 h) (.inr rfl)
  | node b0 b1 h1 h4 lo hi len K hK bad fine => exact key b0 b1 h1 h4 100 (.node b0 b1 h1 h4 lo hi len K hK bad fine) (.inr rfl)
end Go.Proofs.YtcmbfflemoccmaaGreat
namespace Go.Proofs.YtcmbfflemoccmaaGreat
open Go.RowKit

theorem und64 : Tryz.prog.underlying 38 = some (.float .f64) := by kernel_rfl
theorem und32 : Tryz.prog.underlying 66 = some (.float .f32) := by kernel_rfl
theorem facB_pos {x : Nat} (hx : x < 18446744073709551616) (h : facB x = true) : 0 < x ∧ x < 9218868437227405312 := by
  unfold facB at h
  rw [Bool.and_eq_true] at h
  obtain ⟨h1, h2⟩ := h
  have h3 := (facB_fit hx h2).1
  have h4 := (ltB_pos hx h2).1
  unfold finB szI at h1
  rw [decide_eq_true_eq] at h1
  omega
theorem facB_of {x : Nat} (h0 : 0 < x) (h : x < 9218868437227405312) : facB x = true := by
  have hn : nanB (x : Nat) = false := by unfold nanB szI; exact decide_eq_false (by omega)
  unfold facB
  rw [Bool.and_eq_true]
  refine ⟨by unfold finB szI; exact decide_eq_true (by omega), ?_⟩
  rw [ltB_iff (by decide) hn, decide_eq_true_eq]
  have e : rankI (x : Nat) = (x : Int) := by
    unfold rankI
    rw [hn, if_neg (by decide)]
    unfold sgB szI
    rw [decide_eq_false (by omega)]
    simp; omega
  rw [e, show rankI 0 = 0 by decide]; omega
theorem run_down_big (f : Nat) (h0 : 0 < f) (h : f < 9218868437227405312) (hs : ¬ sgl f < 2139095040) (w : World) : (convert 38 66 (.float .f64 f)).run Tryz.prog w = .ok (.float .f32 (w.tape w.drawn (.floatToFloat f) % 2 ^ 32)) w.drew := by
  have he : FloatKind.f64.decode f = .number false (mg f) (-1074 + (pl f : Int)) := readD_pos h
  have hw : FloatKind.f32.encode (.number false (mg f) (-1074 + (pl f : Int))) = sgl f := writeS_pos h0
  have hi : sgl f = 2139095040 := by have := sgl_top f; omega
  have ho : (FloatKind.f32.decode (FloatKind.f32.encode (.number false (mg f) (-1074 + (pl f : Int))))).isInfinity = true := by
    rw [hw, hi]
    show (Ieee.single.read 2139095040).isInfinity = true
    rw [readS_inf (by decide)]; rfl
  simp [convert, run_underlying und64, run_underlying und32, Conv.floatToFloat, he, ho, Question.forced, Question.cut]
theorem run_down (f : Nat) (h0 : 0 < f) (h : f < 9218868437227405312) (w : World) : ∃ b q, (convert 38 66 (.float .f64 f)).run Tryz.prog w = .ok (.float .f32 b) (w.drewN q) ∧ b < 4294967296 ∧ (sgl f < 2139095040 → b = sgl f) := by
  have hc := conv_down h0 h
  by_cases hs : sgl f < 2139095040
  · rw [if_pos hs] at hc
    exact ⟨sgl f, 0, run_convert_float_float (P := Tryz.prog) (w := w) 38 66 .f64 .f32 f (sgl f) (by rw [und64]; rfl) und32 hc, by omega, fun _ => rfl⟩
  · exact ⟨_, 1, run_down_big f h0 h hs w, Nat.mod_lt _ (by decide), fun c => absurd c hs⟩
theorem run_up_nan (b : Nat) (h : 2139095040 < b % 2147483648) (w : World) : ∃ x, (convert 66 38 (.float .f32 b)).run Tryz.prog w = .ok (.float .f64 x) w.drew ∧ x < 18446744073709551616 ∧ nanB (x : Nat) = true := by
  obtain ⟨fr, hr⟩ := readS_nan h
  have he : FloatKind.f32.decode b = .nan (b / 2147483648 % 2 == 1) fr := hr
  refine ⟨_, by simp [convert, run_underlying und64, run_underlying und32, Conv.floatToFloat, he, Question.forced, Question.cut]; rfl, ?_, ?_⟩
  · have h1 := Nat.mod_lt (w.tape w.drawn (Question.nanConv FloatKind.f64 b)) (show 0 < 2 by decide)
    have h2 := Nat.mod_lt (w.tape w.drawn (Question.nanConv FloatKind.f64 b) / 2) (show 0 < 4503599627370495 by decide)
    generalize w.tape w.drawn (Question.nanConv FloatKind.f64 b) % 2 = s at *
    generalize w.tape w.drawn (Question.nanConv FloatKind.f64 b) / 2 % 4503599627370495 = r at *
    omega
  · have h1 := Nat.mod_lt (w.tape w.drawn (Question.nanConv FloatKind.f64 b)) (show 0 < 2 by decide)
    have h2 := Nat.mod_lt (w.tape w.drawn (Question.nanConv FloatKind.f64 b) / 2) (show 0 < 4503599627370495 by decide)
    generalize w.tape w.drawn (Question.nanConv FloatKind.f64 b) % 2 = s at *
    generalize w.tape w.drawn (Question.nanConv FloatKind.f64 b) / 2 % 4503599627370495 = r at *
    unfold nanB szI
    rcases (show s = 0 ∨ s = 1 by omega) with rfl | rfl
    · exact decide_eq_true (by omega)
    · exact decide_eq_true (by omega)
theorem facB_top {x : Nat} (h : 9223372036854775808 ≤ x) (hx : x < 18446744073709551616) : facB x = false := by
  cases hc : facB x
  · rfl
  · have := facB_pos hx hc; omega
theorem wrdF (r : Nat) : wrd false r = r := rfl
theorem wrdT (r : Nat) : wrd true r = 9223372036854775808 + r := rfl
theorem run_up (b : Nat) (hb : b < 4294967296) (w : World) : ∃ x q, (convert 66 38 (.float .f32 b)).run Tryz.prog w = .ok (.float .f64 x) (w.drewN q) ∧ x < 18446744073709551616 ∧ (facB x = true → 0 < b ∧ b < 2139095040 ∧ x = dblS b) ∧ (0 < b → b < 2139095040 → x = dblS b) := by
  have run : ∀ x, floatToFloatBits .f32 b .f64 = some x → (convert 66 38 (.float .f32 b)).run Tryz.prog w = .ok (.float .f64 x) w := fun x hx => run_convert_float_float (P := Tryz.prog) (w := w) 66 38 .f32 .f64 b x (by rw [und32]; rfl) und64 hx
  rcases (show 2139095040 < b % 2147483648 ∨ b % 2147483648 = 2139095040 ∨ b % 2147483648 = 0 ∨ (0 < b % 2147483648 ∧ b % 2147483648 < 2139095040) by omega) with h | h | h | ⟨h1, h2⟩
  · obtain ⟨x, hr, hl, hn⟩ := run_up_nan b h w
    refine ⟨x, 1, hr, hl, fun hc => ?_, fun _ c => by omega⟩
    unfold facB at hc
    rw [fin_nan hn, Bool.false_and] at hc
    cases hc
  · have hw : ∀ s, wrd s 9218868437227405312 < 18446744073709551616 ∧ facB (wrd s 9218868437227405312) = false := fun s => by cases s <;> decide
    exact ⟨_, 0, run _ (conv_up_inf h), (hw _).1, (fun hc => by rw [(hw _).2] at hc; cases hc), fun _ c => by omega⟩
  · have hw : ∀ s, wrd s 0 < 18446744073709551616 ∧ facB (wrd s 0) = false := fun s => by cases s <;> decide
    exact ⟨_, 0, run _ (conv_up_zero h), (hw _).1, (fun hc => by rw [(hw _).2] at hc; cases hc), fun c _ => by omega⟩
  · obtain ⟨d0, d1⟩ := dblS_fin h1 h2
    by_cases hs : b < 2147483648
    · have e1 : b % 2147483648 = b := Nat.mod_eq_of_lt hs
      have e2 : (b / 2147483648 % 2 == 1) = false := by rw [Nat.div_eq_of_lt hs]; rfl
      have hr := run _ (conv_up_num h1 h2)
      rw [e1, e2, wrdF] at hr
      rw [e1] at d0 d1
      generalize dblS b = D at *
      exact ⟨D, 0, hr, by omega, fun _ => ⟨by omega, by omega, rfl⟩, fun _ _ => rfl⟩
    · have e2 : (b / 2147483648 % 2 == 1) = true := by rw [show b / 2147483648 = 1 by omega]; rfl
      have hr := run _ (conv_up_num h1 h2)
      rw [e2, wrdT] at hr
      generalize dblS (b % 2147483648) = D at *
      have hlt : 9223372036854775808 + D < 18446744073709551616 := by omega
      exact ⟨_, 0, hr, hlt, (fun hc => by rw [facB_top (by omega) hlt] at hc; cases hc), fun _ c => by omega⟩
end Go.Proofs.YtcmbfflemoccmaaGreat
namespace Go.Proofs.YtcmbfflemoccmaaGreat
open Go.RowKit

def SgR (f g : Nat) : Prop := ∃ b, 0 < b ∧ b < 2139095040 ∧ g = dblS b ∧ (sgl f < 2139095040 → b = sgl f)
theorem kown_shape {t : TypeId} {w : World} {base n : Nat} {v : Value} {xs : List Value} (h : w.ownsRow base t 1 v n xs) : ∃ q c, v = .slice q n c := by
  rcases h.2 with ⟨rfl, rfl⟩ | ⟨g, cap, cur, rfl, _⟩
  · exact ⟨none, 0, rfl⟩
  · exact ⟨_, _, rfl⟩
theorem own_apart {t t' : TypeId} {w : World} {b b' n m : Nat} {v v' : Value} {xs ys : List Value} (h : w.ownsRow b t 1 v n xs) (h' : w.ownsRow b' t' 1 v' m ys) (ht : t ≠ t') : ∀ g, v.ownBlock = some g → v'.ownBlock ≠ some g := fun g e e' => by
  rcases h.2 with ⟨rfl, _⟩ | ⟨k, cap, cur, rfl, hk, hgg, _⟩
  · cases e
  · rcases h'.2 with ⟨rfl, _⟩ | ⟨k', cap', cur', rfl, hk', hgg', _⟩
    · cases e'
    · have e1 : k = g := by simpa [Value.ownBlock] using e
      have e2 : k' = g := by simpa [Value.ownBlock] using e'
      subst e1
      subst e2
      rw [hgg] at hgg'
      injection hgg' with hgg'
      injection hgg' with _ hh
      exact ht hh
theorem own_far {t : TypeId} {w w' : World} {base n : Nat} {v : Value} {r : Option Nat} {xs : List Value} (h : w.ownsRow base t 1 v n xs) (hw : w.grownBy w' r) (hne : ∀ g, v.ownBlock = some g → r ≠ some g) : w'.ownsRow base t 1 v n xs := by
  refine ⟨h.1, ?_⟩
  rcases h.2 with hn | ⟨j, cap, cur, rfl, hk, hgg, rest⟩
  · exact .inl hn
  · exact .inr ⟨j, cap, cur, rfl, hk, by rw [hw.block j (Array.getElem?_eq_some_iff.1 hgg).1 (fun c => hne j (by simp [Value.ownBlock]) c.symm)]; exact hgg, rest⟩
structure SgL (w : World) (B : Nat) (base kind : Int) (vd vf vX vY : Value) (wr : World) : Prop where
  b : SgB w base kind vd vf wr
  s0 : wr.cell? ⟨B, 0, none⟩ = some (.int .i64 base)
  s1 : wr.cell? ⟨B, 1, none⟩ = some (.int .i64 kind)
  s2 : wr.cell? ⟨B, 2, none⟩ = some vX
  s3 : wr.cell? ⟨B, 3, none⟩ = some vY
  fz : ∀ i, wr.frozen? ⟨B, i, none⟩ = false
  lo : w.heap.size + 2 ≤ B
  sz : B + 1 ≤ wr.heap.size
theorem SgL.stay {w wr w' : World} {B : Nat} {base kind : Int} {vd vf vX vY : Value} (h : SgL w B base kind vd vf vX vY wr) (hb : Below (B + 1) wr w') : SgL w B base kind vd vf vX vY w' := by
  have c : ∀ j, w'.cell? ⟨B, j, none⟩ = wr.cell? ⟨B, j, none⟩ := fun j => hb.cell (p := ⟨B, j, none⟩) (by show B < _; omega)
  have g : ∀ j, w'.frozen? ⟨B, j, none⟩ = wr.frozen? ⟨B, j, none⟩ := fun j => hb.frozen (p := ⟨B, j, none⟩) (by show B < _; omega)
  exact ⟨h.b.stay (hb.mono (by have := h.lo; omega)), (c 0).trans h.s0, (c 1).trans h.s1, (c 2).trans h.s2, (c 3).trans h.s3, fun i => (g i).trans (h.fz i), h.lo, Nat.le_trans h.sz hb.size⟩
theorem SgL.put {w wr : World} {B : Nat} {base kind : Int} {vd vf vX vY : Value} (h : SgL w B base kind vd vf vX vY wr) (x y : Value) : SgL w B base kind vd vf x y ((wr.setCell ⟨B, 2, none⟩ x).setCell ⟨B, 3, none⟩ y) := by
  have hb : Below B wr ((wr.setCell ⟨B, 2, none⟩ x).setCell ⟨B, 3, none⟩ y) := ((Below.refl _ wr).setCell (p := ⟨B, 2, none⟩) (Nat.le_refl _) x).setCell (p := ⟨B, 3, none⟩) (Nat.le_refl _) y
  refine ⟨h.b.stay (hb.mono h.lo), ?_, ?_, ?_, ?_, fun i => ?_, h.lo, by simpa using h.sz⟩
  · simp [h.s0, go_sem]
  · simp [h.s1, go_sem]
  · simp [h.s2, go_sem]
  · simp [h.s3, go_sem]
  · simp [h.fz i, go_sem]
theorem sgL_at {w w2 : World} {base kind : Int} {vd vf : Value} (h : SgB w base kind vd vf w2) : SgL w w2.heap.size base kind vd vf (.slice none 0 0) (.slice none 0 0) (w2.alloc (.cells #[.int .i64 base, .int .i64 kind, .slice none 0 0, .slice none 0 0] 25)) :=
  ⟨h.stay ((Below.refl _ _).alloc h.sz _), newC0 w2 _ _ 0, newC0 w2 _ _ 1, newC0 w2 _ _ 2, newC0 w2 _ _ 3, fun i => World.frozen?_alloc_new _ _ _ _, h.sz, by simp⟩
end Go.Proofs.YtcmbfflemoccmaaGreat
