/- Deals compiled, in plain words: the code of a tree, and the states that the compiler goes through. Package deal: Check and Depth of any list of terms. Package code: Compile of any list of terms. The document's Same, of a code and itself. The document's Marks, whatever code. -/
import Derived.Test.YtienedhaogjahaaGreatDoorHbe
import Derived.Test.YtienedhaogjahaaGreatDoorHaz
import Derived.Test.YtienedhaogjahaaGreatDoorHbd
import Derived.Test.YtienedhaogjahaaGreatDoorHbc
namespace Go.Proofs.YtienedhaogjahaaGreatDoor
open Go.RowKit

inductive CodR (ts : List Trm) : Nat → List Opr → Nat → Prop
  | zero (i : Nat) : i < ts.length → (ts.getD i trm0).kind = 1 → CodR ts i [] 1
  | leaf (i : Nat) : i < ts.length → (ts.getD i trm0).kind = 2 ∨ (ts.getD i trm0).kind = 3 → CodR ts i [opT (ts.getD i trm0)] 1
  | both (i a b : Nat) (la lb : List Opr) (ka kb : Nat) : i < ts.length → (ts.getD i trm0).kind = 5 → (ts.getD i trm0).a = (a : Int) → (ts.getD i trm0).b = (b : Int) → a < i → b < i → CodR ts a la ka → CodR ts b lb kb → CodR ts i (la ++ lb) (ka + kb + 1)
  | one (i a : Nat) (la : List Opr) (ka : Nat) : i < ts.length → (ts.getD i trm0).kind = 4 ∨ (6 ≤ (ts.getD i trm0).kind ∧ (ts.getD i trm0).kind ≤ 8) → (ts.getD i trm0).a = (a : Int) → a < i → CodR ts a la ka → CodR ts i (markO :: (la ++ [opT (ts.getD i trm0)])) (ka + 1 + 1)
theorem sh_parts {ts : List Trm} {n : Nat} {F D : List Int} (h : shP ts n = some (F, D)) : ∀ i < n, fitT (ts.getD i trm0) = true ∧ ((ts.getD i trm0).kind ≤ 3 ∧ F.getD i 0 = (i : Int) ∨ (ts.getD i trm0).kind = 5 ∧ (∃ a : Nat, (ts.getD i trm0).a = (a : Int) ∧ a + 1 < i + 1 ∧ (ts.getD i trm0).b = ((i - 1 : Nat) : Int) ∧ a < i - 1 ∧ F.getD (i - 1) 0 = (a : Int) + 1 ∧ F.getD i 0 = F.getD a 0) ∨ (3 < (ts.getD i trm0).kind ∧ (ts.getD i trm0).kind ≠ 5) ∧ 1 ≤ i ∧ (ts.getD i trm0).a = ((i - 1 : Nat) : Int) ∧ F.getD i 0 = F.getD (i - 1) 0) := by
  induction n generalizing F D with
  | zero => intro i hi; omega
  | succ n ih =>
    cases e : shP ts n with
    | none =>
      have : shP ts (n + 1) = none := by show (shP ts n).bind _ = none; rw [e]; rfl
      rw [this] at h; cases h
    | some s =>
      obtain ⟨F', D'⟩ := s
      have hx := shP_next e
      rw [h] at hx
      obtain ⟨hI, xs, hms, _⟩ := shP_inv e
      cases e2 : shS n (ts.getD n trm0) F' D' with
      | none => rw [e2] at hx; cases hx
      | some r =>
        obtain ⟨f, d⟩ := r
        rw [e2] at hx
        injection hx with hx
        injection hx with hx1 hx2
        subst hx1 hx2
        have lf := hI.lf
        intro i hi
        by_cases hin : i < n
        · have := ih e i hin
          rw [getD_app (by omega)]
          refine ⟨this.1, ?_⟩
          rcases this.2 with h | ⟨h, a, h1, h2, h3, h4, h5, h6⟩ | ⟨h, h1, h2, h3⟩
          · exact .inl h
          · exact .inr (.inl ⟨h, a, h1, h2, h3, h4, by rw [getD_app (by omega)]; exact h5, by rw [getD_app (by omega)]; exact h6⟩)
          · exact .inr (.inr ⟨h, h1, h2, by rw [getD_app (by omega)]; exact h3⟩)
        · obtain rfl : i = n := by omega
          rw [getD_end lf.symm]
          have hft : fitT (ts.getD i trm0) = true := by
            have hm := mS_step hms
            obtain ⟨ys, hys⟩ : ∃ ys, mS ts (i + 1) = some ys := by
              obtain ⟨_, ys, hys, _⟩ := shP_inv h
              exact ⟨ys, hys⟩
            rw [hys] at hm
            unfold stT at hm
            split at hm
            · assumption
            · cases hm
          refine ⟨hft, ?_⟩
          unfold shS at e2
          split at e2
          · cases e2
          split at e2
          · rename_i h3
            split at e2
            · injection e2 with e2; injection e2 with e3 e4
              exact .inl ⟨h3, e3.symm⟩
            · cases e2
          split at e2
          · rename_i h3 h5
            split at e2
            · rename_i hc
              injection e2 with e2; injection e2 with e3 e4
              have hb := hI.f0 (i - 1) (by omega)
              refine .inr (.inl ⟨h5, (ts.getD i trm0).a.toNat, by omega, by omega, by omega, by omega, ?_, ?_⟩)
              · rw [getD_app (by omega)]; omega
              · rw [getD_app (by omega)]; exact e3.symm
            · cases e2
          · rename_i h3 h5
            split at e2
            · rename_i hc
              injection e2 with e2; injection e2 with e3 e4
              refine .inr (.inr ⟨⟨by omega, h5⟩, by omega, by omega, ?_⟩)
              rw [getD_app (by omega)]; exact e3.symm
            · cases e2
theorem cod_ex {ts : List Trm} {F D : List Int} (h : shP ts ts.length = some (F, D)) : ∀ i < ts.length, ∃ l K, CodR ts i l K ∧ l.length ≤ K ∧ (K : Int) ≤ 2 * ((i : Int) + 1 - F.getD i 0) := by
  obtain ⟨hI, _⟩ := shP_inv h
  have key : ∀ k i, i < k → i < ts.length → ∃ l K, CodR ts i l K ∧ l.length ≤ K ∧ (K : Int) ≤ 2 * ((i : Int) + 1 - F.getD i 0) := by
    intro k
    induction k with
    | zero => intro i hi; omega
    | succ k ih =>
      intro i hik hi
      have f0 := hI.f0 i hi
      obtain ⟨hft, hp⟩ := sh_parts h i hi
      have hk := fit_kind hft
      rcases hp with ⟨h3, hf⟩ | ⟨h5, a, ha, h2, hb, hab, hf1, hf2⟩ | ⟨h3, h1, ha, hf⟩
      · by_cases hz : (ts.getD i trm0).kind = 1
        · exact ⟨[], 1, .zero i hi hz, by simp, by omega⟩
        · exact ⟨_, 1, .leaf i hi (by omega), by simp, by omega⟩
      · obtain ⟨la, ka, ca, la', ka'⟩ := ih a (by omega) (by omega)
        obtain ⟨lb, kb, cb, lb', kb'⟩ := ih (i - 1) (by omega) (by omega)
        exact ⟨_, _, .both i a (i - 1) la lb ka kb hi h5 ha hb (by omega) (by omega) ca cb, by rw [List.length_append]; omega, by omega⟩
      · obtain ⟨la, ka, ca, la', ka'⟩ := ih (i - 1) (by omega) (by omega)
        refine ⟨_, _, .one i (i - 1) la ka hi (by omega) ha (by omega) ca, ?_, by omega⟩
        rw [List.length_cons, List.length_append, List.length_singleton]; omega
  exact fun i hi => key (i + 1) i (by omega) hi
inductive CPath (ts : List Trm) : List Opr × List (Int × Bool) → Nat → List Opr × List (Int × Bool) → Prop
  | refl (s) : CPath ts s 0 s
  | step (s s' s'' : List Opr × List (Int × Bool)) (K : Nat) (r : List (Int × Bool)) (i : Nat) (vb : Bool) : s.2 = r ++ [((i : Int), vb)] → i < ts.length → CStep (ts.getD i trm0) s.1 r ((i : Int), vb) s' → CPath ts s' K s'' → CPath ts s (K + 1) s''
theorem CPath.append {ts : List Trm} {s s' s'' : List Opr × List (Int × Bool)} {K K' : Nat} (h : CPath ts s K s') (h' : CPath ts s' K' s'') : CPath ts s (K + K') s'' := by
  induction h with
  | refl => rw [Nat.zero_add]; exact h'
  | step s1 s2 s3 K r i vb e hi st _ ih =>
    rw [show K + 1 + K' = (K + K') + 1 by omega]
    exact .step s1 s2 s'' (K + K') r i vb e hi st (ih h')
theorem CPath.states {ts : List Trm} {s s' : List Opr × List (Int × Bool)} {K : Nat} (h : CPath ts s K s') : ∃ S : Nat → List Opr × List (Int × Bool), S 0 = s ∧ S K = s' ∧ ∀ k < K, ∃ (r : List (Int × Bool)) (i : Nat) (vb : Bool), (S k).2 = r ++ [((i : Int), vb)] ∧ i < ts.length ∧ CStep (ts.getD i trm0) (S k).1 r ((i : Int), vb) (S (k + 1)) := by
  induction h with
  | refl s => exact ⟨fun _ => s, rfl, rfl, fun k hk => by omega⟩
  | step s1 s2 s3 K r i vb e hi st _ ih =>
    obtain ⟨S, h0, hK, hs⟩ := ih
    refine ⟨fun k => if k = 0 then s1 else S (k - 1), rfl, ?_, fun k hk => ?_⟩
    · show (if K + 1 = 0 then s1 else S (K + 1 - 1)) = s3
      rw [if_neg (by omega)]; exact hK
    · by_cases hk0 : k = 0
      · subst hk0
        refine ⟨r, i, vb, e, hi, ?_⟩
        show CStep _ s1.1 r _ (S 0)
        rw [h0]; exact st
      · obtain ⟨r', i', vb', e', hi', st'⟩ := hs (k - 1) (by omega)
        refine ⟨r', i', vb', ?_, hi', ?_⟩
        · show (if k = 0 then s1 else S (k - 1)).2 = _
          rw [if_neg hk0]; exact e'
        · show CStep _ (if k = 0 then s1 else S (k - 1)).1 r' _ (S (k + 1 - 1))
          rw [if_neg hk0, show k + 1 - 1 = k - 1 + 1 by omega]; exact st'
theorem cstep_len {x : Trm} {l : List Opr} {r : List (Int × Bool)} {v : Int × Bool} {s : List Opr × List (Int × Bool)} (h : CStep x l r v s) : s.1.length ≤ l.length + 1 ∧ s.2.length ≤ r.length + 2 := by
  cases h <;> simp
theorem tk_leaf {k : Int} (h : k = 2 ∨ k = 3) : tTk k = false := by rcases h with rfl | rfl <;> rfl
theorem tk_one {k : Int} (h : k = 4 ∨ (6 ≤ k ∧ k ≤ 8)) : tTk k = true := by
  unfold tTk
  rcases h with rfl | ⟨h6, h8⟩
  · rfl
  · rw [decide_eq_true h6, decide_eq_true h8, Bool.and_self, Bool.or_true]
theorem cod_path {ts : List Trm} {i K : Nat} {l : List Opr} (h : CodR ts i l K) : ∀ (l0 : List Opr) (r : List (Int × Bool)), CPath ts (l0, r ++ [((i : Int), false)]) K (l0 ++ l, r) := by
  induction h with
  | zero i hi hk =>
    intro l0 r
    refine .step _ (l0, r) _ 0 r i false rfl hi (.zero hk) ?_
    rw [List.append_nil]; exact .refl _
  | leaf i hi hk =>
    intro l0 r
    exact .step _ (l0 ++ [opT (ts.getD i trm0)], r) _ 0 r i false rfl hi (.op (by omega) (by omega) (by rw [tk_leaf hk]; rfl)) (.refl _)
  | both i a b la lb ka kb hi hk ha hb h1 h2 _ _ iha ihb =>
    intro l0 r
    refine .step _ (l0, r ++ [((b : Int), false), ((a : Int), false)]) _ (ka + kb) r i false rfl hi ?_ ?_
    · rw [← ha, ← hb]; exact .both hk
    · have p1 := iha l0 (r ++ [((b : Int), false)])
      rw [List.append_assoc] at p1
      have p2 := ihb (l0 ++ la) r
      rw [List.append_assoc] at p2
      exact p1.append p2
  | one i a la ka hi hk ha h1 _ iha =>
    intro l0 r
    refine .step _ (l0 ++ [markO], r ++ [((i : Int), true), ((a : Int), false)]) _ (ka + 1) r i false rfl hi ?_ ?_
    · rw [← ha]
      exact .mark (by omega) (by omega) (by rw [tk_one hk]; rfl)
    · have p1 := iha (l0 ++ [markO]) (r ++ [((i : Int), true)])
      rw [List.append_assoc] at p1
      refine p1.append (.step _ (l0 ++ [markO] ++ la ++ [opT (ts.getD i trm0)], r) _ 0 r i true rfl hi (.op (by omega) (by omega) rfl) ?_)
      have e : l0 ++ [markO] ++ la ++ [opT (ts.getD i trm0)] = l0 ++ markO :: (la ++ [opT (ts.getD i trm0)]) := by simp
      rw [e]
      exact .refl _
theorem compiled_cod {ts : List Trm} {l : List Opr} {K n : Nat} (hn : ts.length = n) (h1 : 1 ≤ n) (h2 : n ≤ 1024) (hc : CodR ts (n - 1) l K) (hK : K ≤ 2048) (c : Nat) (p0 : Option Addr) (g o : Nat) (w : World) (ht : TSrc w p0 g o ts) :
    Calls Tryz.prog 22 #[.slice p0 n c] w fun e w' => ∃ v, e = .returned v ∧ w'.ownsRow w.heap.size 47 9 v l.length (rowV opC l) ∧ Below w.heap.size w w' := by
  obtain ⟨S, h0, hSK, hS⟩ := (cod_path hc [] []).states
  rw [List.nil_append] at h0
  rw [List.nil_append] at hSK
  have hl : ∀ k ≤ K, (S k).1.length ≤ k ∧ (S k).2.length ≤ k + 1 := by
    intro k
    induction k with
    | zero => intro _; rw [h0]; simp
    | succ k ih =>
      intro hk
      obtain ⟨r, i, vb, e, hi, st⟩ := hS k (by omega)
      have := cstep_len st
      have i1 := ih (by omega)
      have : (S k).2.length = r.length + 1 := by rw [e]; simp
      omega
  have := compiled_any ts n c K p0 g o hn (by omega) S (by rw [h0]; show ([], [(((n - 1 : Nat) : Int), false)]) = _; rw [show ((n - 1 : Nat) : Int) = (n : Int) - 1 by omega]) (by rw [hSK]) (by rw [← hn]; exact hS) (fun k hk => by have := hl k hk; omega) w ht
  rw [hSK] at this
  exact this
end Go.Proofs.YtienedhaogjahaaGreatDoor
namespace Go.Proofs.YtienedhaogjahaaGreatDoor
open Go.RowKit

set_option maxRecDepth 20000 in
theorem dCheck_of (v : Value) (D E A : Int) (w : World) (hm : Calls Tryz.prog 41 #[v] w fun e w' => e = .returned (.tuple #[.int .i64 D, .int .i64 E, .int .i64 A]) ∧ Below w.heap.size w w') : Calls Tryz.prog 21 #[v] w fun e w' => e = .returned (.tuple #[.int .i64 E, .int .i64 A]) ∧ Below w.heap.size w w' := by
  have H := hidD hm
  clear hm
  go_enter Tryz.func21, Tryz.ntmps21
  go_wp2_with fail
  refine H.out.mono ?_
  rintro e w1 ⟨rfl, hb⟩
  have HB := hidD hb
  clear hb
  go_wp2_with fail
  go_ret2
  exact ⟨rfl, HB.out⟩
theorem dMes_is {ts : List Trm} {D E A : Int} (hm : MesR ts D E A) (n : Nat) (p0 : Option Addr) (b off c : Nat) (w : World) (hs : TSrc w p0 b off ts) (hn : ts.length = n) (hu : ∀ i < n, TrU (ts.getD i trm0)) (hl : n ≤ 9223372036854775807) :
    Calls Tryz.prog 41 #[.slice p0 n c] w fun e w' => e = .returned (.tuple #[.int .i64 D, .int .i64 E, .int .i64 A]) ∧ Below w.heap.size w w' :=
  (measure_any ts n p0 b off c w hs hn hu hl).mono fun e w' ⟨D', E', A', he, hm', hb⟩ => by
    obtain ⟨rfl, rfl, rfl⟩ := hm.unique hm'
    exact ⟨he, hb⟩
theorem dCheck_is {ts : List Trm} {D E A : Int} (hm : MesR ts D E A) (n : Nat) (p0 : Option Addr) (b off c : Nat) (w : World) (hs : TSrc w p0 b off ts) (hn : ts.length = n) (hu : ∀ i < n, TrU (ts.getD i trm0)) (hl : n ≤ 9223372036854775807) :
    Calls Tryz.prog 21 #[.slice p0 n c] w fun e w' => e = .returned (.tuple #[.int .i64 E, .int .i64 A]) ∧ Below w.heap.size w w' := dCheck_of _ D E A w (dMes_is hm n p0 b off c w hs hn hu hl)
theorem tsrc_of {w : World} {B n c : Nat} {p : Option Addr} {l : List Trm} (h : w.ownsRow B 50 11 (.slice p n c) n (rowV trC l)) (hn : l.length = n) : ∃ g, TSrc w p g 0 l := by
  obtain ⟨p', c', g, hv, _, _, hp, _, hb, hc, _⟩ := orow_src h
  injection hv with hv1 hv2 hv3
  subst hv1 hv3
  have hg : ∀ i < l.length, ∀ j < 11, w.cell? ⟨g, i * 11 + j, none⟩ = (trC (l.getD i trm0))[j]? := fun i hi j hj => by
    rw [hc _ (by omega), rowV_get (f := trC) (s := 11) (fun _ => rfl) trm0 l i j hi hj]
  refine ⟨g, ⟨fun h => hp (by omega), fun h => (hb _ (hp (by omega))).2.2, ?_, ?_, ?_, ?_, ?_, ?_, ?_, ?_, ?_, ?_, ?_⟩⟩ <;> intro i hi <;> rw [Nat.zero_add]
  · exact hg i hi 0 (by decide)
  · exact hg i hi 1 (by decide)
  · exact hg i hi 2 (by decide)
  · exact hg i hi 3 (by decide)
  · exact hg i hi 4 (by decide)
  · exact hg i hi 5 (by decide)
  · exact hg i hi 6 (by decide)
  · exact hg i hi 7 (by decide)
  · exact hg i hi 8 (by decide)
  · exact hg i hi 9 (by decide)
  · exact hg i hi 10 (by decide)
end Go.Proofs.YtienedhaogjahaaGreatDoor
namespace Go.Proofs.YtienedhaogjahaaGreatDoor
open Go.RowKit

set_option maxRecDepth 20000 in
theorem cCompile_bad {ts : List Trm} {D E A : Int} (hm : MesR ts D E A) (hE : E ≠ 0) (n : Nat) (p0 : Option Addr) (b off c : Nat) (w : World) (hs : TSrc w p0 b off ts) (hn : ts.length = n) (hu : ∀ i < n, TrU (ts.getD i trm0)) (hl : n ≤ 9223372036854775807) :
    Calls Tryz.prog 8 #[.slice p0 n c] w fun e w' => e = .returned (.tuple #[.slice none 0 0, .int .i64 E]) ∧ Below w.heap.size w w' := by
  have HC := hidD (dCheck_is hm n p0 b off c w hs hn hu hl)
  have z : (E != 0) = true := bne_iff_ne.2 hE
  clear hm hE hs hn hu hl
  go_enter Tryz.func8, Tryz.ntmps8
  go_wp2_with fail
  refine HC.out.mono ?_
  rintro e w1 ⟨rfl, hb⟩
  have HB := hidD hb
  clear hb
  go_wp2_with fail
  go_ret2
  exact ⟨rfl, HB.out⟩
set_option maxRecDepth 20000 in
theorem cCompile_ok {ts : List Trm} {D A : Int} (hm : MesR ts D 0 A) {l : List Opr} {K n : Nat} (hn : ts.length = n) (h1 : 1 ≤ n) (h2 : n ≤ 1024) (hc : CodR ts (n - 1) l K) (hK : K ≤ 2048) (p0 : Option Addr) (b off c : Nat) (w : World) (hs : TSrc w p0 b off ts) (hu : ∀ i < n, TrU (ts.getD i trm0)) :
    Calls Tryz.prog 8 #[.slice p0 n c] w fun e w' => (∃ v, e = .returned (.tuple #[v, .int .i64 0]) ∧ w'.ownsRow w.heap.size 47 9 v l.length (rowV opC l)) ∧ Below w.heap.size w w' := by
  have HC := hidD (dCheck_is hm n p0 b off c w hs hn hu (by omega))
  have HS := hidD hs
  have HD := hidD (fun w (h : TSrc w p0 b off ts) => compiled_cod hn h1 h2 hc hK c p0 b off w h)
  clear hm hs hn hu hc h1 hK
  go_enter Tryz.func8, Tryz.ntmps8
  go_wp2_with fail
  refine HC.out.mono ?_
  rintro e w1 ⟨rfl, hb⟩
  have HB := hidD hb
  have HS1 := hidD (HS.out.below hb)
  clear hb
  go_wp2_with fail
  refine (HD.out _ HS1.out).mono ?_
  rintro e w2 ⟨v, rfl, ho, hb⟩
  have H2 := hidD (And.intro (orow_lower ho HB.out.size) (HB.out.trans (hb.mono HB.out.size)))
  clear ho hb
  go_wp2_with fail
  go_ret2
  exact ⟨⟨_, rfl, H2.out.1⟩, H2.out.2⟩
end Go.Proofs.YtienedhaogjahaaGreatDoor
namespace Go.Proofs.YtienedhaogjahaaGreatDoor
open Go.RowKit

theorem below_drewNm {B : Nat} {w w2 : World} {n : Nat} (hb : Below B w w2) : Below B w (w2.drewN n) := ⟨hb.os, hb.tape, hb.output, hb.size, hb.block⟩
theorem eqP_refl (p : Opr) : eqP p p = true := by simp [eqP]
theorem eqP_nrun (p q : Opr) (w : World) : (binOp .neq 66 (.agg (opD p)) (.agg (opD q))).run Tryz.prog w = .ok (.bool (!(eqP p q))) w := by
  have h := eqP_run p q w
  rw [run_eql_struct] at h
  rw [run_neq_struct]
  generalize (Op.equalIn 10000 66 (.agg (opD p)) (.agg (opD q))).run Tryz.prog w = z at h ⊢
  cases z with
  | ok b w' =>
    have h' : Result.ok (Value.bool b) w' = Result.ok (Value.bool (eqP p q)) w := h
    injection h' with h1 h2
    injection h1 with h1
    subst h1 h2
    rfl
  | _ => cases h

set_option maxRecDepth 20000 in
set_option maxHeartbeats 12800000 in
theorem r18Same_same (l : List Opr) (N : Nat) (p q : Option Addr) (b off c g off' c' : Nat) (w : World) (hl : OSrc w p b off l) (hm : DSrc w q g off' l) (hN : l.length = N) (hc : N * 72 ≤ 140737488355328) :
    Calls Tryz.prog 11 #[.slice p N c, .slice q N c'] w fun e w' => e = .returned (.bool true) ∧ Below w.heap.size w w' := by
  have HO := hidD (r18Of_any l N p b off c w hl hN hc)
  have HS := hidD (And.intro hm hN)
  have hc2 : N ≤ 140737488355328 := by omega
  clear hl hm hc hN
  go_enter Tryz.func11, Tryz.ntmps11
  go_wp2_with fail
  refine HO.out.mono ?_
  rintro e w1 ⟨⟨k0, cq, rfl, ho⟩, hb⟩
  obtain ⟨g2, hd⟩ := dsrc_of ho HS.out.2
  have H1 := hidD (And.intro hb hd)
  clear ho hb hd HO
  go_wp2_with fail
  go_loopw [6] (fun i wr => ∃ k : Nat, k ≤ N ∧ i = .int .i64 k ∧ Hid (Below w.heap.size w wr) ∧ Hid (DSrc wr k0 g2 0 l)) (fun i _ => N - (intOf i).toNat)
  case atStart => exact ⟨0, Nat.zero_le _, rfl, H1.out.1, H1.out.2⟩
  case round =>
    obtain ⟨k, hk, rfl, HB, HD⟩ := hrel
    by_cases hlt : k < N
    · have hlt' : k < l.length := by rw [HS.out.2]; exact hlt
      have HSr := hidD (HS.out.1.below HB.out)
      obtain rfl := HSr.out.at_ (by omega)
      obtain rfl := HD.out.at_ (by omega)
      have c0 := HSr.out.c0 k hlt'
      have c1 := HSr.out.c1 k hlt'
      have c2 := HSr.out.c2 k hlt'
      have c3 := HSr.out.c3 k hlt'
      have c4 := HSr.out.c4 k hlt'
      have c5 := HSr.out.c5 k hlt'
      have c6 := HSr.out.c6 k hlt'
      have c7 := HSr.out.c7 k hlt'
      have c8 := HSr.out.c8 k hlt'
      have d0 := HD.out.c0 k hlt'
      have d1 := HD.out.c1 k hlt'
      have d2 := HD.out.c2 k hlt'
      have d3 := HD.out.c3 k hlt'
      have d4 := HD.out.c4 k hlt'
      have d5 := HD.out.c5 k hlt'
      have d6 := HD.out.c6 k hlt'
      have d7 := HD.out.c7 k hlt'
      have d8 := HD.out.c8 k hlt'
      simp only [Nat.zero_add] at d0 d1 d2 d3 d4 d5 d6 d7 d8
      have heq := fun w => eqP_nrun (l.getD k opr0) (l.getD k opr0) w
      rw [eqP_refl] at heq
      generalize l.getD k opr0 = o at *
      unfold opD at heq
      have i1 : (k : Int) < (N : Int) := by omega
      clear hlt'
      go_wp2_with fail
      go_quiet (fail)
      go_wp2_with fail
      go_roundw
      case rel => exact ⟨k + 1, by omega, by simp, below_drewNm HB.out, HD.out.below (below_drewNm (Below.refl _ _))⟩
      case measure => simp [intOf]; omega
    · obtain rfl : k = N := by omega
      go_wp2_with fail
      go_ret
      exact ⟨rfl, HB.out⟩
end Go.Proofs.YtienedhaogjahaaGreatDoor
namespace Go.Proofs.YtienedhaogjahaaGreatDoor
open Go.RowKit

theorem MeaR.none {l : List Opr} {M E A : Int} (h : MeaR l M E A) (he : E ≠ 0) : M = 0 := by
  cases h with
  | long => rfl
  | bad => rfl
  | left => rfl
  | fine => exact absurd rfl he
end Go.Proofs.YtienedhaogjahaaGreatDoor
