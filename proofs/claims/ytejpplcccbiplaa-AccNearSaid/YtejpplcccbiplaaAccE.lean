/- The contract of package acc's plus. -/
import Derived.Test.YtejpplcccbiplaaAccD
import Derived.Deep.RegionWith
namespace Go.Proofs.Ytejpplcccbiplaa
open Go.RowKit

theorem longW_getD {xs : List Nat} {n k : Nat} (hk : k < max xs.length n) : (longW xs n).getD k 0 = wd xs k := by
  unfold longW wd
  rw [getD_app]
  by_cases h : k < xs.length
  · rw [if_pos h, if_pos h]
  · rw [if_neg h, if_neg h, List.getD, List.getElem?_replicate, if_pos (by omega)]; rfl
theorem Wrote.own {a b c : World} {v v1 : Value} (h : Wrote a b (At v)) (hn : New a v v1) (h' : Wrote b c (At v1)) : Wrote a c (At v) :=
  h.trans h' (fun k hk hk1 => by
    rcases hn k hk1 with h5 | h5
    · exact h5
    · omega)

set_option maxHeartbeats 1600000 in
theorem plus_core (B : Nat) (v : Value) (xs vs : List Nat) (pu : Option Addr) (m cu : Nat) (N M : Int) (w : World) (R : World → Value → Prop)
    (hlong : Calls Try.prog 56 #[v, .int .i64 m] w fun e w1 => ∃ v1, e = .returned v1 ∧ R w1 v1)
    (hR : ∀ w1 v1, R w1 v1 → OwnW w1 B v1 (longW xs m) ∧ Wrote w w1 (At v) ∧ New w v v1)
    (hword : ∀ (w1 wr : World) (v1 : Value) (ys : List Nat) (k : Nat), R w1 v1 → OwnW wr B v1 ys → Wrote w1 wr (At v1) → ys.length = max xs.length m → k < ys.length → (∀ j, k ≤ j → ys.getD j 0 = (longW xs m).getD j 0) → ∀ w2, (∃ q, w2 = wr.drewN q) → Calls Try.prog 58 #[.slice pu m cu, .int .i64 k] w2 fun e w' => e = .returned (.int .u64 (wd vs k : Nat)) ∧ w' = w2)
    (hs : Sg xs N) (hs' : Sg vs M) (hm : vs.length = m) (hn : xs.length ≤ 50000) (hn' : m ≤ 50000) (hB : B ≤ w.heap.size) :
    Calls Try.prog 35 #[v, .slice pu m cu] w fun e w' => ∃ v' zs, e = .returned v' ∧ OwnW w' B v' zs ∧ zs.length ≤ max xs.length m + 1 ∧ Sg zs (N + M) ∧ Wrote w w' (At v) ∧ New w v v' := by
  have HLo := hideS hlong
  have HRo := hideS hR
  have HWo := hideS hword
  have HS := hideS (And.intro hs (And.intro hs' hm))
  have HLL := hideS (longW_len xs m)
  obtain ⟨n, hN⟩ : ∃ n, max xs.length m = n := ⟨_, rfl⟩
  have HN := hideS hN
  have hn1 : n ≤ 50000 := by omega
  have HG : Hid (∀ k, k < n → (longW xs m).getD k 0 = wd xs k) := fun k hk => longW_getD (by rw [hN]; exact hk)
  rw [hN] at HLL HWo ⊢
  clear hlong hR hword hs hs' hm hn hN
  go_enter Try.func35, Try.ntmps35
  go_wp2_with fail
  refine HLo.out.mono ?_
  rintro e w1 ⟨v1, rfl, hr1⟩
  have R1 := hideS hr1
  have O1 := hideS (HRo.out w1 v1 hr1)
  clear hr1 HLo HRo
  obtain ⟨p1, g1, c1, hv1, hc1, hc2, hp1, _⟩ := O1.out.1.shape
  rw [HLL.out] at hv1 hc1 hp1
  subst hv1
  have HP : Hid (0 < n → p1 = some ⟨g1, 0, none⟩) := fun h => (hp1 h).1
  clear hp1
  have HW1 := hideS (fun (wr : World) (ys : List Nat) (k : Nat) => HWo.out w1 wr (.slice p1 n c1) ys k R1.out)
  clear HWo
  go_wp2_with fail
  go_loopw [5, 6, 13] (fun b _ i wr => ∃ (k c : Nat) (ys : List Nat), k ≤ n ∧ c ≤ 1 ∧ b = .int .u64 c ∧ i = .int .i64 k ∧ Hid (OwnW wr B (.slice p1 n c1) ys ∧ ys.length = n ∧ Rel 1 (fun i => ys.getD i 0) (wd xs) (wd vs) c k ∧ (∀ j, k ≤ j → ys.getD j 0 = (longW xs m).getD j 0) ∧ Wrote w1 wr (At (.slice p1 n c1)))) (fun _ _ i _ => n - (intOf i).toNat)
  case atStart => exact ⟨0, 0, longW xs m, Nat.zero_le _, by omega, rfl, rfl, O1.out.1, HLL.out, Rel.start _ _ _ _, fun _ _ => rfl, Wrote.refl _ _⟩
  case round =>
    obtain ⟨k, cy, ys, hk, hcy, rfl, rfl, HR⟩ := hrel
    by_cases hlt : k < n
    · obtain rfl := HP.out (by omega)
      have hcl : wr.cell? ⟨g1, k, none⟩ = some (.int .u64 (ys.getD k 0 : Nat)) := HR.out.1.cell1 HR.out.2.1 k (by rw [HR.out.2.1]; exact hlt)
      have hfz : wr.frozen? ⟨g1, k, none⟩ = false := HR.out.1.frozen1 HR.out.2.1 k
      have hxf : ys.getD k 0 < 18446744073709551616 := HR.out.1.fit k
      have hyf : wd vs k < 18446744073709551616 := HS.out.2.1.fit.wd k
      have HX : Hid (ys.getD k 0 = wd xs k) := (HR.out.2.2.2.1 k (Nat.le_refl _)).trans (HG.out k hlt)
      have HWd := hideS (HW1.out wr ys k HR.out.1 HR.out.2.2.2.2 HR.out.2.1 (by rw [HR.out.2.1]; exact hlt) HR.out.2.2.2.1)
      generalize ys.getD k 0 = x at hcl hxf HX
      obtain ⟨y, hy⟩ : ∃ y, wd vs k = y := ⟨_, rfl⟩
      have HY := hideS hy
      rw [hy] at hyf HWd
      obtain ⟨z, c', e1, e2, h1, h2, h3⟩ := add64_parts x y cy hcy hxf hyf
      have ha := call_add64 x y cy hcy
      rw [e1, e2] at ha
      have H3 := hideS h3
      have HST := hideS (HR.out.1.set HR.out.2.1 k z h1)
      clear e1 e2 h3 hxf hyf hy
      go_wp2_with fail

      go_region_with ((go_at_call 58; refine (HWd.out _ ⟨1, rfl⟩).mono ?_; rintro e w' ⟨rfl, rfl⟩))
      all_goals
        go_wp2_with fail
        go_roundw
        case rel =>
          refine ⟨k + 1, c', ys.set k z, by omega, h2, rfl, by simp, HST.out.1.drewN 1, by rw [List.length_set]; exact HR.out.2.1, ?_, ?_, ?_⟩
          · refine rel_set HR.out.2.2.1 (by rw [HR.out.2.1]; exact hlt) ?_
            rw [← HX.out, HY.out]; exact H3.out
          · intro j hj
            rw [getD_set (by rw [HR.out.2.1]; exact hlt), if_neg (by omega)]
            exact HR.out.2.2.2.1 j (by omega)
          · exact (HR.out.2.2.2.2.trans (wrote_grown HST.out.2) (fun k' _ hk' => hk')).drewN 1
        case measure => simp [intOf]; omega
    · obtain rfl : k = n := by omega
      have HT := hideS (settled_any B _ ys wr HR.out.1 (by rw [HR.out.2.1]; omega) (Nat.le_trans hB (Nat.le_trans O1.out.2.1.size HR.out.2.2.2.2.size)))
      go_wp2_with fail
      refine HT.out.mono ?_
      rintro e w2 ⟨v2, rfl, ho2, hw2, hn2⟩
      have R2 := hideS (And.intro ho2 (And.intro hw2 hn2))
      clear ho2 hw2 hn2 HT
      go_wp2_with fail
      go_ret
      have hW1 := O1.out.2.1.own O1.out.2.2 HR.out.2.2.2.2
      have hNew := O1.out.2.2
      refine ⟨v2, settle ys, rfl, R2.out.1, ?_, ?_, ?_, ?_⟩
      · have := settle_len ys; have := HR.out.2.1; omega
      · by_cases h0 : k = 0
        · have e1 : xs = [] := List.length_eq_zero_iff.1 (by have := HN.out; omega)
          have e2 : vs = [] := List.length_eq_zero_iff.1 (by have := HN.out; have := HS.out.2.2; omega)
          have e3 : ys = [] := List.length_eq_zero_iff.1 (by have := HR.out.2.1; omega)
          have s1 := HS.out.1
          have s2 := HS.out.2.1
          subst e1 e2 e3
          have a1 := s1.eq
          have a2 := s2.eq
          simp [ps, endW] at a1 a2
          rw [a1, a2]
          exact sg_nil
        · obtain ⟨j, rfl⟩ : ∃ j, k = j + 1 := ⟨k - 1, by omega⟩
          have h8 := HN.out
          have h9 := HS.out.2.2
          exact sg_plus HS.out.1 HS.out.2.1 (by omega) (by omega) HR.out.2.1 HR.out.1.fit HR.out.2.2.1
      · exact hW1.own (hNew.trans (New.refl _ _) O1.out.2.1.size) R2.out.2.1
      · exact hNew.trans (w1 := wr) R2.out.2.2 (Nat.le_trans O1.out.2.1.size HR.out.2.2.2.2.size)

theorem plus_any (B B' : Nat) (v u : Value) (xs vs : List Nat) (N M : Int) (w : World) (h : OwnW w B v xs) (h' : OwnW w B' u vs) (hs : Sg xs N) (hs' : Sg vs M) (hne : ∀ k, u.ownBlock = some k → v.ownBlock ≠ some k) (hn : xs.length ≤ 50000) (hn' : vs.length ≤ 50000) (hB : B ≤ w.heap.size) :
    Calls Try.prog 35 #[v, u] w fun e w' => ∃ v' zs, e = .returned v' ∧ OwnW w' B v' zs ∧ zs.length ≤ max xs.length vs.length + 1 ∧ Sg zs (N + M) ∧ Wrote w w' (At v) ∧ New w v v' := by
  obtain ⟨pu, gu, cu, hu, _⟩ := h'.shape
  rw [hu]
  refine plus_core B v xs vs pu vs.length cu N M w (fun w1 v1 => OwnW w1 B v1 (longW xs vs.length) ∧ Wrote w w1 (At v) ∧ New w v v1) (long_any B v xs vs.length w h (by omega) (by omega) hB) (fun _ _ h => h) ?_ hs hs' rfl hn hn' hB
  rintro w1 wr v1 ys k ⟨r1, r2, r3⟩ o2 hw2 hl2 hk hj w2 ⟨q, rfl⟩
  rw [← hu]
  have hw3 : OwnW wr B' u vs := (h'.wrote r2 (fun k hk hk2 => hne k hk hk2)).wrote hw2 (fun k hk hk2 => by
    rcases r3 k hk2 with h5 | h5
    · exact hne k hk h5
    · have := (h'.lt k hk).2; omega)
  have := hl2
  exact word_any B' u vs k (wr.drewN q) (hw3.drewN q) (by omega) (by omega)

/-- A number and itself. -/
theorem plus_self (B : Nat) (v : Value) (xs : List Nat) (N : Int) (w : World) (h : OwnW w B v xs) (hs : Sg xs N) (hn : xs.length ≤ 50000) (hB : B ≤ w.heap.size) :
    Calls Try.prog 35 #[v, v] w fun e w' => ∃ v' zs, e = .returned v' ∧ OwnW w' B v' zs ∧ zs.length ≤ max xs.length xs.length + 1 ∧ Sg zs (N + N) ∧ Wrote w w' (At v) ∧ New w v v' := by
  obtain ⟨pu, gu, cu, hu, _⟩ := h.shape
  have key := plus_core B v xs xs pu xs.length cu N N w (fun w1 v1 => v1 = v ∧ w1 = w) ((long_same B v xs xs.length w h (Nat.le_refl _)).mono (fun e w' ⟨a, b⟩ => ⟨v, a, rfl, b⟩)) (fun w1 v1 ⟨a, b⟩ => by subst a b; rw [longW_none (Nat.le_refl _)]; exact ⟨h, Wrote.refl _ _, New.refl _ _⟩) ?_ hs hs rfl hn hn hB
  · rw [← hu] at key; exact key
  · rintro w1 wr v1 ys k ⟨rfl, rfl⟩ o2 hw2 hl2 hk hj w2 ⟨q, rfl⟩
    rw [← hu]
    have e1 : wd xs k = wd ys k := by
      have := hj k (Nat.le_refl _)
      rw [longW_none (Nat.le_refl _)] at this
      unfold wd
      rw [if_pos (by omega), if_pos hk, this]
    rw [e1]
    exact word_any B v1 ys k (wr.drewN q) (o2.drewN q) (by omega) (by omega)
end Go.Proofs.Ytejpplcccbiplaa
