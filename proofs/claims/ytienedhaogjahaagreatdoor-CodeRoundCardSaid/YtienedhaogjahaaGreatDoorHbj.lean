/- Deals compiled, and code as a tree, in plain words: the code of the tree of a code is that code; code of a tree may be. Deals compiled, in plain words: code of a tree may be. Package code: Back of any code. The walk of CodeChecks. -/
import Derived.Test.YtienedhaogjahaaGreatDoorHbi
import Derived.Test.YtienedhaogjahaaGreatDoorHbf
import Derived.Test.YtienedhaogjahaaGreatDoorHbd
import Derived.Test.YtienedhaogjahaaGreatDoorHbh
import Derived.Test.YtienedhaogjahaaGreatDoorHbc
namespace Go.Proofs.YtienedhaogjahaaGreatDoor
open Go.RowKit

theorem CodR.unique {ts : List Trm} {i K K' : Nat} {l l' : List Opr} (h : CodR ts i l K) (h' : CodR ts i l' K') : l = l' ∧ K = K' := by
  induction h generalizing l' K' with
  | zero i hi hk =>
    cases h' with
    | zero => exact ⟨rfl, rfl⟩
    | leaf _ _ h => omega
    | both _ _ _ _ _ _ _ _ h => omega
    | one _ _ _ _ _ h => omega
  | leaf i hi hk =>
    cases h' with
    | zero _ _ h => omega
    | leaf => exact ⟨rfl, rfl⟩
    | both _ _ _ _ _ _ _ _ h => omega
    | one _ _ _ _ _ h => omega
  | both i a b la lb ka kb hi hk ha hb h1 h2 _ _ iha ihb =>
    cases h' with
    | zero _ _ h => omega
    | leaf _ _ h => omega
    | both _ a' b' la' lb' ka' kb' _ _ ha' hb' _ _ ca' cb' =>
      obtain rfl : a = a' := by omega
      obtain rfl : b = b' := by omega
      obtain ⟨e1, e2⟩ := iha ca'
      obtain ⟨e3, e4⟩ := ihb cb'
      rw [e1, e2, e3, e4]; exact ⟨rfl, rfl⟩
    | one _ _ _ _ _ h => omega
  | one i a la ka hi hk ha h1 _ iha =>
    cases h' with
    | zero _ _ h => omega
    | leaf _ _ h => omega
    | both _ _ _ _ _ _ _ _ h => omega
    | one _ a' la' ka' _ _ ha' _ ca' =>
      obtain rfl : a = a' := by omega
      obtain ⟨e1, e2⟩ := iha ca'
      rw [e1, e2]; exact ⟨rfl, rfl⟩
theorem getT_app {ts us : List Trm} {i : Nat} (h : i < ts.length) : (ts ++ us).getD i trm0 = ts.getD i trm0 := by
  simp [List.getD, List.getElem?_append_left h]
theorem CodR.more {ts : List Trm} {i K : Nat} {l : List Opr} (h : CodR ts i l K) (us : List Trm) : CodR (ts ++ us) i l K := by
  have hl : ∀ {i}, i < ts.length → i < (ts ++ us).length := fun h => by rw [List.length_append]; omega
  induction h with
  | zero i hi hk => exact .zero i (hl hi) (by rw [getT_app hi]; exact hk)
  | leaf i hi hk =>
    have := CodR.leaf (ts := ts ++ us) i (hl hi) (by rw [getT_app hi]; exact hk)
    rw [getT_app hi] at this; exact this
  | both i a b la lb ka kb hi hk ha hb h1 h2 _ _ iha ihb => exact .both i a b la lb ka kb (hl hi) (by rw [getT_app hi]; exact hk) (by rw [getT_app hi]; exact ha) (by rw [getT_app hi]; exact hb) h1 h2 iha ihb
  | one i a la ka hi hk ha h1 _ iha =>
    have := CodR.one (ts := ts ++ us) i a la ka (hl hi) (by rw [getT_app hi]; exact hk) (by rw [getT_app hi]; exact ha) h1 iha
    rw [getT_app hi] at this; exact this
theorem getT_end (ts : List Trm) (t : Trm) : (ts ++ [t]).getD ts.length trm0 = t := by simp [List.getD]
def Pc (ts : List Trm) (x : Int) (c : List Opr) : Prop := (x = -1 ∧ c = []) ∨ ∃ (p K : Nat), x = (p : Int) ∧ CodR ts p c K
theorem Pc.more {ts : List Trm} {x : Int} {c : List Opr} (h : Pc ts x c) (us : List Trm) : Pc (ts ++ us) x c := by
  rcases h with h | ⟨p, K, h1, h2⟩
  · exact .inl h
  · exact .inr ⟨p, K, h1, h2.more us⟩
inductive PcR (ts : List Trm) : List Int → List Opr → Prop
  | one (x : Int) (c : List Opr) : Pc ts x c → PcR ts [x] c
  | more (ps : List Int) (c : List Opr) (x : Int) (c' : List Opr) : PcR ts ps c → Pc ts x c' → PcR ts (ps ++ [x]) (c ++ markO :: c')
theorem PcR.ext {ts : List Trm} {ps : List Int} {c : List Opr} (h : PcR ts ps c) (us : List Trm) : PcR (ts ++ us) ps c := by
  induction h with
  | one x c h => exact .one x c (h.more us)
  | more ps c x c' _ h ih => exact .more ps c x c' ih (h.more us)
theorem PcR.last {ts : List Trm} {ms : List Int} {x : Int} {c : List Opr} (h : PcR ts (ms ++ [x]) c) : ∃ c0 c1, c = c0 ++ c1 ∧ Pc ts x c1 ∧ (∀ us y c2, Pc (ts ++ us) y c2 → PcR (ts ++ us) (ms ++ [y]) (c0 ++ c2)) ∧ (∀ ms' y, ms = ms' ++ [y] → ∃ d, c0 = d ++ [markO] ∧ PcR ts ms d) := by
  generalize hps : ms ++ [x] = ps at h
  cases h with
  | one x' c hp =>
    obtain ⟨rfl, rfl⟩ : ms = [] ∧ x = x' := by
      have hl := congrArg List.length hps
      simp at hl
      subst hl
      exact ⟨rfl, by simpa using hps⟩
    exact ⟨[], c, rfl, hp, fun us y c2 h => .one y c2 h, fun ms' y e => by simp at e⟩
  | more ps' c' x' c'' hr hp =>
    obtain ⟨rfl, rfl⟩ : ms = ps' ∧ x = x' := by simpa using List.append_inj' hps rfl
    refine ⟨c' ++ [markO], c'', by simp, hp, fun us y c2 h => ?_, fun ms' y e => ⟨c', rfl, hr⟩⟩
    have := PcR.more ms c' y c2 (hr.ext us) h
    simpa using this
theorem mark_is {o : Opr} (h : fitO o = true) (hk : o.kind = 1) : o = markO := by
  unfold fitO at h
  rw [if_pos (.inl hk)] at h
  obtain ⟨k, x, y, day, to, cur, count, n, months⟩ := o
  unfold eqO nmA at h
  simp only [Bool.and_eq_true, beq_iff_eq, Bool.and_true] at h
  dsimp only at hk h
  obtain ⟨⟨⟨_, _, _, h1, h2, h3, h4, h5, h6⟩, h7⟩, h8⟩ := h
  unfold markO
  have e7 : x = 0 := by omega
  have e8 : y = 0 := by omega
  rw [hk, e7, e8, h1, h2, h3, h4, h5, h6]
theorem fit_of_bad {o : Opr} {m : Int} (h : badO o m = 0) : fitO o = true := by
  unfold badO at h
  cases hf : fitO o with
  | true => rfl
  | false => rw [if_pos (.inl hf)] at h; cases h
theorem kind_of_fit {o : Opr} (h : fitO o = true) : 1 ≤ o.kind ∧ o.kind ≤ 7 := by
  by_cases hk : 1 ≤ o.kind ∧ o.kind ≤ 7
  · exact hk
  · unfold fitO at h
    rw [if_neg (by omega), if_neg (by omega), if_neg (by omega), if_neg (by omega), if_neg (by omega), if_neg (by omega)] at h
    cases h
theorem opT_tmO {o : Opr} (h1 : 2 ≤ o.kind) (h2 : o.kind ≤ 7) (A : Int) : opT { tmO o with a := A } = o := by
  obtain ⟨k, x, y, day, to, cur, count, n, months⟩ := o
  dsimp only at h1 h2
  have e : tOp (oTm k) = k := by
    by_cases h4 : k ≤ 4
    · have e1 : oTm k = k := if_pos ⟨h1, h4⟩
      rw [e1]; exact if_pos ⟨h1, h4⟩
    · have e1 : oTm k = k + 1 := (if_neg (by omega)).trans (if_pos (by omega))
      rw [e1]; unfold tOp; rw [if_neg (by omega), if_pos (by omega)]; omega
  show Opr.mk (tOp (oTm k)) x y day to cur count n months = _
  rw [e]
theorem oTm_take {k : Int} (h4 : 4 ≤ k) (h7 : k ≤ 7) : oTm k = 4 ∨ (6 ≤ oTm k ∧ oTm k ≤ 8) := by
  unfold oTm
  split
  · omega
  · rw [if_pos (by omega)]; omega
theorem takO_iff {o : Opr} : takO o = true ↔ 4 ≤ o.kind ∧ o.kind ≤ 7 := by
  unfold takO
  rw [Bool.and_eq_true, decide_eq_true_iff, decide_eq_true_iff]
theorem lastD_snoc (l : List Int) (x : Int) : (l ++ [x]).getLastD (-1) = x := by simp
theorem pc_beside {ts : List Trm} {x : Int} {c1 c2 : List Opr} {K n : Nat} (hn : ts.length = n + 1) (hx : Pc ts x c1) (hxn : ∀ p : Nat, x = (p : Int) → p < n) (h : CodR ts n c2 K) : Pc (bsT x (n : Int) ts) (bsI x (n : Int) ts) (c1 ++ c2) ∧ (∃ p : Nat, bsI x (n : Int) ts = (p : Int) ∧ (bsT x (n : Int) ts).length = p + 1) := by
  rcases hx with ⟨rfl, rfl⟩ | ⟨p, Kp, rfl, hp⟩
  · unfold bsT bsI
    rw [if_pos rfl, if_pos rfl]
    exact ⟨.inr ⟨n, K, rfl, h⟩, n, rfl, hn⟩
  · have hne : ¬ (p : Int) = -1 := by omega
    unfold bsT bsI
    rw [if_neg hne, if_neg hne]
    refine ⟨.inr ⟨ts.length, Kp + K + 1, rfl, ?_⟩, ts.length, rfl, by simp⟩
    have hpn := hxn p rfl
    exact .both ts.length p n c1 c2 Kp K (by simp) (by rw [getT_end]; rfl) (by rw [getT_end]; rfl) (by rw [getT_end]; rfl) (by omega) (by omega) (hp.more _) (h.more _)
theorem Pc.lt {ts : List Trm} {x : Int} {c : List Opr} (h : Pc ts x c) : ∀ p : Nat, x = (p : Int) → p < ts.length := by
  intro p hp
  rcases h with ⟨rfl, _⟩ | ⟨q, K, rfl, hc⟩
  · omega
  · have hq : q < ts.length := by cases hc <;> assumption
    omega
structure BdI (l : List Opr) (k : Nat) (s : List Trm × List Int) : Prop where
  pc : PcR s.1 s.2 (l.take k)
  lst : s.2.getLastD (-1) = -1 ∨ ∃ p : Nat, s.2.getLastD (-1) = (p : Int) ∧ s.1.length = p + 1
theorem takeO_more (l : List Opr) (k : Nat) (hk : k < l.length) : l.take (k + 1) = l.take k ++ [l.getD k opr0] := by
  rw [List.take_add_one, List.getElem?_eq_getElem hk]
  simp [List.getD, List.getElem?_eq_getElem hk]
theorem bld_inv {l : List Opr} (h : OkL l) : ∀ k, k ≤ l.length → BdI l k (bldF l k)
  | 0, _ => ⟨.one _ _ (.inl ⟨rfl, rfl⟩), .inl rfl⟩
  | k + 1, hk => by
    have hI := bld_inv h k (by omega)
    obtain ⟨hL1, hL2⟩ := bldF_len h k (by omega)
    have hb := h.ok k (by omega)
    have m0 := (mk_range l k (fun i hi => h.ok i (by omega))).1
    have hf := fit_of_bad hb
    have hkd := kind_of_fit hf
    show BdI l (k + 1) (bldS (l.getD k opr0) (bldF l k))
    have htk := takeO_more l k (by omega)
    generalize l.getD k opr0 = o at *
    generalize bldF l k = s at *
    obtain ⟨ts, ps⟩ := s
    dsimp only at hL1 hL2
    obtain ⟨ms, x, rfl⟩ := list_last ps (by omega)
    have hp1 : (ms ++ [x]).getLastD (-1) = x := by simp
    have hp2 : (ms ++ [x]).dropLast = ms := by simp
    have hpc := hI.pc
    have hls := hI.lst
    dsimp only at hpc hls
    rw [hp1] at hls
    unfold bldS
    dsimp only
    by_cases hk1 : o.kind = 1
    · rw [if_pos hk1]
      refine ⟨?_, .inl (by simp)⟩
      rw [htk, mark_is hf hk1]
      exact .more _ _ _ _ hpc (.inl ⟨rfl, rfl⟩)
    · rw [if_neg hk1, hp1, hp2]
      obtain ⟨c0, c1, hc, hx, hnew, hms⟩ := hpc.last
      by_cases ht : takO o = true
      · rw [if_pos ht]
        obtain ⟨h4, h7⟩ := takO_iff.1 ht
        have hm : mkN l k ≠ 0 := fun e => by rw [e] at hb; exact absurd hb (bad_take ht)
        rw [List.length_append, List.length_singleton] at hL1
        obtain ⟨ms', y, rfl⟩ := list_last ms (by omega)
        have hq1 : (ms' ++ [y]).getLastD (-1) = y := by simp
        have hq2 : (ms' ++ [y]).dropLast = ms' := by simp
        rw [hq1, hq2]
        obtain ⟨d, hd, hdr⟩ := hms ms' y rfl
        obtain ⟨d0, d1, hdd, hy, hnewy, _⟩ := hdr.last
        -- the whole of what stood behind the mark
        obtain ⟨us, A, KA, hus, hA, hcA⟩ : ∃ (us : List Trm) (A KA : Nat), whT x ts = ts ++ us ∧ whI x ts = (A : Int) ∧ CodR (whT x ts) A c1 KA := by
          rcases hx with ⟨rfl, rfl⟩ | ⟨p, K, rfl, hp⟩
          · refine ⟨[zrT], ts.length, 1, if_pos rfl, if_pos rfl, ?_⟩
            rw [show whT (-1) ts = ts ++ [zrT] from if_pos rfl]
            exact .zero _ (by simp) (by rw [getT_end]; rfl)
          · have hne : ¬ (p : Int) = -1 := by omega
            refine ⟨[], p, K, ?_, if_neg hne, ?_⟩
            · rw [List.append_nil]; exact if_neg hne
            · rw [show whT (p : Int) ts = ts from if_neg hne]; exact hp
        have hAl : A < (whT x ts).length := by cases hcA <;> assumption
        rw [hA]
        obtain ⟨t, htt⟩ : ∃ t, ({ tmO o with a := (A : Int) } : Trm) = t := ⟨_, rfl⟩
        have htk1 : t.kind = oTm o.kind := by rw [← htt]; rfl
        have hta : t.a = (A : Int) := by rw [← htt]
        have hto : opT t = o := by rw [← htt]; exact opT_tmO (by omega) h7 _
        rw [htt]
        obtain ⟨n, hn⟩ : ∃ n, (whT x ts).length = n := ⟨_, rfl⟩
        have hcod : CodR (whT x ts ++ [t]) n (markO :: (c1 ++ [o])) (KA + 1 + 1) := by
          have e : (whT x ts ++ [t]).getD n trm0 = t := by rw [← hn]; exact getT_end _ _
          have := CodR.one (ts := whT x ts ++ [t]) n A c1 KA (by simp [hn]) (by rw [e, htk1]; exact oTm_take h4 h7) (by rw [e, hta]) (by omega) (hcA.more _)
          rw [e, hto] at this; exact this
        have hyt : Pc (whT x ts ++ [t]) y d1 := by
          rw [hus, List.append_assoc]; exact hy.more _
        have hylt : ∀ p : Nat, y = (p : Int) → p < n := fun p hp => by
          have := hy.lt p hp
          have : ts.length ≤ (whT x ts).length := by rw [hus, List.length_append]; omega
          omega
        rw [hn]
        obtain ⟨g1, p, g2, g3⟩ := pc_beside (n := n) (by simp [hn]) hyt hylt hcod
        refine ⟨?_, .inr ⟨p, (lastD_snoc _ _).trans g2, g3⟩⟩
        obtain ⟨vs, hvs⟩ : ∃ vs, bsT y (n : Int) (whT x ts ++ [t]) = ts ++ vs := by
          unfold bsT
          split
          · exact ⟨us ++ [t], by rw [hus]; simp⟩
          · exact ⟨us ++ [t] ++ [boT y n], by rw [hus]; simp⟩
        dsimp only
        rw [hvs] at g1 ⊢
        have := hnewy vs _ _ g1
        rw [htk, hc, hd, hdd]
        simpa using this
      · rw [if_neg ht]
        have h3 : 2 ≤ o.kind ∧ o.kind ≤ 3 := by
          have := mt takO_iff.2 ht
          omega
        obtain ⟨t, htt⟩ : ∃ t, tmO o = t := ⟨_, rfl⟩
        have htk1 : t.kind = oTm o.kind := by rw [← htt]; rfl
        have hto : opT t = o := by rw [← htt]; exact opT_tmO h3.1 (by omega) 0
        rw [htt]
        have hcod : CodR (ts ++ [t]) ts.length [o] 1 := by
          have := CodR.leaf (ts := ts ++ [t]) ts.length (by simp) (by rw [getT_end, htk1]; unfold oTm; rw [if_pos (by omega)]; omega)
          rw [getT_end, hto] at this; exact this
        obtain ⟨g1, p, g2, g3⟩ := pc_beside (n := ts.length) (by simp) (hx.more [t]) (fun p hp => hx.lt p hp) hcod
        refine ⟨?_, .inr ⟨p, (lastD_snoc _ _).trans g2, g3⟩⟩
        obtain ⟨vs, hvs⟩ : ∃ vs, bsT x (ts.length : Int) (ts ++ [t]) = ts ++ vs := by
          unfold bsT
          split
          · exact ⟨[t], rfl⟩
          · exact ⟨[t] ++ [boT x ts.length], by simp⟩
        dsimp only
        rw [hvs] at g1 ⊢
        have := hnew vs _ _ g1
        rw [htk, hc]
        simpa using this
theorem back_code {l : List Opr} (h : OkL l) (hz : mkN l l.length = 0) : ∃ n K, (whT ((bldF l l.length).2.getLastD (-1)) (bldF l l.length).1).length = n + 1 ∧ CodR (whT ((bldF l l.length).2.getLastD (-1)) (bldF l l.length).1) n l K := by
  have hI := bld_inv h l.length (Nat.le_refl _)
  obtain ⟨hL1, _⟩ := bldF_len h l.length (Nat.le_refl _)
  generalize bldF l l.length = s at *
  obtain ⟨ts, ps⟩ := s
  dsimp only at *
  obtain ⟨x, rfl⟩ : ∃ x, ps = [x] := by
    match ps, (show ps.length = 1 by omega) with
    | [x], _ => exact ⟨x, rfl⟩
  have hpc := hI.pc
  have hls := hI.lst
  rw [List.take_length] at hpc
  dsimp only at hpc hls
  obtain ⟨c0, c1, hc, hx, _, _⟩ := PcR.last (ms := []) hpc
  have hx2 : Pc ts x l := by
    generalize hps : [x] = ps at hpc
    cases hpc with
    | one x' _ hp => injection hps with e _; rw [e]; exact hp
    | more ps' _ x' _ hr _ =>
      have hl := congrArg List.length hps
      rw [List.length_append, List.length_singleton, List.length_singleton] at hl
      have : ps' ≠ [] := by cases hr <;> simp
      have := List.length_pos_iff.2 this
      omega
  show ∃ n K, (whT x ts).length = n + 1 ∧ CodR (whT x ts) n l K
  rcases hx2 with ⟨rfl, rfl⟩ | ⟨p, K, rfl, hp⟩
  · rw [show whT (-1) ts = ts ++ [zrT] from if_pos rfl]
    exact ⟨ts.length, 1, by simp, .zero _ (by simp) (by rw [getT_end]; rfl)⟩
  · have hne : ¬ (p : Int) = -1 := by omega
    rw [show whT (p : Int) ts = ts from if_neg hne]
    rcases hls with e | ⟨q, e, hq⟩
    · exact absurd e hne
    · have e' : (p : Int) = (q : Int) := e
      obtain rfl : p = q := by omega
      exact ⟨p, K, hq, hp⟩
end Go.Proofs.YtienedhaogjahaaGreatDoor
namespace Go.Proofs.YtienedhaogjahaaGreatDoor
open Go.RowKit

theorem sh_deep {ts : List Trm} {n : Nat} {F D : List Int} (h : shP ts n = some (F, D)) : ∀ i < n, 1 ≤ D.getD i 0 ∧ ((ts.getD i trm0).kind = 5 → ∀ a b : Nat, (ts.getD i trm0).a = (a : Int) → (ts.getD i trm0).b = (b : Int) → D.getD a 0 < D.getD i 0 ∧ D.getD b 0 < D.getD i 0) ∧ (3 < (ts.getD i trm0).kind → (ts.getD i trm0).kind ≠ 5 → ∀ a : Nat, (ts.getD i trm0).a = (a : Int) → D.getD a 0 < D.getD i 0) := by
  induction n generalizing F D with
  | zero => intro i hi; omega
  | succ n ih =>
    cases e : shP ts n with
    | none =>
      have : shP ts (n + 1) = none := by show (shP ts n).bind _ = none; rw [e]; rfl
      rw [this] at h; cases h
    | some s =>
      obtain ⟨F', D'⟩ := s
      have hx := shP_next e
      rw [h] at hx
      obtain ⟨hI, _⟩ := shP_inv e
      have hp := sh_parts h
      cases e2 : shS n (ts.getD n trm0) F' D' with
      | none => rw [e2] at hx; cases hx
      | some r =>
        obtain ⟨f, d⟩ := r
        rw [e2] at hx
        injection hx with hx
        injection hx with hx1 hx2
        subst hx1 hx2
        have ld := hI.ld
        intro i hi
        obtain ⟨hfi, hpi⟩ := hp i hi
        have hki := fit_kind hfi
        by_cases hin : i < n
        · have hd := ih e i hin
          rw [getD_app (by omega)]
          refine ⟨hd.1, fun h5 a b ha hb => ?_, fun h3 h5 a ha => ?_⟩
          · have hab : a < i ∧ b < i := by
              rcases hpi with ⟨h, _⟩ | ⟨_, a', h1, h2, h3, h4, _⟩ | ⟨h, _⟩ <;> omega
            rw [getD_app (by omega), getD_app (by omega)]
            exact hd.2.1 h5 a b ha hb
          · have hab : a < i := by
              rcases hpi with ⟨h, _⟩ | ⟨h, _⟩ | ⟨_, h1, h2, _⟩ <;> omega
            rw [getD_app (by omega)]
            exact hd.2.2 h3 h5 a ha
        · obtain rfl : i = n := by omega
          rw [getD_end ld.symm]
          unfold shS at e2
          split at e2
          · cases e2
          split at e2
          · rename_i h3
            split at e2
            · injection e2 with e2; injection e2 with e3 e4
              exact ⟨by omega, fun h5 => by omega, fun h => by omega⟩
            · cases e2
          split at e2
          · rename_i h3 h5
            split at e2
            · rename_i hc
              injection e2 with e2; injection e2 with e3 e4
              have hb := hI.d0 (i - 1) (by omega)
              have hbf := hI.f0 (i - 1) (by omega)
              refine ⟨by omega, fun _ a b ha hbb => ?_, fun _ h => absurd h5 h⟩
              have ea : (ts.getD i trm0).a.toNat = a := by omega
              have eb : b = i - 1 := by omega
              rw [ea] at e4
              rw [getD_app (by omega), getD_app (by omega), eb]
              omega
            · cases e2
          · rename_i h3 h5
            split at e2
            · rename_i hc
              injection e2 with e2; injection e2 with e3 e4
              have hb := hI.d0 (i - 1) (by omega)
              refine ⟨by omega, fun h => absurd h h5, fun _ _ a ha => ?_⟩
              have eb : a = i - 1 := by omega
              rw [getD_app (by omega), eb]
              omega
            · cases e2
theorem fld_ab (t : Trm) (a b : Int) : fldB { t with a := a, b := b } = fldB t := by
  obtain ⟨k, a0, b0, x, y, day, to, cur, count, n, months⟩ := t
  simp [fldB, eqT, tn1, tn2, tn3, tn4, tn5, tn6, tn7, tn8]
theorem opT_kind {t : Trm} (h : fitT t = true) (h1 : t.kind ≠ 1) (h5 : t.kind ≠ 5) : oTm (tOp t.kind) = t.kind ∧ (tOp t.kind ≠ 1) := by
  have hk := fit_kind h
  unfold tOp
  by_cases h4 : t.kind ≤ 4
  · rw [if_pos ⟨by omega, h4⟩]
    exact ⟨by unfold oTm; rw [if_pos ⟨by omega, h4⟩], by omega⟩
  · rw [if_neg (by omega), if_pos (by omega)]
    exact ⟨by unfold oTm; rw [if_neg (by omega), if_pos (by omega)]; omega, by omega⟩
theorem fit_opT {t : Trm} (hu : TrU t) (h : fitT t = true) (h1 : t.kind ≠ 1) (h5 : t.kind ≠ 5) : fitO (opT t) = true := by
  rw [← fit_same (opT t) ⟨hu.x, hu.y⟩]
  obtain ⟨e1, e2⟩ := opT_kind h h1 h5
  unfold fitD
  rw [if_neg (show ¬ (opT t).kind = 1 from e2)]
  have e3 : oTm (opT t).kind = t.kind := e1
  have hk := fit_kind h
  rw [e3, decide_eq_true (by omega), Bool.true_and]
  have e4 : tmO (opT t) = { t with a := 0, b := 0 } := by
    unfold tmO
    rw [e3]; rfl
  rw [e4, fld_ab]
  unfold fitT at h
  rw [Bool.and_eq_true] at h
  exact h.1
theorem fit_mark : fitO markO = true := by decide +kernel
theorem mk_one (L : List Opr) (k : Nat) : mkN L (k + 1) = if (L.getD k opr0).kind = 1 then mkN L k + 1 else if takO (L.getD k opr0) then mkN L k - 1 else mkN L k := rfl
theorem cod_marks {ts : List Trm} {F D : List Int} (h : shP ts ts.length = some (F, D)) (hu : ∀ i < ts.length, TrU (ts.getD i trm0)) {i K : Nat} {l : List Opr} (hc : CodR ts i l K) : ∀ (L : List Opr) (a : Nat) (m : Int), (∀ j < l.length, L.getD (a + j) opr0 = l.getD j opr0) → mkN L a = m → 0 ≤ m → m + D.getD i 0 ≤ 64 → (∀ j < l.length, badO (L.getD (a + j) opr0) (mkN L (a + j)) = 0) ∧ mkN L (a + l.length) = m := by
  induction hc with
  | zero i hi hk => intro L a m _ hm _ _; exact ⟨fun j hj => by simp at hj, hm⟩
  | leaf i hi hk =>
    intro L a m hs hm h0 h64
    have hf := (sh_parts h i hi).1
    have e := hs 0 (by simp)
    rw [Nat.add_zero] at e
    have e' : L.getD a opr0 = opT (ts.getD i trm0) := e
    have hfo := fit_opT (hu i hi) hf (by omega) (by omega)
    have hkk : (opT (ts.getD i trm0)).kind = (ts.getD i trm0).kind := by show tOp _ = _; unfold tOp; rw [if_pos (by omega)]
    have htk : takO (opT (ts.getD i trm0)) = false := by
      cases ht : takO (opT (ts.getD i trm0)) with
      | false => rfl
      | true => have := takO_iff.1 ht; omega
    refine ⟨fun j hj => ?_, ?_⟩
    · obtain rfl : j = 0 := by simpa using hj
      rw [Nat.add_zero, e']
      unfold badO
      rw [if_neg (by rw [hfo, htk]; simp), if_neg (by omega)]
    · show mkN L (a + 1) = m
      rw [mk_one, e', htk, if_neg (by omega)]
      exact hm
  | both i x y la lb ka kb hi hk ha hb h1 h2 _ _ iha ihb =>
    intro L a m hs hm h0 h64
    obtain ⟨d1, d2, _⟩ := sh_deep h i hi
    obtain ⟨dx, dy⟩ := d2 hk x y ha hb
    have ga : ∀ j < la.length, L.getD (a + j) opr0 = la.getD j opr0 := fun j hj => by
      rw [hs j (by rw [List.length_append]; omega)]
      simp [List.getD, List.getElem?_append_left hj]
    have gb : ∀ j < lb.length, L.getD (a + la.length + j) opr0 = lb.getD j opr0 := fun j hj => by
      rw [Nat.add_assoc, hs (la.length + j) (by rw [List.length_append]; omega)]
      simp [List.getD, List.getElem?_append_right]
    obtain ⟨p1, p2⟩ := iha L a m ga hm h0 (by omega)
    obtain ⟨q1, q2⟩ := ihb L (a + la.length) m gb p2 h0 (by omega)
    refine ⟨fun j hj => ?_, by rw [List.length_append, ← Nat.add_assoc]; exact q2⟩
    rw [List.length_append] at hj
    by_cases hjl : j < la.length
    · exact p1 j hjl
    · have := q1 (j - la.length) (by omega)
      rw [show a + la.length + (j - la.length) = a + j by omega] at this
      exact this
  | one i x la ka hi hk ha h1 _ iha =>
    intro L a m hs hm h0 h64
    obtain ⟨d1, _, d2⟩ := sh_deep h i hi
    have dx := d2 (by omega) (by omega) x ha
    have d0 := (sh_deep h x (by omega)).1
    have hf := (sh_parts h i hi).1
    have hfo := fit_opT (hu i hi) hf (by omega) (by omega)
    have hkk : (opT (ts.getD i trm0)).kind = tOp (ts.getD i trm0).kind := rfl
    have hk47 : 4 ≤ tOp (ts.getD i trm0).kind ∧ tOp (ts.getD i trm0).kind ≤ 7 := by
      unfold tOp
      rcases hk with hk | hk
      · rw [if_pos (by omega)]; omega
      · rw [if_neg (by omega), if_pos (by omega)]; omega
    have htk : takO (opT (ts.getD i trm0)) = true := takO_iff.2 hk47
    have hll : (markO :: (la ++ [opT (ts.getD i trm0)])).length = la.length + 2 := by simp
    rw [hll] at hs ⊢
    have e0 := hs 0 (by omega)
    rw [Nat.add_zero] at e0
    have e0' : L.getD a opr0 = markO := e0
    have ga : ∀ j < la.length, L.getD (a + 1 + j) opr0 = la.getD j opr0 := fun j hj => by
      rw [show a + 1 + j = a + (j + 1) by omega, hs (j + 1) (by omega)]
      simp [List.getD, List.getElem?_append_left hj]
    have e1 : L.getD (a + (la.length + 1)) opr0 = opT (ts.getD i trm0) := by
      rw [hs (la.length + 1) (by omega)]
      simp [List.getD]
    have m1 : mkN L (a + 1) = m + 1 := by rw [mk_one, e0', if_pos (show markO.kind = 1 from rfl), hm]
    obtain ⟨p1, p2⟩ := iha L (a + 1) (m + 1) ga m1 (by omega) (by omega)
    rw [show a + 1 + la.length = a + (la.length + 1) by omega] at p2
    refine ⟨fun j hj => ?_, ?_⟩
    · by_cases hj0 : j = 0
      · rw [hj0, Nat.add_zero, e0', hm]
        unfold badO
        rw [if_neg (by rw [fit_mark, mark_not_takes rfl]; simp), if_neg (by omega)]
      · by_cases hjl : j = la.length + 1
        · rw [hjl, e1, p2]
          unfold badO
          rw [if_neg (by rw [hfo]; simp; omega), if_neg (by omega)]
        · have := p1 (j - 1) (by omega)
          rw [show a + 1 + (j - 1) = a + j by omega] at this
          exact this
    · rw [show a + (la.length + 2) = a + (la.length + 1) + 1 by omega, mk_one, e1, if_neg (by omega), if_pos htk, p2]
      omega
theorem cod_mea {ts : List Trm} {D A : Int} (hm : MesR ts D 0 A) (hu : ∀ i < ts.length, TrU (ts.getD i trm0)) : 1 ≤ ts.length ∧ ts.length ≤ 1024 ∧ ∃ l K M, CodR ts (ts.length - 1) l K ∧ K ≤ 2048 ∧ MeaR l M 0 0 := by
  cases hm with
  | ok p d hl hx hd =>
    have hn : 1 ≤ ts.length := by
      cases e : ts.length with
      | zero => rw [e] at hx; cases hx
      | succ n => omega
    rcases sh_both ts ts.length with ⟨_, h2⟩ | ⟨F, D', xs, h1, h2, hc, hI⟩
    · rw [h2] at hx; cases hx
    · rw [hx] at h2
      injection h2 with h2
      subst h2
      obtain ⟨l, K, hcod, hlk, hK⟩ := cod_ex h1 (ts.length - 1) (by omega)
      have f0 := hI.f0 (ts.length - 1) (by omega)
      have hd1 : D'.getD (ts.length - 1) 0 = D := by
        have hF : F.getD (ts.length - 1) 0 = 0 := by
          rcases Int.lt_or_le 0 (F.getD (ts.length - 1) 0) with h | h
          · have := chn_many hc hn h
            simp at this
          · omega
        have := chn_one hc hn hF
        injection this with this
        injection this with _ this
        exact this.symm
      obtain ⟨p1, p2⟩ := cod_marks h1 hu hcod l 0 0 (fun j _ => by rw [Nat.zero_add]) rfl (Int.le_refl _) (by rw [hd1]; omega)
      rw [Nat.zero_add] at p2
      refine ⟨hn, hl, l, K, moN l l.length, hcod, by omega, .fine (by omega) (fun i hi => ?_) (by rw [p2]; decide)⟩
      have := p1 i hi
      rw [Nat.zero_add] at this
      exact this
theorem cod_len2 {ts : List Trm} {i K : Nat} {l : List Opr} (h : CodR ts i l K) : l.length ≤ 2 * K := by
  induction h with
  | zero => simp
  | leaf => simp
  | both => rw [List.length_append]; omega
  | one => rw [List.length_cons, List.length_append, List.length_singleton]; omega
theorem cod_opu {ts : List Trm} (hu : ∀ i < ts.length, TrU (ts.getD i trm0)) {i K : Nat} {l : List Opr} (h : CodR ts i l K) : ∀ j < l.length, OpU (l.getD j opr0) := by
  have key : ∀ o ∈ l, OpU o := by
    induction h with
    | zero => exact fun o ho => by cases ho
    | leaf i hi _ => exact fun o ho => by rw [List.mem_singleton] at ho; subst ho; exact ⟨(hu i hi).x, (hu i hi).y⟩
    | both i a b la lb ka kb _ _ _ _ _ _ _ _ iha ihb => exact fun o ho => (List.mem_append.1 ho).elim (iha o) (ihb o)
    | one i a la ka hi _ _ _ _ iha =>
      intro o ho
      rcases List.mem_cons.1 ho with rfl | ho
      · exact ⟨by show U64 ((0 : Nat) : Int); constructor <;> decide, by show U64 ((0 : Nat) : Int); constructor <;> decide⟩
      · rcases List.mem_append.1 ho with ho | ho
        · exact iha o ho
        · rw [List.mem_singleton] at ho; subst ho; exact ⟨(hu i hi).x, (hu i hi).y⟩
  intro j hj
  have e : l.getD j opr0 = l[j] := by simp [List.getD, List.getElem?_eq_getElem hj]
  rw [e]; exact key _ (List.getElem_mem hj)
end Go.Proofs.YtienedhaogjahaaGreatDoor
namespace Go.Proofs.YtienedhaogjahaaGreatDoor
open Go.RowKit

def bkT (l : List Opr) : List Trm := whT ((bldF l l.length).2.getLastD (-1)) (bldF l l.length).1
theorem tru_wh {x : Int} {ts : List Trm} (h : ∀ t ∈ ts, TrU t) : ∀ t ∈ whT x ts, TrU t := by
  unfold whT
  split
  · intro t ht
    rcases List.mem_append.1 ht with ht | ht
    · exact h t ht
    · rw [List.mem_singleton] at ht
      subst ht
      exact ⟨by constructor <;> decide, by constructor <;> decide⟩
  · exact h
theorem tru_bs {x p : Int} {ts : List Trm} (h : ∀ t ∈ ts, TrU t) : ∀ t ∈ bsT x p ts, TrU t := by
  unfold bsT
  split
  · exact h
  · intro t ht
    rcases List.mem_append.1 ht with ht | ht
    · exact h t ht
    · rw [List.mem_singleton] at ht
      subst ht
      exact ⟨by show U64 ((0 : Nat) : Int); constructor <;> decide, by show U64 ((0 : Nat) : Int); constructor <;> decide⟩
theorem tru_add {t0 : Trm} {ts : List Trm} (h : ∀ t ∈ ts, TrU t) (h0 : TrU t0) : ∀ t ∈ ts ++ [t0], TrU t := fun t ht => by
  rcases List.mem_append.1 ht with ht | ht
  · exact h t ht
  · rw [List.mem_singleton] at ht
    subst ht; exact h0
theorem tru_bld {l : List Opr} (hu : ∀ i < l.length, OpU (l.getD i opr0)) : ∀ k, k ≤ l.length → ∀ t ∈ (bldF l k).1, TrU t
  | 0, _ => fun t ht => by cases ht
  | k + 1, hk => by
    have ih := tru_bld hu k (by omega)
    have ho := hu k (by omega)
    show ∀ t ∈ (bldS (l.getD k opr0) (bldF l k)).1, TrU t
    unfold bldS
    split
    · exact ih
    · split
      · exact tru_bs (tru_add (tru_wh ih) ⟨ho.x, ho.y⟩)
      · exact tru_bs (tru_add ih ⟨ho.x, ho.y⟩)
theorem bk_tru {l : List Opr} (hu : ∀ i < l.length, OpU (l.getD i opr0)) : ∀ i < (bkT l).length, TrU ((bkT l).getD i trm0) := fun i hi => by
  have e : (bkT l).getD i trm0 = (bkT l)[i] := by simp [List.getD, List.getElem?_eq_getElem hi]
  rw [e]
  exact tru_wh (tru_bld hu l.length (Nat.le_refl _)) _ (List.getElem_mem hi)
theorem mea_ok {l : List Opr} {M : Int} (hm : MeaR l M 0 0) : OkL l ∧ mkN l l.length = 0 := by
  cases hm with
  | bad _ _ _ _ _ _ h0 => exact absurd rfl h0
  | fine h hp hz =>
    have := (mk_range l l.length hp).1
    exact ⟨⟨h, hp⟩, by omega⟩
theorem bk_len {l : List Opr} (h : OkL l) : (bkT l).length ≤ 3 * l.length + 1 := by
  have := (bldF_len h l.length (Nat.le_refl _)).2
  have h2 := whT_len ((bldF l l.length).2.getLastD (-1)) (bldF l l.length).1
  unfold bkT
  omega
inductive BkR (B : Nat) (T : List Trm) (E : Int) (w' : World) : Ending → Prop
  | yes (v : Value) : E = 0 → w'.ownsRow B 50 11 v T.length (rowV trC T) → BkR B T E w' (.returned (.tuple #[v, .int .i64 0]))
  | no : E ≠ 0 → BkR B T E w' (.returned (.tuple #[.slice none 0 0, .int .i64 E]))
set_option maxRecDepth 20000 in
set_option maxHeartbeats 6400000 in
theorem cBack_ok {l : List Opr} {M : Int} (hm : MeaR l M 0 0) {D E A : Int} (ht : MesR (bkT l) D E A) (N : Nat) (p : Option Addr) (b0 off c : Nat) (w : World) (hs : OSrc w p b0 off l) (hN : l.length = N) (hu : ∀ i < l.length, OpU (l.getD i opr0)) :
    Calls Tryz.prog 12 #[.slice p N c] w fun e w' => BkR w.heap.size (bkT l) E w' e ∧ Below w.heap.size w w' := by
  obtain ⟨hok, hz⟩ := mea_ok hm
  have hN2 : N ≤ 8192 := by have := hok.len; omega
  have HC := hidD (cCheck_is hm N p b0 off c w hs hN (by rw [← hN]; exact hu) (by omega))
  have HR : Hid (∀ w1, Below w.heap.size w w1 → Calls Tryz.prog 26 #[.slice p N c] w1 fun e w' => (∃ q cq, e = .returned (.slice q (bkT l).length cq) ∧ w'.ownsRow w1.heap.size 50 11 (.slice q (bkT l).length cq) (bkT l).length (rowV trC (bkT l))) ∧ Below w1.heap.size w1 w') := fun w1 hb => by
    have := rebuilt_any l N p b0 off c w1 (hs.below hb) hN hok (by rw [← hN]; exact hz)
    rw [← hN] at this ⊢
    refine this.mono fun e w' ⟨⟨v, he, ho⟩, h⟩ => ⟨?_, h⟩
    obtain ⟨q, cq, g, hv, _⟩ := orow_src ho
    exact ⟨q, cq, by rw [he, hv]; rfl, by rw [hv] at ho; exact ho⟩
  have hlen := bk_len hok
  have HD : Hid (∀ w1 q g cq, TSrc w1 q g 0 (bkT l) → Calls Tryz.prog 21 #[.slice q (bkT l).length cq] w1 fun e w' => e = .returned (.tuple #[.int .i64 E, .int .i64 A]) ∧ Below w1.heap.size w1 w') := fun w1 q g cq h => dCheck_is ht (bkT l).length q g 0 cq w1 h rfl (bk_tru hu) (by omega)
  have HTs : Hid (∀ (w1 : World) (B : Nat) (q : Option Addr) (cq : Nat), w1.ownsRow B 50 11 (.slice q (bkT l).length cq) (bkT l).length (rowV trC (bkT l)) → ∃ g, TSrc w1 q g 0 (bkT l)) := fun w1 B q cq h => tsrc_of h rfl
  generalize bkT l = T at *
  obtain ⟨L, hL⟩ : ∃ L, T.length = L := ⟨_, rfl⟩
  rw [hL] at HR HD HTs hlen
  have HLn := hidD hL
  clear hm ht hs hN hu hok hz hL
  go_enter Tryz.func12, Tryz.ntmps12
  go_wp2_with fail
  refine HC.out.mono ?_
  rintro e w1 ⟨rfl, hb1⟩
  have H1 := hidD hb1
  clear hb1
  go_wp2_with fail
  refine (HR.out _ H1.out).mono ?_
  rintro e w2 ⟨⟨q, cq, rfl, ho⟩, hb2⟩
  have H2 := hidD (And.intro (orow_lower ho H1.out.size) (H1.out.trans (hb2.mono H1.out.size)))
  obtain ⟨g, hg⟩ := HTs.out _ _ _ _ ho
  have HG := hidD hg
  clear ho hb2 hg
  go_wp2_with fail
  refine (HD.out _ _ _ _ HG.out).mono ?_
  rintro e w3 ⟨rfl, hb3⟩
  have H3 := hidD (And.intro (orow_below H2.out.1 hb3) (H2.out.2.trans (hb3.mono H2.out.2.size)))
  clear hb3
  by_cases hE : E = 0
  · subst hE
    go_wp2_with fail
    go_ret2
    exact ⟨.yes _ rfl (by rw [HLn.out]; exact H3.out.1), H3.out.2⟩
  · have z : (E != 0) = true := bne_iff_ne.2 hE
    have HE := hidD hE
    clear hE
    go_wp2_with fail
    go_ret2
    exact ⟨.no HE.out, H3.out.2⟩
end Go.Proofs.YtienedhaogjahaaGreatDoor
namespace Go.Proofs.YtienedhaogjahaaGreatDoor
open Go.RowKit

theorem first_not (P : Nat → Prop) : ∀ n, (∀ i < n, P i) ∨ ∃ k, k < n ∧ ¬ P k ∧ ∀ i < k, P i
  | 0 => .inl fun i h => by omega
  | n + 1 => by
    rcases first_not P n with h | ⟨k, hk, h1, h2⟩
    · by_cases hp : P n
      · exact .inl fun i hi => by
          by_cases e : i = n
          · rw [e]; exact hp
          · exact h i (by omega)
      · exact .inr ⟨n, by omega, hp, h⟩
    · exact .inr ⟨k, by omega, h1, h2⟩
theorem meaR_ex (l : List Opr) : ∃ M E A, MeaR l M E A := by
  by_cases hl : 8192 < l.length
  · exact ⟨_, _, _, .long hl⟩
  · rcases first_not (fun i => badO (l.getD i opr0) (mkN l i) = 0) l.length with h | ⟨k, hk, h1, h2⟩
    · by_cases hm : 0 < mkN l l.length
      · exact ⟨_, _, _, .left (by omega) h hm⟩
      · exact ⟨_, _, _, .fine (by omega) h hm⟩
    · exact ⟨_, _, _, .bad k _ (by omega) hk h2 rfl h1⟩
end Go.Proofs.YtienedhaogjahaaGreatDoor
