/- The contracts of the document's Of, Cur and Check of flows. The contract of the document's Same of two lists that are one. What tenorlaw14's Few and same tell. Lists of the program and of the document that are one. -/
import Derived.Test.YtjfldlllofjnbaaGreatHam
import Derived.Deep.QuietTactic
import Derived.BigQuiet
import Derived.RegionTactic
import Derived.Deep.RegionHeld3
import Derived.Deep.RegionLaw
import Derived.Test.YtjfldlllofjnbaaGreatJfW
namespace Go.Proofs.YtjfldlllofjnbaaGreat
open Go.RowKit

/-- An append of one flow of the document's, inside a region that draws. -/
theorem step_append_fd {ops : Array Oper} {o : Oper} {a : Act} {w : World} {K : Act → World → Prop} {Q : Exit → Act → World → Prop} {E : Prop} (hgd : o.guard = none) (s x : Operand)
    (ho : o.op = .call { callee := .builtin .append, args := #[s, x], argTypes := #[40, 40] })
    (base : Nat) (v : Value) (n : Nat) (xs : List Flw) (hs : a.eval s = v) (hown : w.ownsRow base 85 3 v n (rowF aB xs)) (hb : base ≤ w.heap.size)
    (g : Nat) (z : Flw) (hx : a.eval x = .slice (some ⟨g, 0, none⟩) 1 1) (hc : FCells aB w g 0 z) (hn : (n + 1) * 24 ≤ 140737488355328)
    (h : ∀ v' w', w'.ownsRow base 85 3 v' (n + 1) (rowF aB (xs ++ [z])) → Below base w w' → K (a.put o.dst v') w') :
    if Region.wanted o (yielded ops a.tmps) = true then Oper.wp Tryz.prog o a w K Q else E := by
  have hw : Region.wanted o (yielded ops a.tmps) = true := by simp [Region.wanted, hgd]
  rw [if_pos hw]
  obtain ⟨i0, hi, hz0, hz1, hz2⟩ := info_parts info_fd
  refine wp_append_own w s x 40 ho base 85 i0 (.agg #[.int .i64 0, aB 0, .int .i64 0]) 3 24 Tryz.underlying40 hi hz0 hz1 hz2 rfl (by decide) v n (rowF aB xs) hs hown ⟨g, 0, none⟩ 1 1 (rowF aB [z]) hx (by rw [rowF_len]; rfl) ?_ (rowF_one (fun _ => rfl) [z]) (by unfold maxLen; omega) (by omega) hb ?_
  · intro j u hj
    have hlt : j < 3 := by
      have := (List.getElem?_eq_some_iff.1 hj).1
      rw [rowF_len] at this
      exact this
    rw [Addr.add_lit]
    rcases (show j = 0 ∨ j = 1 ∨ j = 2 by omega) with rfl | rfl | rfl
    · rw [← hj]; exact hc.c0
    · rw [← hj]; exact hc.c1
    · rw [← hj]; exact hc.c2
  · intro v' w' h1 h2 _
    refine h v' w' ?_ (fgrown_below hown h2 hb)
    rw [rowF_append]; exact h1
/-- The same in a row of operations. -/
theorem wpList_append_d1 (w : World) {ops : Array Oper} {rest : List Oper} {o : Oper} {a : Act} {Q : Exit → Act → World → Prop} (hgd : o.guard = none) (s x : Operand)
    (ho : o.op = .call { callee := .builtin .append, args := #[s, x], argTypes := #[40, 40] })
    (base : Nat) (v : Value) (n : Nat) (xs : List Flw) (hs : a.eval s = v) (hown : w.ownsRow base 85 3 v n (rowF aB xs)) (hb : base ≤ w.heap.size)
    (g : Nat) (z : Flw) (hx : a.eval x = .slice (some ⟨g, 0, none⟩) 1 1) (hc : FCells aB w g 0 z) (hn : (n + 1) * 24 ≤ 140737488355328)
    (h : ∀ v' w', w'.ownsRow base 85 3 v' (n + 1) (rowF aB (xs ++ [z])) → Below base w w' → wpList Tryz.prog ops Q rest (a.put o.dst v') w') : wpList Tryz.prog ops Q (o :: rest) a w :=
  wpList_append_fl aB (fun _ => rfl) 40 85 Tryz.underlying40 info_fd rfl w hgd s x ho base v n xs hs hown g 0 1 [z] hx (fun i hi => by
    obtain rfl : i = 0 := by simp at hi; omega
    exact hc) hn hb (fun v' w' h1 h2 => h v' w' h1 (fgrown_below hown h2 hb))
theorem dcells_new (w : World) (f : Flw) : FCells aB (w.alloc (.cells #[.int .i64 f.day, .int .u64 (f.am : Int), .int .i64 f.cur] 85)) w.heap.size 0 f :=
  ⟨by simp, by simp [aB], by simp⟩
theorem take_id (l : List Flw) : mapN id l l.length = l := by rw [mapN_all]; simp

set_option maxRecDepth 20000 in
set_option maxHeartbeats 6400000 in
theorem ref14Of_any (l : List Flw) (p : Option Addr) (b off c N : Nat) (w : World) (hl : JSrc aF w p b off l) (hN : l.length = N) (hc : N * 24 ≤ 140737488355328) :
    Calls Tryz.prog 19 #[.slice p N c] w fun e w' => (∃ u, e = .returned u ∧ w'.ownsRow w.heap.size 85 3 u N (rowF aB l)) ∧ Below w.heap.size w w' := by
  have HN := hideS hN
  have HQ := hideS hl
  have HP : Hid (0 < N → p = some ⟨b, off, none⟩) := fun h => hl.at_ (by omega)
  have HC := hideS hc
  have hc2 : N ≤ 140737488355328 := by omega
  have HO0 := hideS (fown_nil aB w w.heap.size 85)
  clear hl hN hc
  go_enter Tryz.func19, Tryz.ntmps19
  go_wp2_with fail
  go_loopw [3, 4] (fun g i wr => ∃ (k : Nat) (q : Option Addr) (cp : Nat), k ≤ N ∧ i = .int .i64 k ∧ g = .slice q k cp ∧ Hid (wr.ownsRow w.heap.size 85 3 (.slice q k cp) k (rowF aB (mapN id l k))) ∧ Hid (Below w.heap.size w wr)) (fun _ i _ => N - (intOf i).toNat)
  case atStart => exact ⟨0, none, 0, Nat.zero_le _, rfl, rfl, HO0, Below.refl _ _⟩
  case round =>
    clear HO0
    obtain ⟨k, q, cp, hk, rfl, rfl, HO, HB⟩ := hrel
    by_cases hlt : k < N
    · obtain rfl := HP.out (by omega)
      obtain ⟨c0, c1, c2⟩ := (HQ.out.below HB.out).cell k (by rw [HN.out]; exact hlt)
      have hbl : b < wr.heap.size := Nat.lt_of_lt_of_le (HQ.out.lt (by rw [HN.out]; omega)) HB.out.size
      have HS : Hid (mapN id l (k + 1) = mapN id l k ++ [l.getD k flw0]) := mapN_succ id l k
      obtain ⟨f, hf⟩ : ∃ f, l.getD k flw0 = f := ⟨_, rfl⟩
      rw [hf] at HS c0 c1 c2
      clear hf
      obtain ⟨qd, qa, qc⟩ := f
      dsimp only [aF] at *
      have hbn : b ≠ wr.heap.size := Nat.ne_of_lt hbl
      have HBw := hideS ((Below.refl wr.heap.size wr).drew.alloc (Nat.le_refl _) (.cells #[.int .i64 qd, .int .u64 (qa : Int), .int .i64 qc] 85))
      have HO4 := hideS (fown_below HO.out HBw.out)
      have HB4 := hideS (HB.out.trans (HBw.out.mono HB.out.size))
      have HFc : Hid (FCells aB (wr.drew.alloc (.cells #[.int .i64 qd, .int .u64 (qa : Int), .int .i64 qc] 85)) wr.heap.size 0 ⟨qd, qa, qc⟩) := dcells_new wr.drew ⟨qd, qa, qc⟩
      have g3 : (0 : Int) ≤ (k : Int) := by omega
      have g4 : (k : Int) < (N : Int) := by omega
      go_wp2_with fail
      go_region_law (first | (go_simp; go_at_call 22; refine (turned (bits_any _ _)).mono ?_; rintro e wb ⟨rfl, rfl⟩) | (refine step_append_fd rfl (.tmp 11) (.tmp 29) rfl w.heap.size (.slice q k cp) k (mapN id l k) rfl HO4.out HB4.out.size wr.heap.size ⟨qd, qa, qc⟩ rfl HFc.out (by have := HC.out; omega) ?_; intro v5 w5 ho5 hb5; rw [← HS.out] at ho5; have HB5 := hideS (HB4.out.trans hb5); obtain ⟨q5, g5, k5, hv5, _, _, _, hm5⟩ := fown_src ho5 (mapN_len _ _ _); subst hv5; have HO5 := hideS ho5; clear ho5 hb5))
      all_goals
        go_wp2_with fail
        go_roundw
        case rel => exact ⟨k + 1, q5, k5, by omega, by go_num, rfl, HO5, HB5⟩
        case measure => simp [intOf]; omega
    · obtain rfl : k = N := by omega
      go_wp2_with fail
      go_ret
      refine ⟨⟨_, rfl, ?_⟩, HB.out⟩
      have := HO.out
      rw [← HN.out, take_id, HN.out] at this
      exact this
end Go.Proofs.YtjfldlllofjnbaaGreat
namespace Go.Proofs.YtjfldlllofjnbaaGreat
open Go.RowKit

theorem sameB_self (a : Nat) : sameB (a : Int) (a : Int) = true := by
  unfold sameB; simp
set_option maxRecDepth 20000 in
set_option maxHeartbeats 6400000 in
theorem ref14Same_same (l : List Flw) (p q : Option Addr) (b off c b2 off2 c2 N : Nat) (w : World) (hl : JSrc aF w p b off l) (hm : JSrc aB w q b2 off2 l) (hN : l.length = N) (hc : N ≤ 9223372036854775807) (hf : FitJ l) :
    Calls Tryz.prog 14 #[.slice p N c, .slice q N c2] w fun e w' => e = .returned (.bool true) ∧ Below w.heap.size w w' := by
  have HN := hideS hN
  have HQ := hideS hl
  have HQ2 := hideS hm
  have HF := hideS hf
  have HP : Hid (0 < N → p = some ⟨b, off, none⟩ ∧ q = some ⟨b2, off2, none⟩) := fun h => ⟨hl.at_ (by omega), hm.at_ (by omega)⟩
  clear hl hm hN hf
  go_enter Tryz.func14, Tryz.ntmps14
  go_wp2_with fail
  go_loopw [5] (fun i wr => ∃ k : Nat, k ≤ N ∧ i = .int .i64 k ∧ Hid (∃ n, wr = w.drewN n)) (fun i _ => N - (intOf i).toNat)
  case atStart => exact ⟨0, Nat.zero_le _, rfl, 0, rfl⟩
  case round =>
    obtain ⟨k, hk, rfl, HW⟩ := hrel
    have HB : Hid (Below w.heap.size w wr) := by obtain ⟨n, rfl⟩ := HW.out; exact ⟨rfl, rfl, rfl, Nat.le_refl _, fun _ _ => rfl⟩
    by_cases hlt : k < N
    · obtain ⟨rfl, rfl⟩ := HP.out (by omega)
      obtain ⟨c0, c1, c2'⟩ := (HQ.out.below HB.out).cell k (by rw [HN.out]; exact hlt)
      obtain ⟨d0, d1, d2⟩ := (HQ2.out.below HB.out).cell k (by rw [HN.out]; exact hlt)
      have HSm := hideS fun wx => refSame_any ((l.getD k flw0).am : Int) ((l.getD k flw0).am : Int) wx (by have := HF.out k; unfold U64; omega) (by have := HF.out k; unfold U64; omega)
      rw [sameB_self] at HSm
      obtain ⟨f, hf⟩ : ∃ f, l.getD k flw0 = f := ⟨_, rfl⟩
      rw [hf] at c0 c1 c2' d0 d1 d2 HSm
      clear hf
      obtain ⟨qd, qa, qc⟩ := f
      dsimp only [aF, aB] at *
      have g3 : (0 : Int) ≤ (k : Int) := by omega
      have g4 : (k : Int) < (N : Int) := by omega
      have e1 : (qd != qd) = false := by simp
      have e2 : (qc != qc) = false := by simp
      go_wp2_with fail
      go_quiet (first | (go_at_call 22; exact Calls.quiet_of_same (bits_any _ _)) | (go_at_call 38; exact Calls.quiet_of_same (HSm.out _)))
      all_goals
        go_wp2_with fail
        go_roundw
        case rel => exact ⟨k + 1, by omega, by go_num, by obtain ⟨n, rfl⟩ := HW.out; exact ⟨n + _, by simp [World.drewN, Nat.add_assoc]; rfl⟩⟩
        case measure => simp [intOf]; omega
    · obtain rfl : k = N := by omega
      go_wp2_with fail
      go_ret
      exact ⟨rfl, HB.out⟩
end Go.Proofs.YtjfldlllofjnbaaGreat
namespace Go.Proofs.YtjfldlllofjnbaaGreat
open Go.RowKit

theorem few14_any (p : Option Addr) (N c : Nat) (w : World) (hc : N ≤ 9223372036854775807) : Calls Tryz.prog 18 #[.slice p N c] w fun e w' => e = .returned (.bool (decide (N ≤ 120))) ∧ w' = w := by
  by_cases h : N ≤ 120
  · rw [decide_eq_true h]
    have h' : (N : Int) ≤ 120 := by omega
    go_enter Tryz.func18, Tryz.ntmps18
    go_wp2
    go_ret
    exact ⟨by simp, rfl⟩
  · rw [decide_eq_false h]
    have h' : ¬ (N : Int) ≤ 120 := by omega
    go_enter Tryz.func18, Tryz.ntmps18
    go_wp2
    go_ret
    exact ⟨by simp, rfl⟩
/-- A list in memory that may be asked. -/
structure JL (w : World) (v : Value) (l : List Flw) : Prop where
  ex : ∃ p g o c, v = .slice p l.length c ∧ JSrc aF w p g o l
theorem JL.below {w w' : World} {v : Value} {l : List Flw} (h : JL w v l) (hb : Below w.heap.size w w') : JL w' v l := by
  obtain ⟨p, g, o, c, e, hs⟩ := h.ex
  exact ⟨p, g, o, c, e, hs.below hb⟩
theorem JL.own {w : World} {base : Nat} {v : Value} {l : List Flw} (h : w.ownsRow base 70 3 v l.length (rowF aF l)) : JL w v l := by
  obtain ⟨p, g, c, e, hs, _⟩ := fown_src h rfl
  exact ⟨p, g, 0, c, e, hs⟩
end Go.Proofs.YtjfldlllofjnbaaGreat
namespace Go.Proofs.YtjfldlllofjnbaaGreat
open Go.RowKit

theorem giveF_fit {l : List Flw} (h : FitJ l) : FitJ (l.map giveF) := fun i => by
  by_cases hi : i < l.length
  · have e : (l.map giveF).getD i flw0 = giveF (l.getD i flw0) := by simp [List.getD, hi]
    rw [e]
    have := neg_wrd (h i)
    unfold giveF
    dsimp only
    rw [this]
    unfold wrd
    split <;> omega
  · rw [List.getD_eq_getElem?_getD, List.getElem?_eq_none (by simpa using hi)]; decide
theorem filter_fit {l : List Flw} (h : FitJ l) (q : Flw → Bool) : FitJ (l.filter q) := fun i => by
  by_cases hi : i < (l.filter q).length
  · have e : (l.filter q).getD i flw0 = (l.filter q)[i] := by simp [List.getD, hi]
    rw [e]
    have hm := (List.mem_filter.1 (List.getElem_mem hi)).1
    obtain ⟨j, hj, ej⟩ := List.mem_iff_getElem.1 hm
    have := h j
    rw [show l.getD j flw0 = l[j] by simp [List.getD, hj], ej] at this
    exact this
  · rw [List.getD_eq_getElem?_getD, List.getElem?_eq_none (by omega)]; decide
/-- Each flow of what mapO tells is one that g told. -/
theorem mapO_fit {g : Flw → Option Flw} {l : List Flw} (hg : ∀ i f, g (l.getD i flw0) = some f → f.am < 18446744073709551616) : ∀ k, FitJ ((mapO g l k).getD [])
  | 0 => fun i => by simp [mapO, flw0]
  | k + 1 => fun i => by
    have ih := mapO_fit hg k
    cases hm : mapO g l k with
    | none =>
      have : mapO g l (k + 1) = none := by unfold mapO; rw [hm, Option.bind_none]
      rw [this]; simp [flw0]
    | some m =>
      cases hf : g (l.getD k flw0) with
      | none =>
        have : mapO g l (k + 1) = none := by unfold mapO; rw [hm, Option.bind_some, hf, Option.map_none]
        rw [this]; simp [flw0]
      | some f =>
        rw [mapO_succ hm hf]
        rw [hm] at ih
        have ih' := ih i
        show ((m ++ [f]).getD i flw0).am < _
        by_cases h1 : i < m.length
        · rw [List.getD_eq_getElem?_getD, List.getElem?_append_left h1, ← List.getD_eq_getElem?_getD]; exact ih'
        · by_cases h2 : i = m.length
          · subst h2
            rw [List.getD_eq_getElem?_getD, List.getElem?_append_right (Nat.le_refl _), Nat.sub_self]
            exact hg k f hf
          · rw [List.getD_eq_getElem?_getD, List.getElem?_eq_none (by rw [List.length_append]; simp; omega)]; decide
theorem mapO_len_le (g : Flw → Option Flw) (l : List Flw) (k : Nat) : ((mapO g l k).getD []).length ≤ k := by
  cases hm : mapO g l k with
  | none => exact Nat.zero_le _
  | some m => show m.length ≤ k; rw [mapO_len hm]; exact Nat.le_refl _
theorem sclL_len (x : Nat) (l : List Flw) : ((sclL x l).getD []).length ≤ l.length := by
  unfold sclL
  split
  · exact mapO_len_le _ _ _
  · exact Nat.zero_le _
theorem sclL_fit {x : Nat} {l : List Flw} (_ : FitJ l) : FitJ ((sclL x l).getD []) := by
  unfold sclL
  split
  · refine mapO_fit (fun i f h => ?_) _
    unfold sclO at h
    cases e : floatBits .mul .f64 x (l.getD i flw0).am with
    | none => rw [e] at h; cases h
    | some r =>
      rw [e] at h
      have h' : (if finB r = true then some (⟨(l.getD i flw0).day, r, (l.getD i flw0).cur⟩ : Flw) else none) = some f := h
      split at h'
      · obtain rfl := Option.some.inj h'
        exact float_lt (Or.inr (Or.inr (Or.inl rfl))) e
      · cases h'
  · intro i; simp [flw0]
theorem shf_fit {g : Int → Option Int} {l : List Flw} (hf : FitJ l) {k : Nat} : FitJ ((mapO (shfF g) l k).getD []) := by
  refine mapO_fit (fun i f h => ?_) _
  unfold shfF at h
  cases e : g (l.getD i flw0).day with
  | none => rw [e] at h; cases h
  | some n =>
    rw [e] at h
    obtain rfl := Option.some.inj h
    exact hf i
/-- A list of the document's in memory. -/
structure JD (w : World) (v : Value) (l : List Flw) : Prop where
  ex : ∃ p g c, v = .slice p l.length c ∧ JSrc aB w p g 0 l
theorem JD.below {w w' : World} {v : Value} {l : List Flw} (h : JD w v l) (hb : Below w.heap.size w w') : JD w' v l := by
  obtain ⟨p, g, c, e, hs⟩ := h.ex
  exact ⟨p, g, c, e, hs.below hb⟩
theorem JD.own {w : World} {base : Nat} {v : Value} {l : List Flw} (h : w.ownsRow base 85 3 v l.length (rowF aB l)) : JD w v l := by
  obtain ⟨p, g, c, e, hs, _⟩ := fown_src h rfl
  exact ⟨p, g, c, e, hs⟩
def errO (o : Option (List Flw)) (E : Int) : Int := if o.isSome then 0 else E
theorem lstO_get {o : Option (List Flw)} {E : Int} {base : Nat} {e : Ending} {w : World} (h : LstO aF 70 o E base e w) : ∃ u, e = .returned (.tuple #[u, .int .i64 (errO o E)]) ∧ JL w u (o.getD []) := by
  rcases h with ⟨rfl, he⟩ | ⟨m, u, rfl, he, hw⟩
  · exact ⟨_, he, none, 0, 0, 0, rfl, ⟨fun h => by simp at h, fun h => by simp at h, fun i hi => by simp at hi⟩⟩
  · exact ⟨u, he, JL.own hw⟩
theorem lstD_get {o : Option (List Flw)} {E : Int} {base : Nat} {e : Ending} {w : World} (h : LstO aB 85 o E base e w) : ∃ u, e = .returned (.tuple #[u, .int .i64 (errO o E)]) ∧ JD w u (o.getD []) := by
  rcases h with ⟨rfl, he⟩ | ⟨m, u, rfl, he, hw⟩
  · exact ⟨_, he, none, 0, 0, rfl, ⟨fun h => by simp at h, fun h => by simp at h, fun i hi => by simp at hi⟩⟩
  · exact ⟨u, he, JD.own hw⟩
theorem sameD_any (u v : Value) (l : List Flw) (w : World) (hu : JL w u l) (hv : JD w v l) (hl : l.length ≤ 9223372036854775807) (hf : FitJ l) : Calls Tryz.prog 14 #[u, v] w fun e w' => e = .returned (.bool true) ∧ Below w.heap.size w w' := by
  obtain ⟨p, g, o, c, rfl, hs⟩ := hu.ex
  obtain ⟨q, g', c', rfl, hs'⟩ := hv.ex
  exact ref14Same_same l p q g o c g' 0 c' l.length w hs hs' rfl hl hf
end Go.Proofs.YtjfldlllofjnbaaGreat
