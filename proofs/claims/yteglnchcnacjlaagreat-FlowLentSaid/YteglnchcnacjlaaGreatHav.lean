/- The contracts of the document's Of, Cur and Check of flows. The contract of the document's Same of two lists that are one. What tenorlaw14's Few and same tell. Lists of the program and of the document that are one. Lists of flows in blocks of their own, side by side: one is written, the others stay. The contracts of the document's Cur and Check of flows. -/
import Derived.Test.YteglnchcnacjlaaGreatHao
import Derived.Deep.QuietTactic
import Derived.BigQuiet
import Derived.RegionTactic
import Derived.Deep.RegionHeld3
import Derived.Deep.RegionLaw
import Derived.Test.YteglnchcnacjlaaGreatJfW
import Derived.Test.YteglnchcnacjlaaGreatXmA
namespace Go.Proofs.YteglnchcnacjlaaGreat
open Go.RowKit

theorem step_append_fd {ops : Array Oper} {o : Oper} {a : Act} {w : World} {K : Act → World → Prop} {Q : Exit → Act → World → Prop} {E : Prop} (hgd : o.guard = none) (s x : Operand)
    (ho : o.op = .call { callee := .builtin .append, args := #[s, x], argTypes := #[26, 26] })
    (base : Nat) (v : Value) (n : Nat) (xs : List Flw) (hs : a.eval s = v) (hown : w.ownsRow base 49 3 v n (rowF aB xs)) (hb : base ≤ w.heap.size)
    (g : Nat) (z : Flw) (hx : a.eval x = .slice (some ⟨g, 0, none⟩) 1 1) (hc : FCells aB w g 0 z) (hn : (n + 1) * 24 ≤ 140737488355328)
    (h : ∀ v' w', w'.ownsRow base 49 3 v' (n + 1) (rowF aB (xs ++ [z])) → Below base w w' → K (a.put o.dst v') w') :
    if Region.wanted o (yielded ops a.tmps) = true then Oper.wp Tryz.prog o a w K Q else E := by
  have hw : Region.wanted o (yielded ops a.tmps) = true := by simp [Region.wanted, hgd]
  rw [if_pos hw]
  obtain ⟨i0, hi, hz0, hz1, hz2⟩ := info_parts info_fd
  refine wp_append_own w s x 26 ho base 49 i0 (.agg #[.int .i64 0, aB 0, .int .i64 0]) 3 24 Tryz.underlying26 hi hz0 hz1 hz2 rfl (by decide) v n (rowF aB xs) hs hown ⟨g, 0, none⟩ 1 1 (rowF aB [z]) hx (by rw [rowF_len]; rfl) ?_ (rowF_one (fun _ => rfl) [z]) (by unfold maxLen; omega) (by omega) hb ?_
  · intro j u hj
    have hlt : j < 3 := by
      have := (List.getElem?_eq_some_iff.1 hj).1
      rw [rowF_len] at this
      exact this
    rw [Addr.add_lit]
    rcases (show j = 0 ∨ j = 1 ∨ j = 2 by omega) with rfl | rfl | rfl
    · rw [← hj]; exact hc.c0
    · rw [← hj]; exact hc.c1
    · rw [← hj]; exact hc.c2
  · intro v' w' h1 h2 _
    refine h v' w' ?_ (fgrown_below hown h2 hb)
    rw [rowF_append]; exact h1
theorem wpList_append_d1 (w : World) {ops : Array Oper} {rest : List Oper} {o : Oper} {a : Act} {Q : Exit → Act → World → Prop} (hgd : o.guard = none) (s x : Operand)
    (ho : o.op = .call { callee := .builtin .append, args := #[s, x], argTypes := #[26, 26] })
    (base : Nat) (v : Value) (n : Nat) (xs : List Flw) (hs : a.eval s = v) (hown : w.ownsRow base 49 3 v n (rowF aB xs)) (hb : base ≤ w.heap.size)
    (g : Nat) (z : Flw) (hx : a.eval x = .slice (some ⟨g, 0, none⟩) 1 1) (hc : FCells aB w g 0 z) (hn : (n + 1) * 24 ≤ 140737488355328)
    (h : ∀ v' w', w'.ownsRow base 49 3 v' (n + 1) (rowF aB (xs ++ [z])) → Below base w w' → wpList Tryz.prog ops Q rest (a.put o.dst v') w') : wpList Tryz.prog ops Q (o :: rest) a w :=
  wpList_append_fl aB (fun _ => rfl) 26 49 Tryz.underlying26 info_fd rfl w hgd s x ho base v n xs hs hown g 0 1 [z] hx (fun i hi => by
    obtain rfl : i = 0 := by simp at hi; omega
    exact hc) hn hb (fun v' w' h1 h2 => h v' w' h1 (fgrown_below hown h2 hb))
theorem dcells_new (w : World) (f : Flw) : FCells aB (w.alloc (.cells #[.int .i64 f.day, .int .u64 (f.am : Int), .int .i64 f.cur] 49)) w.heap.size 0 f :=
  ⟨by simp, by simp [aB], by simp⟩
theorem take_id (l : List Flw) : mapN id l l.length = l := by rw [mapN_all]; simp

set_option maxRecDepth 20000 in
set_option maxHeartbeats 6400000 in
theorem ref14Of_any (l : List Flw) (p : Option Addr) (b off c N : Nat) (w : World) (hl : JSrc aF w p b off l) (hN : l.length = N) (hc : N * 24 ≤ 140737488355328) :
    Calls Tryz.prog 6 #[.slice p N c] w fun e w' => (∃ u, e = .returned u ∧ w'.ownsRow w.heap.size 49 3 u N (rowF aB l)) ∧ Below w.heap.size w w' := by
  have HN := hideS hN
  have HQ := hideS hl
  have HP : Hid (0 < N → p = some ⟨b, off, none⟩) := fun h => hl.at_ (by omega)
  have HC := hideS hc
  have hc2 : N ≤ 140737488355328 := by omega
  have HO0 := hideS (fown_nil aB w w.heap.size 49)
  clear hl hN hc
  go_enter Tryz.func6, Tryz.ntmps6
  go_wp2_with fail
  go_loopw [3, 4] (fun g i wr => ∃ (k : Nat) (q : Option Addr) (cp : Nat), k ≤ N ∧ i = .int .i64 k ∧ g = .slice q k cp ∧ Hid (wr.ownsRow w.heap.size 49 3 (.slice q k cp) k (rowF aB (mapN id l k))) ∧ Hid (Below w.heap.size w wr)) (fun _ i _ => N - (intOf i).toNat)
  case atStart => exact ⟨0, none, 0, Nat.zero_le _, rfl, rfl, HO0, Below.refl _ _⟩
  case round =>
    clear HO0
    obtain ⟨k, q, cp, hk, rfl, rfl, HO, HB⟩ := hrel
    by_cases hlt : k < N
    · obtain rfl := HP.out (by omega)
      obtain ⟨c0, c1, c2⟩ := (HQ.out.below HB.out).cell k (by rw [HN.out]; exact hlt)
      have hbl : b < wr.heap.size := Nat.lt_of_lt_of_le (HQ.out.lt (by rw [HN.out]; omega)) HB.out.size
      have HS : Hid (mapN id l (k + 1) = mapN id l k ++ [l.getD k flw0]) := mapN_succ id l k
      obtain ⟨f, hf⟩ : ∃ f, l.getD k flw0 = f := ⟨_, rfl⟩
      rw [hf] at HS c0 c1 c2
      clear hf
      obtain ⟨qd, qa, qc⟩ := f
      dsimp only [aF] at *
      have hbn : b ≠ wr.heap.size := Nat.ne_of_lt hbl
      have HBw := hideS ((Below.refl wr.heap.size wr).drew.alloc (Nat.le_refl _) (.cells #[.int .i64 qd, .int .u64 (qa : Int), .int .i64 qc] 49))
      have HO4 := hideS (fown_below HO.out HBw.out)
      have HB4 := hideS (HB.out.trans (HBw.out.mono HB.out.size))
      have HFc : Hid (FCells aB (wr.drew.alloc (.cells #[.int .i64 qd, .int .u64 (qa : Int), .int .i64 qc] 49)) wr.heap.size 0 ⟨qd, qa, qc⟩) := dcells_new wr.drew ⟨qd, qa, qc⟩
      have g3 : (0 : Int) ≤ (k : Int) := by omega
      have g4 : (k : Int) < (N : Int) := by omega
      go_wp2_with fail
      go_region_law (first | (go_simp; go_at_call 13; refine (turned (bits_any _ _)).mono ?_; rintro e wb ⟨rfl, rfl⟩) | (refine step_append_fd rfl (.tmp 11) (.tmp 29) rfl w.heap.size (.slice q k cp) k (mapN id l k) rfl HO4.out HB4.out.size wr.heap.size ⟨qd, qa, qc⟩ rfl HFc.out (by have := HC.out; omega) ?_; intro v5 w5 ho5 hb5; rw [← HS.out] at ho5; have HB5 := hideS (HB4.out.trans hb5); obtain ⟨q5, g5, k5, hv5, _, _, _, hm5⟩ := fown_src ho5 (mapN_len _ _ _); subst hv5; have HO5 := hideS ho5; clear ho5 hb5))
      all_goals
        go_wp2_with fail
        go_roundw
        case rel => exact ⟨k + 1, q5, k5, by omega, by go_num, rfl, HO5, HB5⟩
        case measure => simp [intOf]; omega
    · obtain rfl : k = N := by omega
      go_wp2_with fail
      go_ret
      refine ⟨⟨_, rfl, ?_⟩, HB.out⟩
      have := HO.out
      rw [← HN.out, take_id, HN.out] at this
      exact this
end Go.Proofs.YteglnchcnacjlaaGreat
namespace Go.Proofs.YteglnchcnacjlaaGreat
open Go.RowKit

theorem sameB_self (a : Nat) : sameB (a : Int) (a : Int) = true := by
  unfold sameB; simp
set_option maxRecDepth 20000 in
set_option maxHeartbeats 6400000 in
theorem ref14Same_same (l : List Flw) (p q : Option Addr) (b off c b2 off2 c2 N : Nat) (w : World) (hl : JSrc aF w p b off l) (hm : JSrc aB w q b2 off2 l) (hN : l.length = N) (hc : N ≤ 9223372036854775807) (hf : FitJ l) :
    Calls Tryz.prog 16 #[.slice p N c, .slice q N c2] w fun e w' => e = .returned (.bool true) ∧ Below w.heap.size w w' := by
  have HN := hideS hN
  have HQ := hideS hl
  have HQ2 := hideS hm
  have HF := hideS hf
  have HP : Hid (0 < N → p = some ⟨b, off, none⟩ ∧ q = some ⟨b2, off2, none⟩) := fun h => ⟨hl.at_ (by omega), hm.at_ (by omega)⟩
  clear hl hm hN hf
  go_enter Tryz.func16, Tryz.ntmps16
  go_wp2_with fail
  go_loopw [5] (fun i wr => ∃ k : Nat, k ≤ N ∧ i = .int .i64 k ∧ Hid (∃ n, wr = w.drewN n)) (fun i _ => N - (intOf i).toNat)
  case atStart => exact ⟨0, Nat.zero_le _, rfl, 0, rfl⟩
  case round =>
    obtain ⟨k, hk, rfl, HW⟩ := hrel
    have HB : Hid (Below w.heap.size w wr) := by obtain ⟨n, rfl⟩ := HW.out; exact ⟨rfl, rfl, rfl, Nat.le_refl _, fun _ _ => rfl⟩
    by_cases hlt : k < N
    · obtain ⟨rfl, rfl⟩ := HP.out (by omega)
      obtain ⟨c0, c1, c2'⟩ := (HQ.out.below HB.out).cell k (by rw [HN.out]; exact hlt)
      obtain ⟨d0, d1, d2⟩ := (HQ2.out.below HB.out).cell k (by rw [HN.out]; exact hlt)
      have HSm := hideS fun wx => refSame_any ((l.getD k flw0).am : Int) ((l.getD k flw0).am : Int) wx (by have := HF.out k; unfold U64; omega) (by have := HF.out k; unfold U64; omega)
      rw [sameB_self] at HSm
      obtain ⟨f, hf⟩ : ∃ f, l.getD k flw0 = f := ⟨_, rfl⟩
      rw [hf] at c0 c1 c2' d0 d1 d2 HSm
      clear hf
      obtain ⟨qd, qa, qc⟩ := f
      dsimp only [aF, aB] at *
      have g3 : (0 : Int) ≤ (k : Int) := by omega
      have g4 : (k : Int) < (N : Int) := by omega
      have e1 : (qd != qd) = false := by simp
      have e2 : (qc != qc) = false := by simp
      go_wp2_with fail
      go_quiet (first | (go_at_call 13; exact Calls.quiet_of_same (bits_any _ _)) | (go_at_call 33; exact Calls.quiet_of_same (HSm.out _)))
      all_goals
        go_wp2_with fail
        go_roundw
        case rel => exact ⟨k + 1, by omega, by go_num, by obtain ⟨n, rfl⟩ := HW.out; exact ⟨n + _, by simp [World.drewN, Nat.add_assoc]; rfl⟩⟩
        case measure => simp [intOf]; omega
    · obtain rfl : k = N := by omega
      go_wp2_with fail
      go_ret
      exact ⟨rfl, HB.out⟩
end Go.Proofs.YteglnchcnacjlaaGreat
namespace Go.Proofs.YteglnchcnacjlaaGreat
open Go.RowKit

theorem few14_any (p : Option Addr) (N c : Nat) (w : World) (hc : N ≤ 9223372036854775807) : Calls Tryz.prog 4 #[.slice p N c] w fun e w' => e = .returned (.bool (decide (N ≤ 120))) ∧ w' = w := by
  by_cases h : N ≤ 120
  · rw [decide_eq_true h]
    have h' : (N : Int) ≤ 120 := by omega
    go_enter Tryz.func4, Tryz.ntmps4
    go_wp2
    go_ret
    exact ⟨by simp, rfl⟩
  · rw [decide_eq_false h]
    have h' : ¬ (N : Int) ≤ 120 := by omega
    go_enter Tryz.func4, Tryz.ntmps4
    go_wp2
    go_ret
    exact ⟨by simp, rfl⟩
structure JL (w : World) (v : Value) (l : List Flw) : Prop where
  ex : ∃ p g o c, v = .slice p l.length c ∧ JSrc aF w p g o l
theorem JL.below {w w' : World} {v : Value} {l : List Flw} (h : JL w v l) (hb : Below w.heap.size w w') : JL w' v l := by
  obtain ⟨p, g, o, c, e, hs⟩ := h.ex
  exact ⟨p, g, o, c, e, hs.below hb⟩
theorem JL.own {w : World} {base : Nat} {v : Value} {l : List Flw} (h : w.ownsRow base 29 3 v l.length (rowF aF l)) : JL w v l := by
  obtain ⟨p, g, c, e, hs, _⟩ := fown_src h rfl
  exact ⟨p, g, 0, c, e, hs⟩
end Go.Proofs.YteglnchcnacjlaaGreat
namespace Go.Proofs.YteglnchcnacjlaaGreat
open Go.RowKit

theorem giveF_fit {l : List Flw} (h : FitJ l) : FitJ (l.map giveF) := fun i => by
  by_cases hi : i < l.length
  · have e : (l.map giveF).getD i flw0 = giveF (l.getD i flw0) := by simp [List.getD, hi]
    rw [e]
    have := neg_wrd (h i)
    unfold giveF
    dsimp only
    rw [this]
    unfold wrd
    split <;> omega
  · rw [List.getD_eq_getElem?_getD, List.getElem?_eq_none (by simpa using hi)]; decide
theorem filter_fit {l : List Flw} (h : FitJ l) (q : Flw → Bool) : FitJ (l.filter q) := fun i => by
  by_cases hi : i < (l.filter q).length
  · have e : (l.filter q).getD i flw0 = (l.filter q)[i] := by simp [List.getD, hi]
    rw [e]
    have hm := (List.mem_filter.1 (List.getElem_mem hi)).1
    obtain ⟨j, hj, ej⟩ := List.mem_iff_getElem.1 hm
    have := h j
    rw [show l.getD j flw0 = l[j] by simp [List.getD, hj], ej] at this
    exact this
  · rw [List.getD_eq_getElem?_getD, List.getElem?_eq_none (by omega)]; decide
theorem mapO_fit {g : Flw → Option Flw} {l : List Flw} (hg : ∀ i f, g (l.getD i flw0) = some f → f.am < 18446744073709551616) : ∀ k, FitJ ((mapO g l k).getD [])
  | 0 => fun i => by simp [mapO, flw0]
  | k + 1 => fun i => by
    have ih := mapO_fit hg k
    cases hm : mapO g l k with
    | none =>
      have : mapO g l (k + 1) = none := by unfold mapO; rw [hm, Option.bind_none]
      rw [this]; simp [flw0]
    | some m =>
      cases hf : g (l.getD k flw0) with
      | none =>
        have : mapO g l (k + 1) = none := by unfold mapO; rw [hm, Option.bind_some, hf, Option.map_none]
        rw [this]; simp [flw0]
      | some f =>
        rw [mapO_succ hm hf]
        rw [hm] at ih
        have ih' := ih i
        show ((m ++ [f]).getD i flw0).am < _
        by_cases h1 : i < m.length
        · rw [List.getD_eq_getElem?_getD, List.getElem?_append_left h1, ← List.getD_eq_getElem?_getD]; exact ih'
        · by_cases h2 : i = m.length
          · subst h2
            rw [List.getD_eq_getElem?_getD, List.getElem?_append_right (Nat.le_refl _), Nat.sub_self]
            exact hg k f hf
          · rw [List.getD_eq_getElem?_getD, List.getElem?_eq_none (by rw [List.length_append]; simp; omega)]; decide
theorem mapO_len_le (g : Flw → Option Flw) (l : List Flw) (k : Nat) : ((mapO g l k).getD []).length ≤ k := by
  cases hm : mapO g l k with
  | none => exact Nat.zero_le _
  | some m => show m.length ≤ k; rw [mapO_len hm]; exact Nat.le_refl _
theorem sclL_len (x : Nat) (l : List Flw) : ((sclL x l).getD []).length ≤ l.length := by
  unfold sclL
  split
  · exact mapO_len_le _ _ _
  · exact Nat.zero_le _
theorem sclL_fit {x : Nat} {l : List Flw} (_ : FitJ l) : FitJ ((sclL x l).getD []) := by
  unfold sclL
  split
  · refine mapO_fit (fun i f h => ?_) _
    unfold sclO at h
    cases e : floatBits .mul .f64 x (l.getD i flw0).am with
    | none => rw [e] at h; cases h
    | some r =>
      rw [e] at h
      have h' : (if finB r = true then some (⟨(l.getD i flw0).day, r, (l.getD i flw0).cur⟩ : Flw) else none) = some f := h
      split at h'
      · obtain rfl := Option.some.inj h'
        exact float_lt (Or.inr (Or.inr (Or.inl rfl))) e
      · cases h'
  · intro i; simp [flw0]
theorem shf_fit {g : Int → Option Int} {l : List Flw} (hf : FitJ l) {k : Nat} : FitJ ((mapO (shfF g) l k).getD []) := by
  refine mapO_fit (fun i f h => ?_) _
  unfold shfF at h
  cases e : g (l.getD i flw0).day with
  | none => rw [e] at h; cases h
  | some n =>
    rw [e] at h
    obtain rfl := Option.some.inj h
    exact hf i
structure JD (w : World) (v : Value) (l : List Flw) : Prop where
  ex : ∃ p g c, v = .slice p l.length c ∧ JSrc aB w p g 0 l
theorem JD.below {w w' : World} {v : Value} {l : List Flw} (h : JD w v l) (hb : Below w.heap.size w w') : JD w' v l := by
  obtain ⟨p, g, c, e, hs⟩ := h.ex
  exact ⟨p, g, c, e, hs.below hb⟩
theorem JD.own {w : World} {base : Nat} {v : Value} {l : List Flw} (h : w.ownsRow base 49 3 v l.length (rowF aB l)) : JD w v l := by
  obtain ⟨p, g, c, e, hs, _⟩ := fown_src h rfl
  exact ⟨p, g, c, e, hs⟩
def errO (o : Option (List Flw)) (E : Int) : Int := if o.isSome then 0 else E
theorem lstD_get {o : Option (List Flw)} {E : Int} {base : Nat} {e : Ending} {w : World} (h : LstO aB 49 o E base e w) : ∃ u, e = .returned (.tuple #[u, .int .i64 (errO o E)]) ∧ JD w u (o.getD []) := by
  rcases h with ⟨rfl, he⟩ | ⟨m, u, rfl, he, hw⟩
  · exact ⟨_, he, none, 0, 0, rfl, ⟨fun h => by simp at h, fun h => by simp at h, fun i hi => by simp at hi⟩⟩
  · exact ⟨u, he, JD.own hw⟩
theorem sameD_any (u v : Value) (l : List Flw) (w : World) (hu : JL w u l) (hv : JD w v l) (hl : l.length ≤ 9223372036854775807) (hf : FitJ l) : Calls Tryz.prog 16 #[u, v] w fun e w' => e = .returned (.bool true) ∧ Below w.heap.size w w' := by
  obtain ⟨p, g, o, c, rfl, hs⟩ := hu.ex
  obtain ⟨q, g', c', rfl, hs'⟩ := hv.ex
  exact ref14Same_same l p q g o c g' 0 c' l.length w hs hs' rfl hl hf
end Go.Proofs.YteglnchcnacjlaaGreat
namespace Go.Proofs.YteglnchcnacjlaaGreat
open Go.RowKit

structure Rng (A Z : Nat) (w w' : World) : Prop where
  os : w'.os = w.os
  tape : w'.tape = w.tape
  output : w'.output = w.output
  size : w'.heap.size = w.heap.size
  out : ∀ k, k < A ∨ Z ≤ k → w'.heap[k]? = w.heap[k]?
theorem Rng.refl (A Z : Nat) (w : World) : Rng A Z w w := ⟨rfl, rfl, rfl, rfl, fun _ _ => rfl⟩
theorem Rng.below {A Z B : Nat} {w w' : World} (h : Rng A Z w w') (hB : B ≤ A) : Below B w w' := ⟨h.os, h.tape, h.output, Nat.le_of_eq h.size.symm, fun k hk => h.out k (Or.inl (by omega))⟩
theorem Rng.cell {A Z : Nat} {w w' : World} (h : Rng A Z w w') {p : Addr} (hp : p.block < A ∨ Z ≤ p.block) : w'.cell? p = w.cell? p := World.cell?_of_block (w := w) (h.out p.block hp)
structure LF (lo hi : Nat) (v : Value) (l : List Flw) (w : World) : Prop where
  own : w.ownsRow lo 29 3 v l.length (rowF aF l)
  hi : ∀ b, v.ownBlock = some b → b < hi
theorem LF.keep {lo hi : Nat} {v : Value} {l : List Flw} {w w' : World} (h : LF lo hi v l w) (hk : ∀ b, lo ≤ b → b < hi → w'.heap[b]? = w.heap[b]?) : LF lo hi v l w' := by
  refine ⟨⟨h.own.1, ?_⟩, h.hi⟩
  rcases h.own.2 with hn | ⟨g, cap, cur, rfl, hb, hg, rest⟩
  · exact Or.inl hn
  · exact Or.inr ⟨g, cap, cur, rfl, hb, (hk g hb (h.hi g rfl)).trans hg, rest⟩
theorem LF.below {lo hi : Nat} {v : Value} {l : List Flw} {w w' : World} (h : LF lo hi v l w) (hh : hi ≤ w.heap.size) (hb : Below w.heap.size w w') : LF lo hi v l w' := h.keep fun b _ hb2 => hb.block b (by omega)
theorem LF.mk' {lo : Nat} {v : Value} {l : List Flw} {w : World} (h : w.ownsRow lo 29 3 v l.length (rowF aF l)) : LF lo w.heap.size v l w := ⟨h, fun b hb => (h.lt b hb).2⟩
theorem LF.nil (lo hi : Nat) (w : World) : LF lo hi (.slice none 0 0) [] w := ⟨fown_nil aF w lo _, fun b hb => by simp [Value.ownBlock] at hb⟩
theorem LF.jl {lo hi : Nat} {v : Value} {l : List Flw} {w : World} (h : LF lo hi v l w) : JL w v l := JL.own h.own
theorem LF.sl {lo hi : Nat} {v : Value} {l : List Flw} {w : World} (h : LF lo hi v l w) : ∃ p c, v = .slice p l.length c ∧ (0 < l.length → ∃ g, p = some ⟨g, 0, none⟩ ∧ lo ≤ g ∧ g < hi) := by
  rcases h.own.2 with ⟨rfl, h0⟩ | ⟨g, cap, cur, rfl, hb, _⟩
  · exact ⟨none, 0, by rw [h0], fun hx => by omega⟩
  · exact ⟨_, cap, rfl, fun _ => ⟨g, rfl, hb, h.hi g rfl⟩⟩
theorem blkJ_far (w : World) (a : Addr) (u : Value) (k : Nat) (h : k ≠ a.block) : (w.setCell a u).heap[k]? = w.heap[k]? := by
  simp only [World.setCell, Array.getElem?_modify]
  rw [if_neg (by omega)]
theorem set3_far (w : World) (g o : Nat) (f : Flw) (b : Nat) (hb : b ≠ g) : (set3 w g o f).heap[b]? = w.heap[b]? := by
  have h1 : ∀ (w : World) (j : Nat) (u : Value), (w.setCell ⟨g, j, none⟩ u).heap[b]? = w.heap[b]? := fun w j u => blkJ_far w ⟨g, j, none⟩ u b hb
  unfold set3
  rw [h1, h1, h1]
theorem set3_same (w : World) (g o : Nat) (f : Flw) : (set3 w g o f).os = w.os ∧ (set3 w g o f).tape = w.tape ∧ (set3 w g o f).output = w.output ∧ (set3 w g o f).heap.size = w.heap.size := by
  have h := (((Below.refl 0 w).setCell (p := ⟨g, o, none⟩) (Nat.zero_le _) (.int .i64 f.day)).setCell (p := ⟨g, o + 1, none⟩) (Nat.zero_le _) (.float .f64 f.am)).setCell (p := ⟨g, o + 2, none⟩) (Nat.zero_le _) (.int .i64 f.cur)
  refine ⟨h.os, h.tape, h.output, ?_⟩
  unfold set3
  rw [World.size_setCell, World.size_setCell, World.size_setCell]
theorem LF.set {lo hi n c g : Nat} {l : List Flw} {w : World} (h : LF lo hi (.slice (some ⟨g, 0, none⟩) n c) l w) (k : Nat) (f : Flw) : LF lo hi (.slice (some ⟨g, 0, none⟩) n c) (l.set k f) (set3 w g (k * 3) f) := by
  have hn : l.length = n := by
    rcases h.own.2 with ⟨h1, _⟩ | ⟨_, _, _, h1, _⟩
    · cases h1
    · injection h1 with _ h1 _; exact h1.symm
  have ho := h.own
  rw [hn] at ho
  refine ⟨?_, h.hi⟩
  rw [List.length_set, hn]
  exact (fown_set ho k f).1
def wrF (i k : Nat) : Flw := ⟨1000 * (i : Int) + (k : Int), 0, 0⟩
def wrL (i k : Nat) (l : List Flw) : List Flw := (List.range k).map (wrF i) ++ l.drop k
theorem wrL_zero (i : Nat) (l : List Flw) : wrL i 0 l = l := by unfold wrL; simp
theorem wrL_len {i k : Nat} {l : List Flw} (h : k ≤ l.length) : (wrL i k l).length = l.length := by unfold wrL; simp; omega
theorem wrL_set {i k : Nat} {l : List Flw} (h : k < l.length) : (wrL i k l).set k (wrF i k) = wrL i (k + 1) l := by
  unfold wrL
  rw [List.set_append, if_neg (by simp), List.length_map, List.length_range, Nat.sub_self, List.drop_eq_getElem_cons h, List.set_cons_zero, List.range_succ, List.map_append, List.append_assoc]; rfl
theorem wrL_get {i k n : Nat} {l : List Flw} (h : k < n) : (wrL i n l).getD k flw0 = wrF i k := by
  unfold wrL
  rw [List.getD_eq_getElem?_getD, List.getElem?_append_left (by simpa using h), List.getElem?_map, List.getElem?_range h]; rfl
def mst (M : Nat → List Flw) (i k j : Nat) : List Flw := if j < i then wrL j (M j).length (M j) else if j = i then wrL j k (M j) else M j
theorem mst_zero (M : Nat → List Flw) (j : Nat) : mst M 0 0 j = M j := by
  unfold mst
  rw [if_neg (by omega)]
  split
  · exact wrL_zero _ _
  · rfl
theorem mst_next (M : Nat → List Flw) (i j : Nat) : mst M i (M i).length j = mst M (i + 1) 0 j := by
  unfold mst
  by_cases h1 : j < i
  · rw [if_pos h1, if_pos (by omega)]
  · rw [if_neg h1]
    by_cases h2 : j = i
    · subst h2; rw [if_pos rfl, if_pos (by omega)]
    · rw [if_neg h2, if_neg (by omega)]
      split
      · rw [wrL_zero]
      · rfl
theorem mst_at (M : Nat → List Flw) (i k : Nat) : mst M i k i = wrL i k (M i) := by unfold mst; rw [if_neg (by omega), if_pos rfl]
theorem mst_len {M : Nat → List Flw} {i k : Nat} (h : k ≤ (M i).length) (j : Nat) : (mst M i k j).length = (M j).length := by
  unfold mst
  split
  · exact wrL_len (Nat.le_refl _)
  · split
    · rename_i e; subst e; exact wrL_len h
    · rfl
theorem mst_five {M : Nat → List Flw} {j : Nat} (h : j < 5) : mst M 5 0 j = wrL j (M j).length (M j) := by unfold mst; rw [if_pos h]
structure Fv (A : Nat) (lo hi : Nat → Nat) (vs : Nat → Value) (gf : Nat) (M : Nat → List Flw) (w : World) : Prop where
  lf : ∀ j, j < 5 → LF (lo j) (hi j) (vs j) (M j) w
  row : ∀ j, j < 5 → w.cell? ⟨gf, j, none⟩ = some (vs j)
  sep : ∀ j k, j < 5 → k < 5 → j ≠ k → hi j ≤ lo k ∨ hi k ≤ lo j
  bd : ∀ j, j < 5 → A ≤ lo j ∧ hi j ≤ gf
  lt : gf < w.heap.size
  up : A ≤ gf
theorem Fv.of {A gf : Nat} {lo hi : Nat → Nat} {vs : Nat → Value} {M M' : Nat → List Flw} {w : World} (h : Fv A lo hi vs gf M w) (hM : ∀ j, j < 5 → M' j = M j) : Fv A lo hi vs gf M' w := ⟨fun j hj => by rw [hM j hj]; exact h.lf j hj, h.row, h.sep, h.bd, h.lt, h.up⟩
theorem Fv.below {A gf : Nat} {lo hi : Nat → Nat} {vs : Nat → Value} {M : Nat → List Flw} {w w' : World} (h : Fv A lo hi vs gf M w) (hb : Below w.heap.size w w') : Fv A lo hi vs gf M w' :=
  ⟨fun j hj => (h.lf j hj).below (by have := h.bd j hj; have := h.lt; omega) hb, fun j hj => (hb.cell (p := ⟨gf, j, none⟩) h.lt).trans (h.row j hj), h.sep, h.bd, Nat.lt_of_lt_of_le h.lt hb.size, h.up⟩
theorem Fv.write {A gf i k n c g : Nat} {lo hi : Nat → Nat} {vs : Nat → Value} {M : Nat → List Flw} {w : World} (h : Fv A lo hi vs gf (mst M i k) w) (hi5 : i < 5) (hk : k < (M i).length) (hv : vs i = .slice (some ⟨g, 0, none⟩) n c) (hg : lo i ≤ g ∧ g < hi i) :
    Fv A lo hi vs gf (mst M i (k + 1)) (set3 w g (k * 3) (wrF i k)) ∧ Rng A (gf + 1) w (set3 w g (k * 3) (wrF i k)) := by
  obtain ⟨s1, s2, s3, s4⟩ := set3_same w g (k * 3) (wrF i k)
  have hbd := h.bd i hi5
  refine ⟨⟨fun j hj => ?_, fun j hj => ?_, h.sep, h.bd, by rw [s4]; exact h.lt, h.up⟩, ⟨s1, s2, s3, s4, fun b hb => set3_far _ _ _ _ _ (by omega)⟩⟩
  · by_cases e : j = i
    · subst e
      have hl := h.lf j hj
      rw [mst_at] at hl ⊢
      rw [hv] at hl ⊢
      have := hl.set k (wrF j k)
      rw [wrL_set hk] at this
      exact this
    · have e2 : mst M i (k + 1) j = mst M i k j := by unfold mst; rw [if_neg e, if_neg e]
      rw [e2]
      refine (h.lf j hj).keep fun b hb1 hb2 => set3_far _ _ _ _ _ ?_
      rcases h.sep j i hj hi5 e with h1 | h1 <;> omega
  · have : (set3 w g (k * 3) (wrF i k)).cell? ⟨gf, j, none⟩ = w.cell? ⟨gf, j, none⟩ := World.cell?_of_block (w := w) (set3_far _ _ _ _ _ (by show gf ≠ g; omega))
    rw [this]; exact h.row j hj
theorem Rng.trans {A Z : Nat} {w w' w'' : World} (h : Rng A Z w w') (k : Rng A Z w' w'') : Rng A Z w w'' := ⟨k.os.trans h.os, k.tape.trans h.tape, k.output.trans h.output, k.size.trans h.size, fun b hb => (k.out b hb).trans (h.out b hb)⟩
end Go.Proofs.YteglnchcnacjlaaGreat
namespace Go.Proofs.YteglnchcnacjlaaGreat
open Go.RowKit

theorem ref14Cur_any (n : Int) (w : World) :
    Calls Tryz.prog 60 #[.int .i64 n] w fun e w' => e = .returned (.bool (decide (1 ≤ n ∧ n ≤ 8))) ∧ w' = w := by
  by_cases h1 : 1 ≤ n <;> by_cases h2 : n ≤ 8
  all_goals
    first | rw [decide_eq_true (⟨h1, h2⟩ : 1 ≤ n ∧ n ≤ 8)] | rw [decide_eq_false (fun h : 1 ≤ n ∧ n ≤ 8 => by omega)]
    go_enter Tryz.func60, Tryz.ntmps60
    go_wp2
    go_ret
    exact ⟨rfl, rfl⟩
set_option maxRecDepth 20000 in
set_option maxHeartbeats 3200000 in
theorem ref14Check_any (l : List Flw) (p : Option Addr) (b off c N : Nat) (E K : Int) (w : World) (hl : JSrc aB w p b off l) (hN : l.length = N) (hc : N ≤ 9223372036854775807) (hf : FitJ l) (hE : ChkF l E K) :
    Calls Tryz.prog 30 #[.slice p N c] w fun e w' => e = .returned (.tuple #[.int .i64 E, .int .i64 K]) ∧ Below w.heap.size w w' := by
  have HN := hideS hN
  have HE := hideS hE
  have HQ := hideS hl
  have HF := hideS hf
  by_cases hm : 4096 < N
  · obtain ⟨rfl, rfl⟩ := chkF_unique hE (.many (by omega))
    clear hE hl hN hf
    go_enter Tryz.func30, Tryz.ntmps30
    go_wp2
    go_ret2
    exact ⟨rfl, Below.refl _ _⟩
  · have HP : Hid (0 < N → p = some ⟨b, off, none⟩) := fun h => hl.at_ (by omega)
    clear hE hl hN hf
    go_enter Tryz.func30, Tryz.ntmps30
    go_wp2_with fail
    go_loopw [4] (fun i wr => ∃ k : Nat, k ≤ N ∧ i = .int .i64 k ∧ Hid (∀ j < k, badF (l.getD j flw0) = 0) ∧ Hid (Below w.heap.size w wr)) (fun i _ => N - (intOf i).toNat)
    case atStart => exact ⟨0, Nat.zero_le _, rfl, fun j hj => by omega, Below.refl _ _⟩
    case round =>
      obtain ⟨k, hk, rfl, HFi, HB⟩ := hrel
      by_cases hlt : k < N
      · obtain rfl := HP.out (by omega)
        obtain ⟨c0, c1, c2⟩ := (HQ.out.below HB.out).cell k (by rw [HN.out]; exact hlt)
        have HFk := hideS (HF.out k)
        obtain ⟨F, hF⟩ : ∃ F, badF (l.getD k flw0) = F := ⟨_, rfl⟩
        have HFe := hideS hF
        have HFd : Hid ((if ¬ (0 ≤ (l.getD k flw0).day ∧ (l.getD k flw0).day ≤ 109572) then 51 else if finB (l.getD k flw0).am = false then 91 else if ¬ (1 ≤ (l.getD k flw0).cur ∧ (l.getD k flw0).cur ≤ 8) then 140 else 0) = F) := hF
        clear hF
        have HEK : Hid (F ≠ 0 → F = E ∧ (k : Int) = K) := fun hz => chkF_unique (.bad (by rw [HN.out]; omega) k (by rw [HN.out]; exact hlt) F HFe.out hz HFi.out) HE.out
        have HFi2 : Hid (F = 0 → ∀ j < k + 1, badF (l.getD j flw0) = 0) := fun hz j hj => by
          by_cases c : j < k
          · exact HFi.out j c
          · obtain rfl : j = k := by omega
            rw [HFe.out]; exact hz
        obtain ⟨q, hq⟩ : ∃ q, l.getD k flw0 = q := ⟨_, rfl⟩
        rw [hq] at c0 c1 c2 HFd HFk
        clear hq HFe
        obtain ⟨qd, qa, qc⟩ := q
        dsimp only [aB] at *
        have HNm := hideS fun wx => refNum_any (qa : Int) wx (by have := HFk.out; unfold U64; omega)
        have HCu := hideS fun wx => ref14Cur_any qc wx
        by_cases h1 : 0 ≤ qd
        · by_cases h2 : qd ≤ 109572
          · rw [if_neg (not_not_intro ⟨h1, h2⟩)] at HFd
            cases h3 : finB (qa : Int)
            · rw [h3] at HNm HFd
              have HF9 : F = 91 := HFd.out.symm
              have h9 := HEK.out (by rw [HF9]; decide)
              rw [HF9] at h9
              have HE9 := hideS h9
              clear HFd HF9 h9 h3 HEK HFi2
              go_wp2_with fail
              refine (HNm.out _).mono ?_
              rintro e w' ⟨rfl, rfl⟩
              go_wp2_with fail
              go_ret2
              obtain ⟨rfl, rfl⟩ := HE9.out
              exact ⟨rfl, HB.out⟩
            · rw [h3] at HNm HFd
              rw [if_neg (by simp)] at HFd
              by_cases h4 : 1 ≤ qc ∧ qc ≤ 8
              · rw [if_neg (not_not_intro h4)] at HFd
                rw [decide_eq_true h4] at HCu
                replace HFi2 := hideS (HFi2.out HFd.out.symm)
                clear HFd h3 h4 HEK
                go_wp2_with fail
                refine (HNm.out _).mono ?_
                rintro e w' ⟨rfl, rfl⟩
                go_wp2_with fail
                refine (HCu.out _).mono ?_
                rintro e w' ⟨rfl, rfl⟩
                go_wp2_with fail
                go_roundw
                case rel => exact ⟨k + 1, by omega, by simp, HFi2, HB⟩
                case measure => simp [intOf]; omega
              · rw [if_pos h4] at HFd
                rw [decide_eq_false h4] at HCu
                have HF9 : F = 140 := HFd.out.symm
                have h9 := HEK.out (by rw [HF9]; decide)
                rw [HF9] at h9
                have HE9 := hideS h9
                clear HFd HF9 h9 h3 h4 HEK HFi2
                go_wp2_with fail
                refine (HNm.out _).mono ?_
                rintro e w' ⟨rfl, rfl⟩
                go_wp2_with fail
                refine (HCu.out _).mono ?_
                rintro e w' ⟨rfl, rfl⟩
                go_wp2_with fail
                go_ret2
                obtain ⟨rfl, rfl⟩ := HE9.out
                exact ⟨rfl, HB.out⟩
          · rw [if_pos (fun h => h2 h.2)] at HFd
            have HF9 : F = 51 := HFd.out.symm
            have h9 := HEK.out (by rw [HF9]; decide)
            rw [HF9] at h9
            have HE9 := hideS h9
            clear HFd HF9 h9 HEK HFi2
            go_wp2_with fail
            go_ret2
            obtain ⟨rfl, rfl⟩ := HE9.out
            exact ⟨rfl, HB.out⟩
        · rw [if_pos (fun h => h1 h.1)] at HFd
          have HF9 : F = 51 := HFd.out.symm
          have h9 := HEK.out (by rw [HF9]; decide)
          rw [HF9] at h9
          have HE9 := hideS h9
          clear HFd HF9 h9 HEK HFi2
          go_wp2_with fail
          go_ret2
          obtain ⟨rfl, rfl⟩ := HE9.out
          exact ⟨rfl, HB.out⟩
      · obtain rfl : k = N := by omega
        have hEK : (0 : Int) = E ∧ (0 : Int) = K := chkF_unique (.fine (by rw [HN.out]; omega) (by rw [HN.out]; exact HFi.out)) HE.out
        have HEK := hideS hEK
        clear hEK
        go_wp2_with fail
        go_ret2
        obtain ⟨rfl, rfl⟩ := HEK.out
        exact ⟨rfl, HB.out⟩
end Go.Proofs.YteglnchcnacjlaaGreat
