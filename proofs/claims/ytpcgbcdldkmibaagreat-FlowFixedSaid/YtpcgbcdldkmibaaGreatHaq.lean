/- Rows of ints of one's own. The contract of the document's Dates. The contract of sched's between: the points that lie inside. The contract of sched's between, forth. The contract of sched's between, back. The contract of sched's between. Rows of periods of one's own. -/
import Derived.Test.YtpcgbcdldkmibaaGreatHal
import Derived.Test.YtpcgbcdldkmibaaGreatRows
import Derived.Laws.AppendOwnNone
import Derived.OwnWalk
import Derived.WalkKit
import Derived.Handy
import Derived.Test.YtpcgbcdldkmibaaGreatHao
import Derived.WalkMore
namespace Go.Proofs.YtpcgbcdldkmibaaGreat
open Go.RowKit

def iV (x : Int) : Value := .int .i64 x
theorem info_int : (Tryz.prog.info? 3).map (fun i => (i.zero, i.size, i.bytes)) = some (some (.int .i64 0), 1, 8) := by kernel_rfl
structure ISrc (w : World) (p : Option Addr) (b off : Nat) (xs : List Int) : Prop where
  at_ : 0 < xs.length → p = some ⟨b, off, none⟩
  lt : 0 < xs.length → b < w.heap.size
  cell : ∀ j, j < xs.length → w.cell? ⟨b, off + j, none⟩ = some (.int .i64 (xs.getD j 0))
theorem ISrc.below {w w' : World} {p : Option Addr} {b off : Nat} {xs : List Int} (h : ISrc w p b off xs) (hb : Below w.heap.size w w') : ISrc w' p b off xs :=
  ⟨h.at_, fun hx => Nat.lt_of_lt_of_le (h.lt hx) hb.size, fun j hj => (hb.cell (p := ⟨b, off + j, none⟩) (h.lt (by omega))).trans (h.cell j hj)⟩
theorem iown_src {w : World} {base n : Nat} {v : Value} {xs : List Int} (h : w.ownsRow base 3 1 v n (xs.map iV)) (hn : xs.length = n) :
    ∃ p g c, v = .slice p n c ∧ ISrc w p g 0 xs ∧ base ≤ g ∧ n ≤ c ∧ c ≤ maxLen := by
  rcases h.2 with ⟨rfl, rfl⟩ | ⟨g, cap, cur, rfl, hg, hh, hnc, hcm, hsz, htk⟩
  · exact ⟨none, base, 0, rfl, ⟨fun h => by omega, fun h => by omega, fun i hi => by omega⟩, Nat.le_refl _, Nat.le_refl _, Nat.zero_le _⟩
  · refine ⟨_, g, cap, rfl, ⟨fun _ => rfl, fun _ => (Array.getElem?_eq_some_iff.1 hh).1, fun i hi => ?_⟩, hg, hnc, hcm⟩
    rw [Nat.zero_add, World.ownsRow.cellAt h i (by omega), List.getElem?_map, List.getD_eq_getElem?_getD, List.getElem?_eq_getElem hi]; rfl
theorem iown_nil (w : World) (base : Nat) : w.ownsRow base 3 1 (.slice none 0 0) 0 (([] : List Int).map iV) := ⟨rfl, Or.inl ⟨rfl, rfl⟩⟩
theorem iown_below {w w' : World} {base n : Nat} {v : Value} {xs : List Int} (h : w.ownsRow base 3 1 v n (xs.map iV)) (hb : Below w.heap.size w w') : w'.ownsRow base 3 1 v n (xs.map iV) := by
  refine ⟨h.1, ?_⟩
  rcases h.2 with hn | ⟨g, cap, cur, rfl, hg, hgg, rest⟩
  · exact .inl hn
  · exact .inr ⟨g, cap, cur, rfl, hg, by rw [hb.block g (Array.getElem?_eq_some_iff.1 hgg).1]; exact hgg, rest⟩
theorem iown_one (w : World) (x : Int) : (w.alloc (.cells #[.int .i64 x] 3)).ownsRow w.heap.size 3 1 (.slice (some ⟨w.heap.size, 0, none⟩) 1 1) 1 ([x].map iV) :=
  ⟨rfl, .inr ⟨w.heap.size, 1, #[.int .i64 x], rfl, Nat.le_refl _, heap_alloc_new w _, Nat.le_refl _, by unfold maxLen; omega, rfl, rfl⟩⟩
theorem igrown_below {w w' : World} {v : Value} {B n : Nat} {xs : List Value} (ho : w.ownsRow B 3 1 v n xs) (hg : w.grownBy w' v.ownBlock) (hB : B ≤ w.heap.size) : Below B w w' :=
  (Below.refl B w).grown hg hB (fun k hk => by
    rcases ho.2 with ⟨rfl, _⟩ | ⟨g, cap, cur, rfl, hbg, _⟩
    · cases hk
    · obtain rfl : g = k := by simpa [Value.ownBlock] using hk
      exact hbg)
theorem wpList_append_int (w : World) {ops : Array Oper} {rest : List Oper} {o : Oper} {a : Act} {Q : Exit → Act → World → Prop} (hgd : o.guard = none) (s x : Operand)
    (ho : o.op = .call { callee := .builtin .append, args := #[s, x], argTypes := #[116, 116] })
    (base : Nat) (v : Value) (n : Nat) (xs : List Int) (hs : a.eval s = v) (hown : w.ownsRow base 3 1 v n (xs.map iV))
    (g : Nat) (z : Int) (hx : a.eval x = .slice (some ⟨g, 0, none⟩) 1 1) (hc : w.cell? ⟨g, 0, none⟩ = some (.int .i64 z)) (hn : n ≤ 100000) (hbase : base ≤ w.heap.size)
    (h : ∀ v' w', w'.ownsRow base 3 1 v' (n + 1) ((xs ++ [z]).map iV) → w.grownBy w' v.ownBlock → wpList Tryz.prog ops Q rest (a.put o.dst v') w') : wpList Tryz.prog ops Q (o :: rest) a w := by
  obtain ⟨i0, hi, hz0, hz1, hz2⟩ := info_parts info_int
  refine wpList_append_own w hgd s x 116 ho base 3 i0 (.int .i64 0) 1 8 Tryz.underlying116 hi hz0 hz1 hz2 rfl (by decide) v n (xs.map iV) hs hown ⟨g, 0, none⟩ 1 1 [iV z] hx rfl ?_ (fun u hu => by rw [List.mem_singleton] at hu; rw [hu]; rfl) (by unfold maxLen; omega) (by omega) hbase ?_
  · intro j u hj
    cases j with
    | zero =>
      have : iV z = u := Option.some.inj hj
      rw [← this, Addr.add_lit]
      exact hc
    | succ j => cases hj
  · intro v' w' h1 h2 _
    refine h v' w' ?_ h2
    rw [List.map_append]; exact h1
end Go.Proofs.YtpcgbcdldkmibaaGreat
namespace Go.Proofs.YtpcgbcdldkmibaaGreat
open Go.RowKit

set_option maxHeartbeats 1600000 in
theorem ref8Dates_bad (s : Spc) (W E : Int) (v : Value) (w : World) (hE : E ≠ 0) (HC : Hid (∀ wx, Below w.heap.size w wx → Calls Tryz.prog 112 #[.agg #[.int .i64 s.st, .int .i64 s.en, .int .i64 s.n, .int .i64 s.unit, .int .i64 s.stub, .int .i64 s.roll, .int .i64 s.conv, .int .i64 s.lag, .int .i64 W, v]] wx fun e w' => e = .returned (.int .i64 E) ∧ Below wx.heap.size wx w')) :
    Calls Tryz.prog 63 #[.agg #[.int .i64 s.st, .int .i64 s.en, .int .i64 s.n, .int .i64 s.unit, .int .i64 s.stub, .int .i64 s.roll, .int .i64 s.conv, .int .i64 s.lag, .int .i64 W, v]] w fun e w' => e = .returned (.tuple #[.slice none 0 0, .int .i64 E]) ∧ Below w.heap.size w w' := by
  have HB := hideS (SBox.zero w s W v).below
  obtain ⟨st, en, n, unit, stub, roll, conv, lag⟩ := s
  dsimp only at *
  have hE' : (E != 0) = true := bne_iff_ne.2 hE
  clear hE
  go_enter Tryz.func63, Tryz.ntmps63
  go_wp2_with (go_at_call 112; refine (HC.out _ HB.out).mono ?_; rintro e w1 ⟨rfl, hb1⟩)
  go_ret2
  exact ⟨rfl, HB.out.trans (hb1.mono HB.out.size)⟩

theorem SBox.stay {w wr w' : World} {s : Spc} {W : Int} {v : Value} {B : Nat} (h : SBox w s W v wr) (hb : Below B wr w') (hB : w.heap.size + 1 ≤ B) : SBox w s W v w' := Below.trans h (hb.mono hB)
theorem iown_mono {w : World} {B B' n : Nat} {v : Value} {xs : List Value} (h : w.ownsRow B 3 1 v n xs) (hB : B' ≤ B) : w.ownsRow B' 3 1 v n xs := by
  refine ⟨h.1, ?_⟩
  rcases h.2 with a | ⟨g, cap, cur, e, hg, rest⟩
  · exact .inl a
  · exact .inr ⟨g, cap, cur, e, Nat.le_trans hB hg, rest⟩
theorem ISrc.stay {w w' : World} {p : Option Addr} {b off B : Nat} {xs : List Int} (h : ISrc w p b off xs) (hb : Below B w w') (hB : 0 < xs.length → b < B) : ISrc w' p b off xs :=
  ⟨h.at_, fun hx => Nat.lt_of_lt_of_le (h.lt hx) hb.size, fun j hj => (hb.cell (p := ⟨b, off + j, none⟩) (hB (by omega))).trans (h.cell j hj)⟩
def DatO (s : Spc) (K : Nat) (w : World) (e : Ending) (w' : World) : Prop :=
  (1200 ≤ K ∧ e = .returned (.tuple #[.slice none 0 0, .int .i64 81])) ∨ (K < 1200 ∧ ∃ v, e = .returned (.tuple #[v, .int .i64 0]) ∧ w'.ownsRow w.heap.size 3 1 v (cutN s K + 2) ((datL s (cutN s K)).map iV))
structure DatH (s : Spc) (W : Int) (v : Value) (w : World) : Prop where
  chk : ∀ wx, Below w.heap.size w wx → Calls Tryz.prog 112 #[.agg #[.int .i64 s.st, .int .i64 s.en, .int .i64 s.n, .int .i64 s.unit, .int .i64 s.stub, .int .i64 s.roll, .int .i64 s.conv, .int .i64 s.lag, .int .i64 W, v]] wx fun e w' => e = .returned (.int .i64 0) ∧ Below wx.heap.size wx w'
  pt : ∀ a k wx, Calls Tryz.prog 113 #[.agg #[.int .i64 s.st, .int .i64 s.en, .int .i64 s.n, .int .i64 s.unit, .int .i64 s.stub, .int .i64 s.roll, .int .i64 s.conv, .int .i64 s.lag, .int .i64 W, v], .int .i64 a, .int .i64 k] wx fun e w' => e = .returned (.tuple #[.int .i64 ((ptO s a k).getD 0), .bool (ptO s a k).isSome]) ∧ Below wx.heap.size wx w'

theorem tail_cases {s : Spc} {K : Nat} (h : DatR s K) (t1 : 1 ≤ s.stub) (t2 : s.stub ≤ 4) : ∃ C, cutN s K = C ∧ C ≤ K ∧
    ((pkO s (K + 1) = none ∧ evenB s K = false) ∨ (∃ x, pkO s (K + 1) = some x ∧ (if s.stub ≤ 2 then x ≤ s.st else s.en ≤ x) ∧ ((x = othI s ∧ evenB s K = true) ∨ (x ≠ othI s ∧ evenB s K = false)))) ∧
    (((s.stub = 1 ∨ s.stub = 3) ∧ C = K) ∨ ((s.stub = 2 ∨ s.stub = 4) ∧ evenB s K = true ∧ C = K) ∨ ((s.stub = 2 ∨ s.stub = 4) ∧ evenB s K = false ∧ K = 0 ∧ C = 0) ∨ ((s.stub = 2 ∨ s.stub = 4) ∧ evenB s K = false ∧ 0 < K ∧ K = C + 1)) := by
  refine ⟨_, rfl, cut_le _ _, ?_, ?_⟩
  · have ho := h.out
    unfold evenB
    cases hp : pkO s (K + 1) with
    | none => exact Or.inl ⟨rfl, rfl⟩
    | some x =>
      rw [hp] at ho
      refine Or.inr ⟨x, rfl, ?_, ?_⟩
      · have h2 : (if s.stub ≤ 2 then decide (x ≤ s.st) else decide (s.en ≤ x)) = true := ho
        by_cases hs : s.stub ≤ 2
        · rw [if_pos hs] at h2 ⊢; exact of_decide_eq_true h2
        · rw [if_neg hs] at h2 ⊢; exact of_decide_eq_true h2
      · by_cases e : x = othI s
        · exact Or.inl ⟨e, by rw [e]; exact beq_self_eq_true _⟩
        · exact Or.inr ⟨e, beq_eq_false_iff_ne.2 (fun a => e (Option.some.inj a))⟩
  · unfold cutN
    by_cases hs : s.stub = 2 ∨ s.stub = 4
    · cases he : evenB s K
      · by_cases hK : 0 < K
        · rw [if_pos ⟨hs, rfl, hK⟩]; exact Or.inr (Or.inr (Or.inr ⟨hs, rfl, hK, by omega⟩))
        · rw [if_neg (fun a => hK a.2.2)]; exact Or.inr (Or.inr (Or.inl ⟨hs, rfl, by omega, by omega⟩))
      · rw [if_neg (fun a => Bool.noConfusion a.2.1)]; exact Or.inr (Or.inl ⟨hs, rfl, rfl⟩)
    · rw [if_neg (fun a => hs a.1)]; exact Or.inl ⟨by omega, rfl⟩

set_option maxRecDepth 10000 in
set_option maxHeartbeats 16000000 in
theorem ref8Dates_back (s : Spc) (W : Int) (v : Value) (K : Nat) (w : World) (h : SpcOk s) (hK : DatR s K) (H : Hid (DatH s W v w)) (hb : s.stub ≤ 2) :
    Calls Tryz.prog 63 #[.agg #[.int .i64 s.st, .int .i64 s.en, .int .i64 s.n, .int .i64 s.unit, .int .i64 s.stub, .int .i64 s.roll, .int .i64 s.conv, .int .i64 s.lag, .int .i64 W, v]] w fun e w' => DatO s K w e w' ∧ Below w.heap.size w w' := by
  have HB0 := hideS (SBox.zero w s W v)
  have HKr := hideS hK
  have HT := hideS (tail_cases hK h.t1 h.t2)
  have t1 := h.t1
  have hpk : ∀ k : Nat, pkO s k = ptO s s.en (-(k : Int)) := fun k => by
    unfold pkO ancI sgnI
    rw [if_pos hb, if_pos hb, show (k : Int) * -1 = -(k : Int) by omega]
  have HPk := hideS hpk
  have HIn : Hid (∀ j < K, ∃ x, pkO s (j + 1) = some x ∧ s.st < x) := fun j hj => by
    obtain ⟨x, e, hx⟩ := inn_some hK hj
    rw [if_pos hb] at hx
    exact ⟨x, e, hx⟩
  have hoth : othI s = s.st := by unfold othI; rw [if_pos hb]
  have HOth := hideS hoth
  have HCut : Hid (∀ C i, C ≤ K → i < C → (innL s K).getD (C - 1 - i) 0 = cutI s C i) := fun C i hC hi => by
    have := inn_cut (s := s) hC hi
    rw [if_pos hb] at this
    exact this
  have HS2 := hideS hb
  clear hK h hpk hoth
  obtain ⟨s', hs'⟩ : ∃ s', s' = s := ⟨s, rfl⟩
  rw [← hs'] at HKr HT HPk HIn HOth HCut HS2
  have HSp := hideS hs'
  have HPost : Hid (∀ e w', DatO s' K w e w' → DatO s K w e w') := fun e w' a => by rw [← hs']; exact a
  have hstub : s'.stub = s.stub ∧ s'.st = s.st := by rw [hs']; exact ⟨rfl, rfl⟩
  have HStub := hideS hstub
  have HEn : Hid (s'.en = s.en) := by show _ = _; rw [hs']
  clear hs' hstub
  have HPt : Hid (∀ (k : Nat) (o : Option Int) wx, pkO s' k = o → Calls Tryz.prog 113 #[.agg #[.int .i64 s.st, .int .i64 s.en, .int .i64 s.n, .int .i64 s.unit, .int .i64 s.stub, .int .i64 s.roll, .int .i64 s.conv, .int .i64 s.lag, .int .i64 W, v], .int .i64 s.en, .int .i64 (-(k : Int))] wx fun e w' => e = .returned (.tuple #[.int .i64 (o.getD 0), .bool o.isSome]) ∧ Below wx.heap.size wx w') := fun k o wx ho => by
    have := H.out.pt s.en (-(k : Int)) wx
    rw [HPk.out] at ho
    rw [HSp.out] at ho
    rw [ho] at this
    exact this
  have HCh := hideS H.out.chk
  refine Calls.mono (R := fun e w' => DatO s' K w e w' ∧ Below w.heap.size w w') ?_ (fun e w' ⟨a, b⟩ => ⟨HPost.out e w' a, b⟩)
  clear HPost HSp HPk H
  obtain ⟨st, en, n, unit, stub, roll, conv, lag⟩ := s
  dsimp only at *
  go_enter Tryz.func63, Tryz.ntmps63
  go_wp2_with fail
  refine (HCh.out _ HB0.out.below).mono ?_
  rintro e w1 ⟨rfl, hb1⟩
  have HB1 := hideS (HB0.out.step hb1)
  clear hb1 HB0
  obtain ⟨c0, c1, c2, c3, c4, c5, c6, c7, c8, c9⟩ := HB1.out.cells
  go_wp2_with fail
  clear c0 c1 c2 c3 c4 c5 c6 c7 c8 c9
  have hK0 : ∀ q : Nat, q ≤ 1200 → True := fun _ _ => trivial
  clear hK0
  go_loopw [9, 11] (fun vi i wr => ∃ (k : Nat) (I : Int) (q : Option Addr) (c : Nat), k ≤ K ∧ k < 1200 ∧ 1 ≤ I ∧ I ≤ 1200 ∧ i = .int .i64 I ∧ vi = .slice q k c ∧ Hid (I = (k : Int) + 1) ∧ Hid (wr.ownsRow (w.heap.size + 1) 3 1 (.slice q k c) k ((innL s' k).map iV)) ∧ Hid (SBox w ⟨st, en, n, unit, stub, roll, conv, lag⟩ W v wr)) (fun _ i _ => (1201 - intOf i).toNat)
  case atStart => exact ⟨0, 1, none, 0, by omega, by omega, by omega, by omega, rfl, rfl, rfl, iown_nil _ _, HB1⟩
  case round =>
    clear HB1
    obtain ⟨k, I, q, c, hk, hk2, I0, I1, rfl, rfl, HI, HO, HB⟩ := hrel
    obtain ⟨c0, c1, c2, c3, c4, c5, c6, c7, c8, c9⟩ := HB.out.cells
    obtain ⟨J, hJ⟩ : ∃ J : Int, I * -1 = J := ⟨_, rfl⟩
    have HJ : Hid (J = -((k + 1 : Nat) : Int)) := by have := HI.out; show _ = _; omega
    have hJ2 : -I = J := by omega
    by_cases hlt : k < K
    · obtain ⟨x, hx, hxs⟩ := HIn.out k hlt
      have HP := hideS (fun wx => HPt.out (k + 1) (some x) wx hx)
      rw [← HJ.out] at HP
      dsimp only [Option.getD, Option.isSome] at HP
      have hxs' : ¬ x ≤ st := by have := HStub.out.2; omega
      have HNx : Hid (innL s' (k + 1) = innL s' k ++ [x]) := by show _ = _; rw [inn_succ, hx]; rfl
      have hsz := HB.out.below.size
      have hb0 : stub ≤ 2 := hb
      by_cases hmany : k + 1 < 1200
      · have hlen : ¬ (1200 : Int) < ((k + 1 : Nat) : Int) + 1 := by omega
        go_wp2_with (first | (go_at_call 113; refine (HP.out _).mono ?_; rintro e w2 ⟨rfl, hb2⟩; have HB2 := hideS (HB.out.step hb2); have HO2 := hideS (iown_below HO.out hb2); have HOa : Hid (∀ o, (w2.alloc o).ownsRow (w.heap.size + 1) 3 1 (.slice q k c) k ((innL s' k).map iV)) := fun o => iown_below HO2.out ((Below.refl _ w2).alloc (Nat.le_refl _) o); have HBa : Hid (∀ o, SBox w ⟨st, en, n, unit, stub, roll, conv, lag⟩ W v (w2.alloc o)) := fun o => HB2.out.step ((Below.refl _ w2).alloc (Nat.le_refl _) o); have hz2 : Hid (∀ o, w.heap.size + 1 ≤ (w2.alloc o).heap.size) := fun o => by have := Below.size (HBa.out o); simp at this ⊢; omega) | (at_builtin; refine wpList_append_int _ rfl (.tmp 69) (.tmp 71) rfl (w.heap.size + 1) (.slice q k c) k (innL s' k) rfl (HOa.out _) w2.heap.size x rfl (by simp) (by omega) (hz2.out _) ?_; intro v5 w5 ho5 hg5; have HB5 := hideS ((HBa.out _).stay (igrown_below (HOa.out _) hg5 (hz2.out _)) (Nat.le_refl _)); rw [← HNx.out] at ho5; obtain ⟨q5, g5, k5, hv5, _, _, _, hm5⟩ := iown_src ho5 (inn_len _ _); subst hv5; have HO5 := hideS ho5; clear ho5 hg5))
        go_roundw
        case rel => exact ⟨k + 1, I + 1, q5, k5, by omega, by omega, by omega, by have := HI.out; omega, rfl, rfl, by have := HI.out; show _ = _; omega, HO5, HB5⟩
        case measure => simp [intOf]; omega
      · have hlen : (1200 : Int) < ((k + 1 : Nat) : Int) + 1 := by omega
        have HKm : Hid (1200 ≤ K) := by show _ ≤ _; omega
        go_wp2_with (first | (go_at_call 113; refine (HP.out _).mono ?_; rintro e w2 ⟨rfl, hb2⟩; have HB2 := hideS (HB.out.step hb2); have HO2 := hideS (iown_below HO.out hb2); have HOa : Hid (∀ o, (w2.alloc o).ownsRow (w.heap.size + 1) 3 1 (.slice q k c) k ((innL s' k).map iV)) := fun o => iown_below HO2.out ((Below.refl _ w2).alloc (Nat.le_refl _) o); have HBa : Hid (∀ o, SBox w ⟨st, en, n, unit, stub, roll, conv, lag⟩ W v (w2.alloc o)) := fun o => HB2.out.step ((Below.refl _ w2).alloc (Nat.le_refl _) o); have hz2 : Hid (∀ o, w.heap.size + 1 ≤ (w2.alloc o).heap.size) := fun o => by have := Below.size (HBa.out o); simp at this ⊢; omega) | (at_builtin; refine wpList_append_int _ rfl (.tmp 69) (.tmp 71) rfl (w.heap.size + 1) (.slice q k c) k (innL s' k) rfl (HOa.out _) w2.heap.size x rfl (by simp) (by omega) (hz2.out _) ?_; intro v5 w5 ho5 hg5; have HB5 := hideS ((HBa.out _).stay (igrown_below (HOa.out _) hg5 (hz2.out _)) (Nat.le_refl _)); rw [← HNx.out] at ho5; obtain ⟨q5, g5, k5, hv5, _, _, _, hm5⟩ := iown_src ho5 (inn_len _ _); subst hv5; have HO5 := hideS ho5; clear ho5 hg5))
        go_ret2
        exact ⟨Or.inl ⟨HKm.out, rfl⟩, HB5.out.below⟩
    · obtain rfl : k = K := by omega
      obtain ⟨C, hC, hCK, hend, hst⟩ := HT.out
      have HCe := hideS hC
      have hs1 := HStub.out.1
      have ho1 := HOth.out
      have ho2 := HStub.out.2
      rw [hs1] at hst hend
      rw [ho1, ho2] at hend
      clear hC hs1 ho1 ho2
      obtain ⟨p6, g6, c6, hv6, hsrc6, hlo6, hnc6, hcm6⟩ := iown_src HO.out (inn_len _ _)
      have e6 : q = p6 ∧ c = c6 := by cases hv6; exact ⟨rfl, rfl⟩
      obtain ⟨rfl, rfl⟩ := e6
      have hcl : c ≤ 9223372036854775807 := by unfold maxLen at hcm6; omega
      have HSr := hideS hsrc6
      clear hv6 hsrc6 hcm6 HIn HO
      have hk3 : k ≤ 1199 := by omega
      have hb0 : stub ≤ 2 := hb
      generalize evenB s' k = ev at hend hst
      have hcase : (∃ o b, pkO s' (k + 1) = o ∧ ((o = none ∧ b = true) ∨ (∃ x, o = some x ∧ b = false ∧ x ≤ st)) ∧ ev = (o == some st)) := by
        rcases hend with ⟨a, a2⟩ | ⟨x, a, a2, a3⟩
        · exact ⟨none, true, a, Or.inl ⟨rfl, rfl⟩, by rw [a2]; rfl⟩
        · rw [if_pos hb0] at a2
          refine ⟨some x, false, a, Or.inr ⟨x, rfl, rfl, a2⟩, ?_⟩
          rcases a3 with ⟨e, e2⟩ | ⟨e, e2⟩
          · rw [e2, e]; exact (beq_self_eq_true _).symm
          · rw [e2]; exact (beq_eq_false_iff_ne.2 (fun f => e (Option.some.inj f))).symm
      clear hend
      obtain ⟨o, bn, ho, hob, hev⟩ := hcase
      have HP := hideS (fun wx => HPt.out (k + 1) o wx ho)
      rw [← HJ.out] at HP
      clear ho HJ HI HPt
      have hst' : (stub = 1 ∧ C = k) ∨ (stub = 2 ∧ ev = true ∧ C = k) ∨ (stub = 2 ∧ ev = false ∧ ¬ (0 : Int) < k ∧ C = k) ∨ (stub = 2 ∧ ev = false ∧ (0 : Int) < k ∧ k = C + 1) := by
        rcases hst with ⟨a, a2⟩ | ⟨a, a2, a3⟩ | ⟨a, a2, a3, a4⟩ | ⟨a, a2, a3, a4⟩
        · exact Or.inl ⟨by omega, a2⟩
        · exact Or.inr (Or.inl ⟨by omega, a2, a3⟩)
        · exact Or.inr (Or.inr (Or.inl ⟨by omega, a2, by omega, by omega⟩))
        · exact Or.inr (Or.inr (Or.inr ⟨by omega, a2, by omega, a4⟩))
      clear hst
      have hob' : (o = none ∧ ev = false) ∨ (o = some st ∧ ev = true) ∨ (∃ x, o = some x ∧ x ≤ st ∧ (x == st) = false ∧ ev = false) := by
        rcases hob with ⟨a, _⟩ | ⟨x, a, _, a2⟩
        · exact Or.inl ⟨a, by rw [hev, a]; rfl⟩
        · by_cases e : x = st
          · exact Or.inr (Or.inl ⟨by rw [a, e], by rw [hev, a, e]; exact beq_self_eq_true _⟩)
          · refine Or.inr (Or.inr ⟨x, a, a2, beq_eq_false_iff_ne.2 e, ?_⟩)
            rw [hev, a]; exact beq_eq_false_iff_ne.2 (fun f => e (Option.some.inj f))
      clear hob hev
      have HTail : Hid (∀ (wE : World) (b0 : Nat) (v2 : Value), wE.ownsRow b0 3 1 v2 (C + 2) ((datL s' C).map iV) → w.heap.size ≤ b0 → DatO s' k w (.returned (.tuple #[v2, .int .i64 0])) wE) := fun wE b0 v2 ho hb => Or.inr ⟨by omega, _, rfl, by rw [HCe.out]; exact iown_mono ho hb⟩
      have HC2 : Hid (∀ m, m < C → (innL s' k).getD (C - 1 - m) 0 = cutI s' C m) := fun m hm => HCut.out C m hCK hm
      have HD0 : Hid ([st] = datP s' C 0) := by show _ = _; unfold datP; rw [HStub.out.2]; rfl
      have HD1 : Hid (datP s' C C ++ [en] = datL s' C) := by show _ = _; rw [← datP_end, HEn.out]
      have hsz := HB.out.below.size
      have HG6 : Hid (0 < k → g6 < wr.heap.size) := fun h => HSr.out.lt (by rw [inn_len]; exact h)
      clear HCe HCut HStub HEn HOth HS2 HKr c0 c1 c2 c3 c4 c5 c6 c7 c8 c9 hlo6
      rcases hst' with ⟨rfl, hCk⟩ | ⟨rfl, hev, hCk⟩ | ⟨rfl, hev, hk0, hCk⟩ | ⟨rfl, hev, hk0, hCk⟩
      all_goals rcases hob' with ⟨rfl, he2⟩ | ⟨rfl, he2⟩ | ⟨x, rfl, hx, hx2, he2⟩
      all_goals first | (exfalso; rw [hev] at he2; exact Bool.noConfusion he2) | skip
      all_goals
        dsimp only [Option.getD, Option.isSome] at HP
        subst hCk
        obtain ⟨c0, c1, c2, c3, c4, c5, c6, c7, c8, c9⟩ := HB.out.cells
        go_wp2_with (go_at_call 113; refine (HP.out _).mono ?_; rintro e w2 ⟨rfl, hb2⟩; have HB2 := hideS (HB.out.step hb2); have HR2 := hideS (HSr.out.below hb2); have hz2 := hb2.size; clear hb2 c0 c1 c2 c3 c4 c5 c6 c7 c8 c9; obtain ⟨c0, c1, c2, c3, c4, c5, c6, c7, c8, c9⟩ := HB2.out.cells)
        clear c0 c1 c2 c3 c4 c5 c6 c7 c8 c9
        try clear hk0
        have HO0 := hideS (iown_one w2 st)
        rw [HD0.out] at HO0
        have HB3 := hideS (HB2.out.step ((Below.refl _ w2).alloc (Nat.le_refl _) (.cells #[.int .i64 st] 3)))
        have HR3 := hideS (HR2.out.below ((Below.refl _ w2).alloc (Nat.le_refl _) (.cells #[.int .i64 st] 3)))
        have HZ3 : Hid (w2.heap.size ≤ (w2.alloc (.cells #[.int .i64 st] 3)).heap.size) := by show _ ≤ _; simp
        have hw2 : w.heap.size + 1 ≤ w2.heap.size := by have := Below.size HB2.out; simp at this; omega
        have HG2 := hideS (fun h => Nat.lt_of_lt_of_le (HG6.out h) hz2)
        clear HG6 hz2
        clear HB2 HR2 HP HD0
        go_loopw [14, 15] (fun vo i wx => ∃ (m : Nat) (q2 : Option Addr) (k2 : Nat), m ≤ C ∧ i = .int .i64 m ∧ vo = .slice q2 (m + 1) k2 ∧ Hid (wx.ownsRow w2.heap.size 3 1 (.slice q2 (m + 1) k2) (m + 1) ((datP s' C m).map iV)) ∧ Hid (SBox w ⟨st, en, n, unit, _, roll, conv, lag⟩ W v wx) ∧ Hid (ISrc wx q g6 0 (innL s' _)) ∧ Hid (w2.heap.size ≤ wx.heap.size)) (fun _ i _ => C - (intOf i).toNat)
        case atStart => exact ⟨0, _, 1, by omega, rfl, rfl, HO0, HB3, HR3, HZ3⟩
        case round =>
          clear HO0 HB3 HR3 HZ3
          obtain ⟨m, q2, k2, hm, rfl, rfl, HO2, HB2, HR2, HZ2⟩ := hrel
          obtain ⟨c0, c1, c2, c3, c4, c5, c6, c7, c8, c9⟩ := HB2.out.cells
          have HOa : Hid (∀ o, (wr.alloc o).ownsRow w2.heap.size 3 1 (.slice q2 (m + 1) k2) (m + 1) ((datP s' C m).map iV)) := fun o => iown_below HO2.out ((Below.refl _ wr).alloc (Nat.le_refl _) o)
          have HBa := hideS (fun o => HB2.out.step ((Below.refl _ wr).alloc (Nat.le_refl _) o))
          have HRa := hideS (fun o => HR2.out.below ((Below.refl _ wr).alloc (Nat.le_refl _) o))
          have HZa : Hid (∀ o, w2.heap.size ≤ (wr.alloc o).heap.size) := fun o => by have := HZ2.out; simp; omega
          by_cases hlt : m < C
          · try (exfalso; omega)
            all_goals
              have hq := HR2.out.at_ (by rw [inn_len]; omega)
              subst hq
              have hcell := HR2.out.cell (C - 1 - m) (by rw [inn_len]; omega)
              rw [HC2.out m hlt, Nat.zero_add] at hcell
              obtain ⟨j, hj⟩ : ∃ j : Nat, C - 1 - m = j := ⟨_, rfl⟩
              rw [hj] at hcell
              have hidx : (C : Int) - 1 - (m : Int) = (j : Int) := by omega
              have hjC : (j : Int) < (C : Int) := by omega
              have HDn : Hid (datP s' C m ++ [cutI s' C m] = datP s' C (m + 1)) := (datP_succ _ _ _).symm
              generalize cutI s' C m = z at *
              go_wp2_with (at_builtin; refine wpList_append_int _ rfl (.tmp 109) (.tmp 118) rfl w2.heap.size (.slice q2 (m + 1) k2) (m + 1) (datP s' C m) rfl (HOa.out _) wr.heap.size z rfl (by simp) (by omega) (HZa.out _) ?_; intro v5 w5 ho5 hg5; have hbl := igrown_below (HOa.out _) hg5 (HZa.out _); have HB5 := hideS ((HBa.out _).stay hbl hw2); have HR5 := hideS ((HRa.out _).stay hbl (fun h => HG2.out (by rw [inn_len] at h; exact h))); have HZ5 := hideS (Nat.le_trans (HZa.out _) hbl.size); rw [HDn.out] at ho5; obtain ⟨q5, g5, k5, hv5, _, _, _, hm5⟩ := iown_src ho5 (datP_len _ _ _); subst hv5; have HO5 := hideS ho5; clear ho5 hg5 hbl)
              go_roundw
              case rel => exact ⟨m + 1, q5, k5, by omega, by go_num, rfl, HO5, HB5, HR5, HZ5⟩
              case measure => simp [intOf]; omega
          · obtain rfl : m = C := by omega
            have hge : ¬ (m : Int) < (m : Int) := by omega
            go_wp2_with (at_builtin; refine wpList_append_int _ rfl (.tmp 127) (.tmp 130) rfl w2.heap.size (.slice q2 (m + 1) k2) (m + 1) (datP s' m m) rfl (HOa.out _) wr.heap.size en rfl (by simp) (by omega) (HZa.out _) ?_; intro v5 w5 ho5 hg5; have hbl := igrown_below (HOa.out _) hg5 (HZa.out _); have HB5 := hideS ((HBa.out _).stay hbl hw2); rw [HD1.out] at ho5; have HO5 := hideS ho5; clear ho5 hg5 hbl)
            go_ret2
            exact ⟨HTail.out _ w2.heap.size _ HO5.out (by omega), HB5.out.below⟩
end Go.Proofs.YtpcgbcdldkmibaaGreat
namespace Go.Proofs.YtpcgbcdldkmibaaGreat
open Go.RowKit

def BetG (il : Nat → List Int) (ev : Bool) (K : Nat) (w : World) (e : Ending) (w' : World) : Prop :=
  (1200 ≤ K ∧ e = .returned (.tuple #[.slice none 0 0, .bool false, .int .i64 81])) ∨ (K < 1200 ∧ ∃ q c, e = .returned (.tuple #[.slice q K c, .bool ev, .int .i64 0]) ∧ w'.ownsRow (w.heap.size + 1) 3 1 (.slice q K c) K ((il K).map iV))

structure BetH (s : Spc) (W : Int) (v : Value) (K : Nat) (pk : Nat → Option Int) (il : Nat → List Int) (ev : Bool) (A O G : Int) : Prop where
  ins : ∀ j < K, ∃ x, pk (j + 1) = some x ∧ s.st < x ∧ x < s.en
  out : (pk (K + 1) = none ∧ ev = false) ∨ ∃ x, pk (K + 1) = some x ∧ (decide (s.st < x) = false ∨ (decide (s.st < x) = true ∧ decide (x < s.en) = false)) ∧ ev = (x == O)
  pt : ∀ (k : Nat) (J : Int) (o : Option Int) wx, k ≤ 1200 → J = (k : Int) * G → pk k = o → Calls Tryz.prog 149 #[.agg #[.int .i64 s.st, .int .i64 s.en, .int .i64 s.n, .int .i64 s.unit, .int .i64 s.stub, .int .i64 s.roll, .int .i64 s.conv, .int .i64 s.lag, .int .i64 W, v], .int .i64 A, .int .i64 J] wx fun e w' => e = .returned (.tuple #[.int .i64 (o.getD 0), .bool o.isSome]) ∧ Below wx.heap.size wx w'
  zero : il 0 = []
  succ : ∀ k, il (k + 1) = il k ++ [(pk (k + 1)).getD 0]
  len : ∀ k, (il k).length = k
  sg : G = 1 ∨ G = -1

end Go.Proofs.YtpcgbcdldkmibaaGreat
namespace Go.Proofs.YtpcgbcdldkmibaaGreat
open Go.RowKit

set_option maxRecDepth 10000 in
set_option maxHeartbeats 16000000 in
theorem between_f (s : Spc) (W : Int) (v : Value) (K : Nat) (pk : Nat → Option Int) (il : Nat → List Int) (ev : Bool) (A O G : Int) (w : World) (t1 : 1 ≤ s.stub) (t2 : s.stub ≤ 4)
    (hbk : false = decide (s.stub ≤ 2)) (hA : A = s.st) (hO : O = s.en) (hG : G = 1) (H : Hid (BetH s W v K pk il ev A O G)) :
    Calls Tryz.prog 102 #[.agg #[.int .i64 s.st, .int .i64 s.en, .int .i64 s.n, .int .i64 s.unit, .int .i64 s.stub, .int .i64 s.roll, .int .i64 s.conv, .int .i64 s.lag, .int .i64 W, v]] w fun e w' => BetG il ev K w e w' ∧ Below w.heap.size w w' := by
  have HB0 := hideS (SBox.zero w s W v)
  have HSF := hideS (fun wx => stubF_any s W v wx t1 t2)
  rw [← hbk] at HSF
  have HIn := hideS H.out.ins
  have HOut := hideS H.out.out
  have HPt := hideS H.out.pt
  have HZ := hideS H.out.zero
  have HS := hideS H.out.succ
  have HL := hideS H.out.len
  have HG := hideS H.out.sg
  clear H t1 t2 hbk
  obtain ⟨st, en, n, unit, stub, roll, conv, lag⟩ := s
  dsimp only at *
  have HBd := hideS (HB0.out.step (Below.refl _ _).drew)
  have hA' := hA.symm
  have hO' := hO.symm
  subst hA' hO' hG
  clear hA hO
  go_enter Tryz.func102, Tryz.ntmps102
  go_wp2_with fail
  go_step3
  go_wp2_with fail
  go_region
  go_wp2_with fail
  refine (HSF.out _).mono ?_
  rintro e w1 ⟨rfl, hb1⟩
  have HB1 := hideS (HBd.out.step hb1)
  clear hb1 HB0 HBd
  obtain ⟨c0, c1, c2, c3, c4, c5, c6, c7, c8, c9⟩ := HB1.out.cells
  go_wp2_with fail
  go_step3
  go_wp2_with fail
  have HB2 := hideS (HB1.out.step (Below.refl _ w1).drew)
  clear c0 c1 c2 c3 c4 c5 c6 c7 c8 c9
  go_loopw [2, 3, 21] (fun vi eb i wr => ∃ (k : Nat) (I : Int) (q : Option Addr) (c : Nat), k ≤ K ∧ k ≤ 1200 ∧ 0 ≤ I ∧ I ≤ 1200 ∧ i = .int .i64 I ∧ vi = .slice q k c ∧ eb = .bool false ∧ Hid (I = (k : Int)) ∧ Hid (wr.ownsRow (w.heap.size + 1) 3 1 (.slice q k c) k ((il k).map iV)) ∧ Hid (SBox w ⟨st, en, n, unit, stub, roll, conv, lag⟩ W v wr)) (fun _ _ i _ => (1200 - intOf i).toNat)
  case atStart => exact ⟨0, 0, none, 0, by omega, by omega, by omega, by omega, rfl, rfl, rfl, rfl, by show World.ownsRow _ _ _ _ _ _ _; rw [HZ.out]; exact iown_nil _ _, by first | exact HB2 | exact HB1⟩
  case round =>
    clear HB1 HB2 HSF
    obtain ⟨k, I, q, c, hk, hk2, I0, I1, rfl, rfl, rfl, HI, HO, HB⟩ := hrel
    obtain ⟨c0, c1, c2, c3, c4, c5, c6, c7, c8, c9⟩ := HB.out.cells
    have hsz := HB.out.below.size
    by_cases hlt : k < 1200
    · have hI : decide (I < 1200) = true := decide_eq_true (by have := HI.out; omega)
      have HJ : Hid (I + 1 = ((k + 1 : Nat) : Int) * 1) := by have := HI.out; show _ = _; omega
      by_cases hin : k < K
      · obtain ⟨x, hx, hx0, hx1⟩ := HIn.out k hin
        have HP := hideS (fun wx => HPt.out (k + 1) (I + 1) (some x) wx (by omega) HJ.out hx)
        dsimp only [Option.getD, Option.isSome] at HP
        have HNx : Hid (il (k + 1) = il k ++ [x]) := by show _ = _; rw [HS.out, hx]; rfl
        go_wp2_with fail
        refine (HP.out _).mono ?_
        rintro e w2 ⟨rfl, hb2⟩
        have HB2 := hideS (HB.out.step hb2)
        have HO2 := hideS (iown_below HO.out hb2)
        clear c0 c1 c2 c3 c4 c5 c6 c7 c8 c9
        obtain ⟨c0, c1, c2, c3, c4, c5, c6, c7, c8, c9⟩ := HB2.out.cells
        have HOa : Hid (∀ o, (w2.alloc o).ownsRow (w.heap.size + 1) 3 1 (.slice q k c) k ((il k).map iV)) := fun o => iown_below HO2.out ((Below.refl _ w2).alloc (Nat.le_refl _) o)
        have HBa : Hid (∀ o, SBox w ⟨st, en, n, unit, stub, roll, conv, lag⟩ W v (w2.alloc o)) := fun o => HB2.out.step ((Below.refl _ w2).alloc (Nat.le_refl _) o)
        have hz2 : Hid (∀ o, w.heap.size + 1 ≤ (w2.alloc o).heap.size) := fun o => by have := Below.size (HBa.out o); simp at this ⊢; omega
        go_wp2_with (at_builtin; refine wpList_append_int _ rfl (.tmp 48) (.tmp 50) rfl (w.heap.size + 1) (.slice q k c) k (il k) rfl (HOa.out _) w2.heap.size x rfl (by simp) (by omega) (hz2.out _) ?_; intro v5 w5 ho5 hg5; have HB5 := hideS ((HBa.out _).stay (igrown_below (HOa.out _) hg5 (hz2.out _)) (Nat.le_refl _)); rw [← HNx.out] at ho5; obtain ⟨q5, g5, k5, hv5, _, _, _, hm5⟩ := iown_src ho5 (HL.out _); subst hv5; have HO5 := hideS ho5; clear ho5 hg5)
        go_roundw
        case rel => exact ⟨k + 1, I + 1, q5, k5, by omega, by omega, by omega, by have := HI.out; omega, rfl, rfl, rfl, by have := HI.out; show _ = _; omega, HO5, HB5⟩
        case measure => simp [intOf]; have := HI.out; omega
      · obtain rfl : k = K := by omega
        have HKl : Hid (k < 1200) := hlt
        rcases HOut.out with ⟨hx, hev⟩ | ⟨x, hx, hxo, hev⟩
        · have HP := hideS (fun wx => HPt.out (k + 1) (I + 1) none wx (by omega) HJ.out hx)
          dsimp only [Option.getD, Option.isSome] at HP
          have hkn : ((k : Int) == 1200) = false := beq_eq_false_iff_ne.2 (by omega)
          go_wp2_with fail
          refine (HP.out _).mono ?_
          rintro e w2 ⟨rfl, hb2⟩
          have HB2 := hideS (HB.out.step hb2)
          have HO2 := hideS (iown_below HO.out hb2)
          clear c0 c1 c2 c3 c4 c5 c6 c7 c8 c9
          go_wp2_with fail
          try rw [Exit.noGoto_ret]
          go_ret3
          exact ⟨Or.inr ⟨HKl.out, q, c, by rw [hev]; rfl, HO2.out⟩, HB2.out.below⟩
        · have HP := hideS (fun wx => HPt.out (k + 1) (I + 1) (some x) wx (by omega) HJ.out hx)
          dsimp only [Option.getD, Option.isSome] at HP
          have hkn : ((k : Int) == 1200) = false := beq_eq_false_iff_ne.2 (by omega)
          rcases hxo with hxo | ⟨hxo, hxo2⟩
          all_goals
            go_wp2_with fail
            refine (HP.out _).mono ?_
            rintro e w2 ⟨rfl, hb2⟩
            have HB2 := hideS (HB.out.step hb2)
            have HO2 := hideS (iown_below HO.out hb2)
            clear c0 c1 c2 c3 c4 c5 c6 c7 c8 c9
            obtain ⟨c0, c1, c2, c3, c4, c5, c6, c7, c8, c9⟩ := HB2.out.cells
            go_wp2_with fail
            try rw [Exit.noGoto_ret]
            go_ret3
            exact ⟨Or.inr ⟨HKl.out, q, c, by rw [hev]; rfl, HO2.out⟩, HB2.out.below⟩
    · have hI : decide (I < 1200) = false := decide_eq_false (by have := HI.out; omega)
      obtain rfl : k = 1200 := by omega
      go_wp2_with fail
      try rw [Exit.noGoto_ret]
      go_ret3
      exact ⟨Or.inl ⟨hk, rfl⟩, HB.out.below⟩
end Go.Proofs.YtpcgbcdldkmibaaGreat
namespace Go.Proofs.YtpcgbcdldkmibaaGreat
open Go.RowKit

set_option maxRecDepth 10000 in
set_option maxHeartbeats 16000000 in
theorem between_b (s : Spc) (W : Int) (v : Value) (K : Nat) (pk : Nat → Option Int) (il : Nat → List Int) (ev : Bool) (A O G : Int) (w : World) (t1 : 1 ≤ s.stub) (t2 : s.stub ≤ 4)
    (hbk : true = decide (s.stub ≤ 2)) (hA : A = s.en) (hO : O = s.st) (hG : G = -1) (H : Hid (BetH s W v K pk il ev A O G)) :
    Calls Tryz.prog 102 #[.agg #[.int .i64 s.st, .int .i64 s.en, .int .i64 s.n, .int .i64 s.unit, .int .i64 s.stub, .int .i64 s.roll, .int .i64 s.conv, .int .i64 s.lag, .int .i64 W, v]] w fun e w' => BetG il ev K w e w' ∧ Below w.heap.size w w' := by
  have HB0 := hideS (SBox.zero w s W v)
  have HSF := hideS (fun wx => stubF_any s W v wx t1 t2)
  rw [← hbk] at HSF
  have HIn := hideS H.out.ins
  have HOut := hideS H.out.out
  have HPt := hideS H.out.pt
  have HZ := hideS H.out.zero
  have HS := hideS H.out.succ
  have HL := hideS H.out.len
  have HG := hideS H.out.sg
  clear H t1 t2 hbk
  obtain ⟨st, en, n, unit, stub, roll, conv, lag⟩ := s
  dsimp only at *
  have HBd := hideS (HB0.out.step (Below.refl _ _).drew)
  have hA' := hA.symm
  have hO' := hO.symm
  subst hA' hO' hG
  clear hA hO
  go_enter Tryz.func102, Tryz.ntmps102
  go_wp2_with fail
  go_step3
  go_wp2_with fail
  go_region
  go_wp2_with fail
  refine (HSF.out _).mono ?_
  rintro e w1 ⟨rfl, hb1⟩
  have HB1 := hideS (HBd.out.step hb1)
  clear hb1 HB0 HBd
  obtain ⟨c0, c1, c2, c3, c4, c5, c6, c7, c8, c9⟩ := HB1.out.cells
  go_wp2_with fail
  go_region
  go_wp2_with fail
  go_step3
  go_wp2_with fail
  have HB2 := hideS (HB1.out.step (Below.refl _ w1).drew)
  clear c0 c1 c2 c3 c4 c5 c6 c7 c8 c9
  go_loopw [2, 3, 21] (fun vi eb i wr => ∃ (k : Nat) (I : Int) (q : Option Addr) (c : Nat), k ≤ K ∧ k ≤ 1200 ∧ 0 ≤ I ∧ I ≤ 1200 ∧ i = .int .i64 I ∧ vi = .slice q k c ∧ eb = .bool false ∧ Hid (I = (k : Int)) ∧ Hid (wr.ownsRow (w.heap.size + 1) 3 1 (.slice q k c) k ((il k).map iV)) ∧ Hid (SBox w ⟨st, en, n, unit, stub, roll, conv, lag⟩ W v wr)) (fun _ _ i _ => (1200 - intOf i).toNat)
  case atStart => exact ⟨0, 0, none, 0, by omega, by omega, by omega, by omega, rfl, rfl, rfl, rfl, by show World.ownsRow _ _ _ _ _ _ _; rw [HZ.out]; exact iown_nil _ _, by first | exact HB2 | exact HB1⟩
  case round =>
    clear HB1 HB2 HSF
    obtain ⟨k, I, q, c, hk, hk2, I0, I1, rfl, rfl, rfl, HI, HO, HB⟩ := hrel
    obtain ⟨c0, c1, c2, c3, c4, c5, c6, c7, c8, c9⟩ := HB.out.cells
    have hsz := HB.out.below.size
    by_cases hlt : k < 1200
    · have hI : decide (I < 1200) = true := decide_eq_true (by have := HI.out; omega)
      obtain ⟨J, hJ⟩ : ∃ J : Int, -1 * (I + 1) = J := ⟨_, rfl⟩
      have HJ : Hid (J = ((k + 1 : Nat) : Int) * -1) := by have := HI.out; show _ = _; omega
      have hJ2 : -(I + 1) = J := by omega
      have J0 : -1200 ≤ J := by have := HI.out; omega
      have J1 : J ≤ 1200 := by have := HI.out; omega
      by_cases hin : k < K
      · obtain ⟨x, hx, hx0, hx1⟩ := HIn.out k hin
        have HP := hideS (fun wx => HPt.out (k + 1) J (some x) wx (by omega) HJ.out hx)
        dsimp only [Option.getD, Option.isSome] at HP
        have HNx : Hid (il (k + 1) = il k ++ [x]) := by show _ = _; rw [HS.out, hx]; rfl
        go_wp2_with fail
        refine (HP.out _).mono ?_
        rintro e w2 ⟨rfl, hb2⟩
        have HB2 := hideS (HB.out.step hb2)
        have HO2 := hideS (iown_below HO.out hb2)
        clear c0 c1 c2 c3 c4 c5 c6 c7 c8 c9
        obtain ⟨c0, c1, c2, c3, c4, c5, c6, c7, c8, c9⟩ := HB2.out.cells
        have HOa : Hid (∀ o, (w2.alloc o).ownsRow (w.heap.size + 1) 3 1 (.slice q k c) k ((il k).map iV)) := fun o => iown_below HO2.out ((Below.refl _ w2).alloc (Nat.le_refl _) o)
        have HBa : Hid (∀ o, SBox w ⟨st, en, n, unit, stub, roll, conv, lag⟩ W v (w2.alloc o)) := fun o => HB2.out.step ((Below.refl _ w2).alloc (Nat.le_refl _) o)
        have hz2 : Hid (∀ o, w.heap.size + 1 ≤ (w2.alloc o).heap.size) := fun o => by have := Below.size (HBa.out o); simp at this ⊢; omega
        go_wp2_with (at_builtin; refine wpList_append_int _ rfl (.tmp 48) (.tmp 50) rfl (w.heap.size + 1) (.slice q k c) k (il k) rfl (HOa.out _) w2.heap.size x rfl (by simp) (by omega) (hz2.out _) ?_; intro v5 w5 ho5 hg5; have HB5 := hideS ((HBa.out _).stay (igrown_below (HOa.out _) hg5 (hz2.out _)) (Nat.le_refl _)); rw [← HNx.out] at ho5; obtain ⟨q5, g5, k5, hv5, _, _, _, hm5⟩ := iown_src ho5 (HL.out _); subst hv5; have HO5 := hideS ho5; clear ho5 hg5)
        go_roundw
        case rel => exact ⟨k + 1, I + 1, q5, k5, by omega, by omega, by omega, by have := HI.out; omega, rfl, rfl, rfl, by have := HI.out; show _ = _; omega, HO5, HB5⟩
        case measure => simp [intOf]; have := HI.out; omega
      · obtain rfl : k = K := by omega
        have HKl : Hid (k < 1200) := hlt
        rcases HOut.out with ⟨hx, hev⟩ | ⟨x, hx, hxo, hev⟩
        · have HP := hideS (fun wx => HPt.out (k + 1) J none wx (by omega) HJ.out hx)
          dsimp only [Option.getD, Option.isSome] at HP
          have hkn : ((k : Int) == 1200) = false := beq_eq_false_iff_ne.2 (by omega)
          go_wp2_with fail
          refine (HP.out _).mono ?_
          rintro e w2 ⟨rfl, hb2⟩
          have HB2 := hideS (HB.out.step hb2)
          have HO2 := hideS (iown_below HO.out hb2)
          clear c0 c1 c2 c3 c4 c5 c6 c7 c8 c9
          go_wp2_with fail
          try rw [Exit.noGoto_ret]
          go_ret3
          exact ⟨Or.inr ⟨HKl.out, q, c, by rw [hev]; rfl, HO2.out⟩, HB2.out.below⟩
        · have HP := hideS (fun wx => HPt.out (k + 1) J (some x) wx (by omega) HJ.out hx)
          dsimp only [Option.getD, Option.isSome] at HP
          have hkn : ((k : Int) == 1200) = false := beq_eq_false_iff_ne.2 (by omega)
          rcases hxo with hxo | ⟨hxo, hxo2⟩
          all_goals
            go_wp2_with fail
            refine (HP.out _).mono ?_
            rintro e w2 ⟨rfl, hb2⟩
            have HB2 := hideS (HB.out.step hb2)
            have HO2 := hideS (iown_below HO.out hb2)
            clear c0 c1 c2 c3 c4 c5 c6 c7 c8 c9
            obtain ⟨c0, c1, c2, c3, c4, c5, c6, c7, c8, c9⟩ := HB2.out.cells
            go_wp2_with fail
            try rw [Exit.noGoto_ret]
            go_ret3
            exact ⟨Or.inr ⟨HKl.out, q, c, by rw [hev]; rfl, HO2.out⟩, HB2.out.below⟩
    · have hI : decide (I < 1200) = false := decide_eq_false (by have := HI.out; omega)
      obtain rfl : k = 1200 := by omega
      go_wp2_with fail
      try rw [Exit.noGoto_ret]
      go_ret3
      exact ⟨Or.inl ⟨hk, rfl⟩, HB.out.below⟩
end Go.Proofs.YtpcgbcdldkmibaaGreat
namespace Go.Proofs.YtpcgbcdldkmibaaGreat
open Go.RowKit

theorem schBet_any (s : Spc) (W : Int) (v : Value) (K : Nat) (w : World) (h : SpcOk s) (hK : DatR s K) :
    Calls Tryz.prog 102 #[.agg #[.int .i64 s.st, .int .i64 s.en, .int .i64 s.n, .int .i64 s.unit, .int .i64 s.stub, .int .i64 s.roll, .int .i64 s.conv, .int .i64 s.lag, .int .i64 W, v]] w fun e w' => BetG (innL s) (evenB s K) K w e w' ∧ Below w.heap.size w w' := by
  have H : BetH s W v K (pkO s) (innL s) (evenB s K) (ancI s) (othI s) (sgnI s) := by
    have hsg : sgnI s = 1 ∨ sgnI s = -1 := by unfold sgnI; split; exact Or.inr rfl; exact Or.inl rfl
    have hA : isDayP (ancI s) := by unfold ancI; split; exact h.e0; exact h.s0
    refine ⟨fun j hj => pk_in h hK hj, ?_, fun k J o wx hk hJ ho => ?_, rfl, inn_succ s, inn_len s, hsg⟩
    · have ho := hK.out
      unfold evenB
      cases hp : pkO s (K + 1) with
      | none => exact Or.inl ⟨rfl, rfl⟩
      | some x =>
        rw [hp] at ho
        refine Or.inr ⟨x, rfl, ?_, rfl⟩
        have ho2 : (if s.stub ≤ 2 then decide (x ≤ s.st) else decide (s.en ≤ x)) = true := ho
        have hlt := h.lt
        by_cases e : s.stub ≤ 2
        · rw [if_pos e] at ho2
          have := of_decide_eq_true ho2
          exact Or.inl (decide_eq_false (by omega))
        · rw [if_neg e] at ho2
          have := of_decide_eq_true ho2
          exact Or.inr ⟨decide_eq_true (by omega), decide_eq_false (by omega)⟩
    · have hJb : -200000 ≤ J ∧ J ≤ 200000 := by rcases hsg with e | e <;> rw [e] at hJ <;> omega
      have := schStep_any s W (ancI s) J v wx h hA hJb.1 hJb.2
      have ho' : ptO s (ancI s) J = o := by rw [hJ]; exact ho
      rw [ho'] at this
      exact this
  by_cases e : s.stub ≤ 2
  · exact between_b s W v K (pkO s) (innL s) (evenB s K) (ancI s) (othI s) (sgnI s) w h.t1 h.t2 (decide_eq_true e).symm (if_pos e) (if_pos e) (if_pos e) H
  · exact between_f s W v K (pkO s) (innL s) (evenB s K) (ancI s) (othI s) (sgnI s) w h.t1 h.t2 (decide_eq_false e).symm (if_neg e) (if_neg e) (if_neg e) H
end Go.Proofs.YtpcgbcdldkmibaaGreat
namespace Go.Proofs.YtpcgbcdldkmibaaGreat
open Go.RowKit

def per0 : Per := ⟨0, 0, 0, 0, 0⟩
def perC (r : Per) : List Value := [.int .i64 r.fr, .int .i64 r.to, .int .i64 r.st, .int .i64 r.en, .int .i64 r.pay]
def rowP : List Per → List Value
  | [] => []
  | r :: l => perC r ++ rowP l
theorem rowP_len : ∀ l : List Per, (rowP l).length = l.length * 5
  | [] => rfl
  | r :: l => by rw [rowP, List.length_append, rowP_len l, List.length_cons]; show 5 + _ = _; omega
theorem rowP_append : ∀ a b : List Per, rowP (a ++ b) = rowP a ++ rowP b
  | [], _ => rfl
  | r :: a, b => by rw [List.cons_append, rowP, rowP, rowP_append a b, List.append_assoc]
theorem rowP_get : ∀ (l : List Per) (i j : Nat), i < l.length → j < 5 → (rowP l)[i * 5 + j]? = (perC (l.getD i per0))[j]?
  | [], i, j, h, _ => by simp at h
  | r :: l, 0, j, _, hj => by
    rw [rowP, Nat.zero_mul, Nat.zero_add, List.getElem?_append_left (by show j < 5; exact hj)]; rfl
  | r :: l, i + 1, j, h, hj => by
    rw [rowP, List.getElem?_append_right (by show 5 ≤ _; omega), show (i + 1) * 5 + j - (perC r).length = i * 5 + j by show _ - 5 = _; omega, rowP_get l i j (by simpa using h) hj]
    rfl
theorem rowP_one : ∀ (l : List Per), ∀ u ∈ rowP l, u.oneCell' = true
  | [], u, h => by cases h
  | r :: l, u, h => by
    rw [rowP, List.mem_append] at h
    rcases h with h | h
    · simp only [perC, List.mem_cons, List.not_mem_nil, or_false] at h
      rcases h with rfl | rfl | rfl | rfl | rfl <;> rfl
    · exact rowP_one l u h
structure PerAt (w : World) (b o : Nat) (r : Per) : Prop where
  c0 : w.cell? ⟨b, o + 0, none⟩ = some (.int .i64 r.fr)
  c1 : w.cell? ⟨b, o + 1, none⟩ = some (.int .i64 r.to)
  c2 : w.cell? ⟨b, o + 2, none⟩ = some (.int .i64 r.st)
  c3 : w.cell? ⟨b, o + 3, none⟩ = some (.int .i64 r.en)
  c4 : w.cell? ⟨b, o + 4, none⟩ = some (.int .i64 r.pay)
theorem PerAt.below {w w' : World} {b o B : Nat} {r : Per} (h : PerAt w b o r) (hb : Below B w w') (hB : b < B) : PerAt w' b o r :=
  ⟨(hb.cell (p := ⟨b, o + 0, none⟩) hB).trans h.c0, (hb.cell (p := ⟨b, o + 1, none⟩) hB).trans h.c1, (hb.cell (p := ⟨b, o + 2, none⟩) hB).trans h.c2, (hb.cell (p := ⟨b, o + 3, none⟩) hB).trans h.c3, (hb.cell (p := ⟨b, o + 4, none⟩) hB).trans h.c4⟩
structure PSrc (w : World) (p : Option Addr) (b off : Nat) (rs : List Per) : Prop where
  at_ : 0 < rs.length → p = some ⟨b, off, none⟩
  lt : 0 < rs.length → b < w.heap.size
  cell : ∀ j, j < rs.length → PerAt w b (off + j * 5) (rs.getD j per0)
theorem PSrc.below {w w' : World} {p : Option Addr} {b off : Nat} {rs : List Per} (h : PSrc w p b off rs) (hb : Below w.heap.size w w') : PSrc w' p b off rs :=
  ⟨h.at_, fun hx => Nat.lt_of_lt_of_le (h.lt hx) hb.size, fun j hj => (h.cell j hj).below hb (h.lt (by omega))⟩
theorem pown_src {w : World} {base n : Nat} {v : Value} {rs : List Per} (h : w.ownsRow base 56 5 v n (rowP rs)) (hn : rs.length = n) :
    ∃ p g c, v = .slice p n c ∧ PSrc w p g 0 rs ∧ base ≤ g ∧ n ≤ c ∧ c ≤ maxLen := by
  rcases h.2 with ⟨rfl, rfl⟩ | ⟨g, cap, cur, rfl, hg, hh, hnc, hcm, hsz, htk⟩
  · refine ⟨none, base, 0, rfl, ⟨fun h => by omega, fun h => by omega, fun i hi => by omega⟩, Nat.le_refl _, Nat.le_refl _, Nat.zero_le _⟩
  · refine ⟨_, g, cap, rfl, ⟨fun _ => rfl, fun _ => (Array.getElem?_eq_some_iff.1 hh).1, fun i hi => ?_⟩, hg, hnc, hcm⟩
    have key : ∀ j < 5, w.cell? ⟨g, 0 + i * 5 + j, none⟩ = (perC (rs.getD i per0))[j]? := fun j hj => by
      rw [← rowP_get rs i j hi hj, show 0 + i * 5 + j = i * 5 + j by omega]
      exact World.ownsRow.cellAt h (i * 5 + j) (by omega)
    exact ⟨key 0 (by omega), key 1 (by omega), key 2 (by omega), key 3 (by omega), key 4 (by omega)⟩
theorem info_per : (Tryz.prog.info? 56).map (fun i => (i.zero, i.size, i.bytes)) = some (some (.agg #[.int .i64 0, .int .i64 0, .int .i64 0, .int .i64 0, .int .i64 0]), 5, 40) := by kernel_rfl
theorem pown_nil (w : World) (base : Nat) : w.ownsRow base 56 5 (.slice none 0 0) 0 (rowP []) := ⟨rfl, Or.inl ⟨rfl, rfl⟩⟩
theorem pown_below {w w' : World} {base n : Nat} {v : Value} {xs : List Per} (h : w.ownsRow base 56 5 v n (rowP xs)) (hb : Below w.heap.size w w') : w'.ownsRow base 56 5 v n (rowP xs) := by
  refine ⟨h.1, ?_⟩
  rcases h.2 with hn | ⟨g, cap, cur, rfl, hg, hgg, rest⟩
  · exact .inl hn
  · exact .inr ⟨g, cap, cur, rfl, hg, by rw [hb.block g (Array.getElem?_eq_some_iff.1 hgg).1]; exact hgg, rest⟩
theorem pown_mono {w : World} {B B' n : Nat} {v : Value} {xs : List Value} (h : w.ownsRow B 56 5 v n xs) (hB : B' ≤ B) : w.ownsRow B' 56 5 v n xs := by
  refine ⟨h.1, ?_⟩
  rcases h.2 with a | ⟨g, cap, cur, e, hg, rest⟩
  · exact .inl a
  · exact .inr ⟨g, cap, cur, e, Nat.le_trans hB hg, rest⟩
theorem pgrown_below {w w' : World} {v : Value} {B n : Nat} {xs : List Value} (ho : w.ownsRow B 56 5 v n xs) (hg : w.grownBy w' v.ownBlock) (hB : B ≤ w.heap.size) : Below B w w' :=
  (Below.refl B w).grown hg hB (fun k hk => by
    rcases ho.2 with ⟨rfl, _⟩ | ⟨g, cap, cur, rfl, hbg, _⟩
    · cases hk
    · obtain rfl : g = k := by simpa [Value.ownBlock] using hk
      exact hbg)
theorem wpList_append_per (w : World) {ops : Array Oper} {rest : List Oper} {o : Oper} {a : Act} {Q : Exit → Act → World → Prop} (hgd : o.guard = none) (s x : Operand)
    (ho : o.op = .call { callee := .builtin .append, args := #[s, x], argTypes := #[51, 51] })
    (base : Nat) (v : Value) (n : Nat) (xs : List Per) (hs : a.eval s = v) (hown : w.ownsRow base 56 5 v n (rowP xs))
    (g : Nat) (z : Per) (hx : a.eval x = .slice (some ⟨g, 0, none⟩) 1 1) (hc : PerAt w g 0 z) (hn : n ≤ 100000) (hbase : base ≤ w.heap.size)
    (h : ∀ v' w', w'.ownsRow base 56 5 v' (n + 1) (rowP (xs ++ [z])) → w.grownBy w' v.ownBlock → wpList Tryz.prog ops Q rest (a.put o.dst v') w') : wpList Tryz.prog ops Q (o :: rest) a w := by
  obtain ⟨i0, hi, hz0, hz1, hz2⟩ := info_parts info_per
  refine wpList_append_own w hgd s x 51 ho base 56 i0 (.agg #[.int .i64 0, .int .i64 0, .int .i64 0, .int .i64 0, .int .i64 0]) 5 40 Tryz.underlying51 hi hz0 hz1 hz2 rfl (by decide) v n (rowP xs) hs hown ⟨g, 0, none⟩ 1 1 (rowP [z]) hx (by rw [rowP_len]; rfl) ?_ (rowP_one [z]) (by unfold maxLen; omega) (by omega) hbase ?_
  · intro j u hj
    have hlt : j < 5 := by
      have := (List.getElem?_eq_some_iff.1 hj).1
      rw [rowP_len] at this
      exact this
    rw [Addr.add_lit]
    rcases (show j = 0 ∨ j = 1 ∨ j = 2 ∨ j = 3 ∨ j = 4 by omega) with rfl | rfl | rfl | rfl | rfl
    · rw [← hj]; exact hc.c0
    · rw [← hj]; exact hc.c1
    · rw [← hj]; exact hc.c2
    · rw [← hj]; exact hc.c3
    · rw [← hj]; exact hc.c4
  · intro v' w' h1 h2 _
    refine h v' w' ?_ h2
    rw [rowP_append]; exact h1
end Go.Proofs.YtpcgbcdldkmibaaGreat
