/- Rows of ints of one's own. Rows of interests of one's own. The contract of the document's Dates. The contract of sched's between: the points that lie inside. The contract of sched's between, forth. The contract of sched's between, back. The contract of sched's between. -/
import Derived.Test.YtphnainibdepbaaGreatHal
import Derived.Test.YtphnainibdepbaaGreatRows
import Derived.Laws.AppendOwnNone
import Derived.OwnWalk
import Derived.WalkKit
import Derived.Handy
import Derived.Test.YtphnainibdepbaaGreatHan
import Derived.WalkMore
namespace Go.Proofs.YtphnainibdepbaaGreat
open Go.RowKit

def iV (x : Int) : Value := .int .i64 x
theorem info_int : (Tryz.prog.info? 3).map (fun i => (i.zero, i.size, i.bytes)) = some (some (.int .i64 0), 1, 8) := by kernel_rfl
structure ISrc (w : World) (p : Option Addr) (b off : Nat) (xs : List Int) : Prop where
  at_ : 0 < xs.length → p = some ⟨b, off, none⟩
  lt : 0 < xs.length → b < w.heap.size
  cell : ∀ j, j < xs.length → w.cell? ⟨b, off + j, none⟩ = some (.int .i64 (xs.getD j 0))
theorem ISrc.below {w w' : World} {p : Option Addr} {b off : Nat} {xs : List Int} (h : ISrc w p b off xs) (hb : Below w.heap.size w w') : ISrc w' p b off xs :=
  ⟨h.at_, fun hx => Nat.lt_of_lt_of_le (h.lt hx) hb.size, fun j hj => (hb.cell (p := ⟨b, off + j, none⟩) (h.lt (by omega))).trans (h.cell j hj)⟩
theorem iown_src {w : World} {base n : Nat} {v : Value} {xs : List Int} (h : w.ownsRow base 3 1 v n (xs.map iV)) (hn : xs.length = n) :
    ∃ p g c, v = .slice p n c ∧ ISrc w p g 0 xs ∧ base ≤ g ∧ n ≤ c ∧ c ≤ maxLen := by
  rcases h.2 with ⟨rfl, rfl⟩ | ⟨g, cap, cur, rfl, hg, hh, hnc, hcm, hsz, htk⟩
  · exact ⟨none, base, 0, rfl, ⟨fun h => by omega, fun h => by omega, fun i hi => by omega⟩, Nat.le_refl _, Nat.le_refl _, Nat.zero_le _⟩
  · refine ⟨_, g, cap, rfl, ⟨fun _ => rfl, fun _ => (Array.getElem?_eq_some_iff.1 hh).1, fun i hi => ?_⟩, hg, hnc, hcm⟩
    rw [Nat.zero_add, World.ownsRow.cellAt h i (by omega), List.getElem?_map, List.getD_eq_getElem?_getD, List.getElem?_eq_getElem hi]; rfl
theorem iown_nil (w : World) (base : Nat) : w.ownsRow base 3 1 (.slice none 0 0) 0 (([] : List Int).map iV) := ⟨rfl, Or.inl ⟨rfl, rfl⟩⟩
theorem iown_below {w w' : World} {base n : Nat} {v : Value} {xs : List Int} (h : w.ownsRow base 3 1 v n (xs.map iV)) (hb : Below w.heap.size w w') : w'.ownsRow base 3 1 v n (xs.map iV) := by
  refine ⟨h.1, ?_⟩
  rcases h.2 with hn | ⟨g, cap, cur, rfl, hg, hgg, rest⟩
  · exact .inl hn
  · exact .inr ⟨g, cap, cur, rfl, hg, by rw [hb.block g (Array.getElem?_eq_some_iff.1 hgg).1]; exact hgg, rest⟩
theorem igrown_below {w w' : World} {v : Value} {B n : Nat} {xs : List Value} (ho : w.ownsRow B 3 1 v n xs) (hg : w.grownBy w' v.ownBlock) (hB : B ≤ w.heap.size) : Below B w w' :=
  (Below.refl B w).grown hg hB (fun k hk => by
    rcases ho.2 with ⟨rfl, _⟩ | ⟨g, cap, cur, rfl, hbg, _⟩
    · cases hk
    · obtain rfl : g = k := by simpa [Value.ownBlock] using hk
      exact hbg)
theorem wpList_append_int (w : World) {ops : Array Oper} {rest : List Oper} {o : Oper} {a : Act} {Q : Exit → Act → World → Prop} (hgd : o.guard = none) (s x : Operand)
    (ho : o.op = .call { callee := .builtin .append, args := #[s, x], argTypes := #[31, 31] })
    (base : Nat) (v : Value) (n : Nat) (xs : List Int) (hs : a.eval s = v) (hown : w.ownsRow base 3 1 v n (xs.map iV))
    (g : Nat) (z : Int) (hx : a.eval x = .slice (some ⟨g, 0, none⟩) 1 1) (hc : w.cell? ⟨g, 0, none⟩ = some (.int .i64 z)) (hn : n ≤ 100000) (hbase : base ≤ w.heap.size)
    (h : ∀ v' w', w'.ownsRow base 3 1 v' (n + 1) ((xs ++ [z]).map iV) → w.grownBy w' v.ownBlock → wpList Tryz.prog ops Q rest (a.put o.dst v') w') : wpList Tryz.prog ops Q (o :: rest) a w := by
  obtain ⟨i0, hi, hz0, hz1, hz2⟩ := info_parts info_int
  refine wpList_append_own w hgd s x 31 ho base 3 i0 (.int .i64 0) 1 8 Tryz.underlying31 hi hz0 hz1 hz2 rfl (by decide) v n (xs.map iV) hs hown ⟨g, 0, none⟩ 1 1 [iV z] hx rfl ?_ (fun u hu => by rw [List.mem_singleton] at hu; rw [hu]; rfl) (by unfold maxLen; omega) (by omega) hbase ?_
  · intro j u hj
    cases j with
    | zero =>
      have : iV z = u := Option.some.inj hj
      rw [← this, Addr.add_lit]
      exact hc
    | succ j => cases hj
  · intro v' w' h1 h2 _
    refine h v' w' ?_ h2
    rw [List.map_append]; exact h1
end Go.Proofs.YtphnainibdepbaaGreat
namespace Go.Proofs.YtphnainibdepbaaGreat
open Go.RowKit

structure Itr where
  (day : Int) (am : Nat)
def itr0 : Itr := ⟨0, 0⟩
def itrC (r : Itr) : List Value := [.int .i64 r.day, .float .f64 r.am]
def rowT : List Itr → List Value
  | [] => []
  | r :: l => itrC r ++ rowT l
theorem rowT_len : ∀ l : List Itr, (rowT l).length = l.length * 2
  | [] => rfl
  | r :: l => by rw [rowT, List.length_append, rowT_len l, List.length_cons]; show 2 + _ = _; omega
theorem rowT_append : ∀ a b : List Itr, rowT (a ++ b) = rowT a ++ rowT b
  | [], _ => rfl
  | r :: a, b => by rw [List.cons_append, rowT, rowT, rowT_append a b, List.append_assoc]
theorem rowT_get : ∀ (l : List Itr) (i j : Nat), i < l.length → j < 2 → (rowT l)[i * 2 + j]? = (itrC (l.getD i itr0))[j]?
  | [], i, j, h, _ => by simp at h
  | r :: l, 0, j, _, hj => by
    rw [rowT, Nat.zero_mul, Nat.zero_add, List.getElem?_append_left (by show j < 2; exact hj)]; rfl
  | r :: l, i + 1, j, h, hj => by
    rw [rowT, List.getElem?_append_right (by show 2 ≤ _; omega), show (i + 1) * 2 + j - (itrC r).length = i * 2 + j by show _ - 2 = _; omega, rowT_get l i j (by simpa using h) hj]
    rfl
theorem rowT_one : ∀ (l : List Itr), ∀ u ∈ rowT l, u.oneCell' = true
  | [], u, h => by cases h
  | r :: l, u, h => by
    rw [rowT, List.mem_append] at h
    rcases h with h | h
    · simp only [itrC, List.mem_cons, List.not_mem_nil, or_false] at h
      rcases h with rfl | rfl <;> rfl
    · exact rowT_one l u h
structure ItrAt (w : World) (b o : Nat) (r : Itr) : Prop where
  c0 : w.cell? ⟨b, o + 0, none⟩ = some (.int .i64 r.day)
  c1 : w.cell? ⟨b, o + 1, none⟩ = some (.float .f64 r.am)
theorem ItrAt.below {w w' : World} {b o B : Nat} {r : Itr} (h : ItrAt w b o r) (hb : Below B w w') (hB : b < B) : ItrAt w' b o r :=
  ⟨(hb.cell (p := ⟨b, o + 0, none⟩) hB).trans h.c0, (hb.cell (p := ⟨b, o + 1, none⟩) hB).trans h.c1⟩
structure TSrcI (w : World) (p : Option Addr) (b off n : Nat) (f : Nat → Itr) : Prop where
  at_ : 0 < n → p = some ⟨b, off, none⟩
  lt : 0 < n → b < w.heap.size
  cell : ∀ j, j < n → ItrAt w b (off + j * 2) (f j)
theorem TSrcI.below {w w' : World} {p : Option Addr} {b off n : Nat} {f : Nat → Itr} (h : TSrcI w p b off n f) (hb : Below w.heap.size w w') : TSrcI w' p b off n f :=
  ⟨h.at_, fun hx => Nat.lt_of_lt_of_le (h.lt hx) hb.size, fun j hj => (h.cell j hj).below hb (h.lt (by omega))⟩
theorem town_src {w : World} {base n : Nat} {v : Value} {rs : List Itr} (h : w.ownsRow base 74 2 v n (rowT rs)) (hn : rs.length = n) :
    ∃ p g c, v = .slice p n c ∧ TSrcI w p g 0 n (fun j => rs.getD j itr0) ∧ base ≤ g ∧ n ≤ c ∧ c ≤ maxLen := by
  rcases h.2 with ⟨rfl, rfl⟩ | ⟨g, cap, cur, rfl, hg, hh, hnc, hcm, hsz, htk⟩
  · refine ⟨none, base, 0, rfl, ⟨fun h => by omega, fun h => by omega, fun i hi => by omega⟩, Nat.le_refl _, Nat.le_refl _, Nat.zero_le _⟩
  · refine ⟨_, g, cap, rfl, ⟨fun _ => rfl, fun _ => (Array.getElem?_eq_some_iff.1 hh).1, fun i hi => ?_⟩, hg, hnc, hcm⟩
    have key : ∀ j < 2, w.cell? ⟨g, 0 + i * 2 + j, none⟩ = (itrC (rs.getD i itr0))[j]? := fun j hj => by
      rw [← rowT_get rs i j (by omega) hj, show 0 + i * 2 + j = i * 2 + j by omega]
      exact World.ownsRow.cellAt h (i * 2 + j) (by omega)
    exact ⟨key 0 (by omega), key 1 (by omega)⟩
theorem info_itr : (Tryz.prog.info? 74).map (fun i => (i.zero, i.size, i.bytes)) = some (some (.agg #[.int .i64 0, .float .f64 0]), 2, 16) := by kernel_rfl
theorem town_nil (w : World) (base : Nat) : w.ownsRow base 74 2 (.slice none 0 0) 0 (rowT []) := ⟨rfl, Or.inl ⟨rfl, rfl⟩⟩
theorem town_below {w w' : World} {base n : Nat} {v : Value} {xs : List Itr} (h : w.ownsRow base 74 2 v n (rowT xs)) (hb : Below w.heap.size w w') : w'.ownsRow base 74 2 v n (rowT xs) := by
  refine ⟨h.1, ?_⟩
  rcases h.2 with hn | ⟨g, cap, cur, rfl, hg, hgg, rest⟩
  · exact .inl hn
  · exact .inr ⟨g, cap, cur, rfl, hg, by rw [hb.block g (Array.getElem?_eq_some_iff.1 hgg).1]; exact hgg, rest⟩
theorem tgrown_below {w w' : World} {v : Value} {B n : Nat} {xs : List Value} (ho : w.ownsRow B 74 2 v n xs) (hg : w.grownBy w' v.ownBlock) (hB : B ≤ w.heap.size) : Below B w w' :=
  (Below.refl B w).grown hg hB (fun k hk => by
    rcases ho.2 with ⟨rfl, _⟩ | ⟨g, cap, cur, rfl, hbg, _⟩
    · cases hk
    · obtain rfl : g = k := by simpa [Value.ownBlock] using hk
      exact hbg)
theorem wpList_append_itr (w : World) {ops : Array Oper} {rest : List Oper} {o : Oper} {a : Act} {Q : Exit → Act → World → Prop} (hgd : o.guard = none) (s x : Operand)
    (ho : o.op = .call { callee := .builtin .append, args := #[s, x], argTypes := #[53, 53] })
    (base : Nat) (v : Value) (n : Nat) (xs : List Itr) (hs : a.eval s = v) (hown : w.ownsRow base 74 2 v n (rowT xs))
    (g : Nat) (z : Itr) (hx : a.eval x = .slice (some ⟨g, 0, none⟩) 1 1) (hc : ItrAt w g 0 z) (hn : n ≤ 100000) (hbase : base ≤ w.heap.size)
    (h : ∀ v' w', w'.ownsRow base 74 2 v' (n + 1) (rowT (xs ++ [z])) → w.grownBy w' v.ownBlock → wpList Tryz.prog ops Q rest (a.put o.dst v') w') : wpList Tryz.prog ops Q (o :: rest) a w := by
  obtain ⟨i0, hi, hz0, hz1, hz2⟩ := info_parts info_itr
  refine wpList_append_own w hgd s x 53 ho base 74 i0 (.agg #[.int .i64 0, .float .f64 0]) 2 16 Tryz.underlying53 hi hz0 hz1 hz2 rfl (by decide) v n (rowT xs) hs hown ⟨g, 0, none⟩ 1 1 (rowT [z]) hx (by rw [rowT_len]; rfl) ?_ (rowT_one [z]) (by unfold maxLen; omega) (by omega) hbase ?_
  · intro j u hj
    have hlt : j < 2 := by
      have := (List.getElem?_eq_some_iff.1 hj).1
      rw [rowT_len] at this
      exact this
    rw [Addr.add_lit]
    rcases (show j = 0 ∨ j = 1 by omega) with rfl | rfl
    · rw [← hj]; exact hc.c0
    · rw [← hj]; exact hc.c1
  · intro v' w' h1 h2 _
    refine h v' w' ?_ h2
    rw [rowT_append]; exact h1
end Go.Proofs.YtphnainibdepbaaGreat
namespace Go.Proofs.YtphnainibdepbaaGreat
open Go.RowKit

theorem SBox.stay {w wr w' : World} {s : Spc} {W : Int} {v : Value} {B : Nat} (h : SBox w s W v wr) (hb : Below B wr w') (hB : w.heap.size + 1 ≤ B) : SBox w s W v w' := Below.trans h (hb.mono hB)
theorem iown_mono {w : World} {B B' n : Nat} {v : Value} {xs : List Value} (h : w.ownsRow B 3 1 v n xs) (hB : B' ≤ B) : w.ownsRow B' 3 1 v n xs := by
  refine ⟨h.1, ?_⟩
  rcases h.2 with a | ⟨g, cap, cur, e, hg, rest⟩
  · exact .inl a
  · exact .inr ⟨g, cap, cur, e, Nat.le_trans hB hg, rest⟩
theorem ISrc.stay {w w' : World} {p : Option Addr} {b off B : Nat} {xs : List Int} (h : ISrc w p b off xs) (hb : Below B w w') (hB : 0 < xs.length → b < B) : ISrc w' p b off xs :=
  ⟨h.at_, fun hx => Nat.lt_of_lt_of_le (h.lt hx) hb.size, fun j hj => (hb.cell (p := ⟨b, off + j, none⟩) (hB (by omega))).trans (h.cell j hj)⟩
def DatO (s : Spc) (K : Nat) (w : World) (e : Ending) (w' : World) : Prop :=
  (1200 ≤ K ∧ e = .returned (.tuple #[.slice none 0 0, .int .i64 81])) ∨ (K < 1200 ∧ ∃ v, e = .returned (.tuple #[v, .int .i64 0]) ∧ w'.ownsRow w.heap.size 3 1 v (cutN s K + 2) ((datL s (cutN s K)).map iV))
theorem tail_cases {s : Spc} {K : Nat} (h : DatR s K) (t1 : 1 ≤ s.stub) (t2 : s.stub ≤ 4) : ∃ C, cutN s K = C ∧ C ≤ K ∧
    ((pkO s (K + 1) = none ∧ evenB s K = false) ∨ (∃ x, pkO s (K + 1) = some x ∧ (if s.stub ≤ 2 then x ≤ s.st else s.en ≤ x) ∧ ((x = othI s ∧ evenB s K = true) ∨ (x ≠ othI s ∧ evenB s K = false)))) ∧
    (((s.stub = 1 ∨ s.stub = 3) ∧ C = K) ∨ ((s.stub = 2 ∨ s.stub = 4) ∧ evenB s K = true ∧ C = K) ∨ ((s.stub = 2 ∨ s.stub = 4) ∧ evenB s K = false ∧ K = 0 ∧ C = 0) ∨ ((s.stub = 2 ∨ s.stub = 4) ∧ evenB s K = false ∧ 0 < K ∧ K = C + 1)) := by
  refine ⟨_, rfl, cut_le _ _, ?_, ?_⟩
  · have ho := h.out
    unfold evenB
    cases hp : pkO s (K + 1) with
    | none => exact Or.inl ⟨rfl, rfl⟩
    | some x =>
      rw [hp] at ho
      refine Or.inr ⟨x, rfl, ?_, ?_⟩
      · have h2 : (if s.stub ≤ 2 then decide (x ≤ s.st) else decide (s.en ≤ x)) = true := ho
        by_cases hs : s.stub ≤ 2
        · rw [if_pos hs] at h2 ⊢; exact of_decide_eq_true h2
        · rw [if_neg hs] at h2 ⊢; exact of_decide_eq_true h2
      · by_cases e : x = othI s
        · exact Or.inl ⟨e, by rw [e]; exact beq_self_eq_true _⟩
        · exact Or.inr ⟨e, beq_eq_false_iff_ne.2 (fun a => e (Option.some.inj a))⟩
  · unfold cutN
    by_cases hs : s.stub = 2 ∨ s.stub = 4
    · cases he : evenB s K
      · by_cases hK : 0 < K
        · rw [if_pos ⟨hs, rfl, hK⟩]; exact Or.inr (Or.inr (Or.inr ⟨hs, rfl, hK, by omega⟩))
        · rw [if_neg (fun a => hK a.2.2)]; exact Or.inr (Or.inr (Or.inl ⟨hs, rfl, by omega, by omega⟩))
      · rw [if_neg (fun a => Bool.noConfusion a.2.1)]; exact Or.inr (Or.inl ⟨hs, rfl, rfl⟩)
    · rw [if_neg (fun a => hs a.1)]; exact Or.inl ⟨by omega, rfl⟩

end Go.Proofs.YtphnainibdepbaaGreat
namespace Go.Proofs.YtphnainibdepbaaGreat
open Go.RowKit

def BetG (il : Nat → List Int) (ev : Bool) (K : Nat) (w : World) (e : Ending) (w' : World) : Prop :=
  (1200 ≤ K ∧ e = .returned (.tuple #[.slice none 0 0, .bool false, .int .i64 81])) ∨ (K < 1200 ∧ ∃ q c, e = .returned (.tuple #[.slice q K c, .bool ev, .int .i64 0]) ∧ w'.ownsRow (w.heap.size + 1) 3 1 (.slice q K c) K ((il K).map iV))

structure BetH (s : Spc) (W : Int) (v : Value) (K : Nat) (pk : Nat → Option Int) (il : Nat → List Int) (ev : Bool) (A O G : Int) : Prop where
  ins : ∀ j < K, ∃ x, pk (j + 1) = some x ∧ s.st < x ∧ x < s.en
  out : (pk (K + 1) = none ∧ ev = false) ∨ ∃ x, pk (K + 1) = some x ∧ (decide (s.st < x) = false ∨ (decide (s.st < x) = true ∧ decide (x < s.en) = false)) ∧ ev = (x == O)
  pt : ∀ (k : Nat) (J : Int) (o : Option Int) wx, k ≤ 1200 → J = (k : Int) * G → pk k = o → Calls Tryz.prog 86 #[.agg #[.int .i64 s.st, .int .i64 s.en, .int .i64 s.n, .int .i64 s.unit, .int .i64 s.stub, .int .i64 s.roll, .int .i64 s.conv, .int .i64 s.lag, .int .i64 W, v], .int .i64 A, .int .i64 J] wx fun e w' => e = .returned (.tuple #[.int .i64 (o.getD 0), .bool o.isSome]) ∧ Below wx.heap.size wx w'
  zero : il 0 = []
  succ : ∀ k, il (k + 1) = il k ++ [(pk (k + 1)).getD 0]
  len : ∀ k, (il k).length = k
  sg : G = 1 ∨ G = -1

end Go.Proofs.YtphnainibdepbaaGreat
namespace Go.Proofs.YtphnainibdepbaaGreat
open Go.RowKit

set_option maxRecDepth 10000 in
set_option maxHeartbeats 16000000 in
theorem between_f (s : Spc) (W : Int) (v : Value) (K : Nat) (pk : Nat → Option Int) (il : Nat → List Int) (ev : Bool) (A O G : Int) (w : World) (t1 : 1 ≤ s.stub) (t2 : s.stub ≤ 4)
    (hbk : false = decide (s.stub ≤ 2)) (hA : A = s.st) (hO : O = s.en) (hG : G = 1) (H : Hid (BetH s W v K pk il ev A O G)) :
    Calls Tryz.prog 59 #[.agg #[.int .i64 s.st, .int .i64 s.en, .int .i64 s.n, .int .i64 s.unit, .int .i64 s.stub, .int .i64 s.roll, .int .i64 s.conv, .int .i64 s.lag, .int .i64 W, v]] w fun e w' => BetG il ev K w e w' ∧ Below w.heap.size w w' := by
  have HB0 := hideS (SBox.zero w s W v)
  have HSF := hideS (fun wx => stubF_any s W v wx t1 t2)
  rw [← hbk] at HSF
  have HIn := hideS H.out.ins
  have HOut := hideS H.out.out
  have HPt := hideS H.out.pt
  have HZ := hideS H.out.zero
  have HS := hideS H.out.succ
  have HL := hideS H.out.len
  have HG := hideS H.out.sg
  clear H t1 t2 hbk
  obtain ⟨st, en, n, unit, stub, roll, conv, lag⟩ := s
  dsimp only at *
  have HBd := hideS (HB0.out.step (Below.refl _ _).drew)
  have hA' := hA.symm
  have hO' := hO.symm
  subst hA' hO' hG
  clear hA hO
  go_enter Tryz.func59, Tryz.ntmps59
  go_wp2_with fail
  go_step3
  go_wp2_with fail
  go_region
  go_wp2_with fail
  refine (HSF.out _).mono ?_
  rintro e w1 ⟨rfl, hb1⟩
  have HB1 := hideS (HBd.out.step hb1)
  clear hb1 HB0 HBd
  obtain ⟨c0, c1, c2, c3, c4, c5, c6, c7, c8, c9⟩ := HB1.out.cells
  go_wp2_with fail
  go_step3
  go_wp2_with fail
  have HB2 := hideS (HB1.out.step (Below.refl _ w1).drew)
  clear c0 c1 c2 c3 c4 c5 c6 c7 c8 c9
  go_loopw [2, 3, 21] (fun vi eb i wr => ∃ (k : Nat) (I : Int) (q : Option Addr) (c : Nat), k ≤ K ∧ k ≤ 1200 ∧ 0 ≤ I ∧ I ≤ 1200 ∧ i = .int .i64 I ∧ vi = .slice q k c ∧ eb = .bool false ∧ Hid (I = (k : Int)) ∧ Hid (wr.ownsRow (w.heap.size + 1) 3 1 (.slice q k c) k ((il k).map iV)) ∧ Hid (SBox w ⟨st, en, n, unit, stub, roll, conv, lag⟩ W v wr)) (fun _ _ i _ => (1200 - intOf i).toNat)
  case atStart => exact ⟨0, 0, none, 0, by omega, by omega, by omega, by omega, rfl, rfl, rfl, rfl, by show World.ownsRow _ _ _ _ _ _ _; rw [HZ.out]; exact iown_nil _ _, by first | exact HB2 | exact HB1⟩
  case round =>
    clear HB1 HB2 HSF
    obtain ⟨k, I, q, c, hk, hk2, I0, I1, rfl, rfl, rfl, HI, HO, HB⟩ := hrel
    obtain ⟨c0, c1, c2, c3, c4, c5, c6, c7, c8, c9⟩ := HB.out.cells
    have hsz := HB.out.below.size
    by_cases hlt : k < 1200
    · have hI : decide (I < 1200) = true := decide_eq_true (by have := HI.out; omega)
      have HJ : Hid (I + 1 = ((k + 1 : Nat) : Int) * 1) := by have := HI.out; show _ = _; omega
      by_cases hin : k < K
      · obtain ⟨x, hx, hx0, hx1⟩ := HIn.out k hin
        have HP := hideS (fun wx => HPt.out (k + 1) (I + 1) (some x) wx (by omega) HJ.out hx)
        dsimp only [Option.getD, Option.isSome] at HP
        have HNx : Hid (il (k + 1) = il k ++ [x]) := by show _ = _; rw [HS.out, hx]; rfl
        go_wp2_with fail
        refine (HP.out _).mono ?_
        rintro e w2 ⟨rfl, hb2⟩
        have HB2 := hideS (HB.out.step hb2)
        have HO2 := hideS (iown_below HO.out hb2)
        clear c0 c1 c2 c3 c4 c5 c6 c7 c8 c9
        obtain ⟨c0, c1, c2, c3, c4, c5, c6, c7, c8, c9⟩ := HB2.out.cells
        have HOa : Hid (∀ o, (w2.alloc o).ownsRow (w.heap.size + 1) 3 1 (.slice q k c) k ((il k).map iV)) := fun o => iown_below HO2.out ((Below.refl _ w2).alloc (Nat.le_refl _) o)
        have HBa : Hid (∀ o, SBox w ⟨st, en, n, unit, stub, roll, conv, lag⟩ W v (w2.alloc o)) := fun o => HB2.out.step ((Below.refl _ w2).alloc (Nat.le_refl _) o)
        have hz2 : Hid (∀ o, w.heap.size + 1 ≤ (w2.alloc o).heap.size) := fun o => by have := Below.size (HBa.out o); simp at this ⊢; omega
        go_wp2_with (at_builtin; refine wpList_append_int _ rfl (.tmp 48) (.tmp 50) rfl (w.heap.size + 1) (.slice q k c) k (il k) rfl (HOa.out _) w2.heap.size x rfl (by simp) (by omega) (hz2.out _) ?_; intro v5 w5 ho5 hg5; have HB5 := hideS ((HBa.out _).stay (igrown_below (HOa.out _) hg5 (hz2.out _)) (Nat.le_refl _)); rw [← HNx.out] at ho5; obtain ⟨q5, g5, k5, hv5, _, _, _, hm5⟩ := iown_src ho5 (HL.out _); subst hv5; have HO5 := hideS ho5; clear ho5 hg5)
        go_roundw
        case rel => exact ⟨k + 1, I + 1, q5, k5, by omega, by omega, by omega, by have := HI.out; omega, rfl, rfl, rfl, by have := HI.out; show _ = _; omega, HO5, HB5⟩
        case measure => simp [intOf]; have := HI.out; omega
      · obtain rfl : k = K := by omega
        have HKl : Hid (k < 1200) := hlt
        rcases HOut.out with ⟨hx, hev⟩ | ⟨x, hx, hxo, hev⟩
        · have HP := hideS (fun wx => HPt.out (k + 1) (I + 1) none wx (by omega) HJ.out hx)
          dsimp only [Option.getD, Option.isSome] at HP
          have hkn : ((k : Int) == 1200) = false := beq_eq_false_iff_ne.2 (by omega)
          go_wp2_with fail
          refine (HP.out _).mono ?_
          rintro e w2 ⟨rfl, hb2⟩
          have HB2 := hideS (HB.out.step hb2)
          have HO2 := hideS (iown_below HO.out hb2)
          clear c0 c1 c2 c3 c4 c5 c6 c7 c8 c9
          go_wp2_with fail
          try rw [Exit.noGoto_ret]
          go_ret3
          exact ⟨Or.inr ⟨HKl.out, q, c, by rw [hev]; rfl, HO2.out⟩, HB2.out.below⟩
        · have HP := hideS (fun wx => HPt.out (k + 1) (I + 1) (some x) wx (by omega) HJ.out hx)
          dsimp only [Option.getD, Option.isSome] at HP
          have hkn : ((k : Int) == 1200) = false := beq_eq_false_iff_ne.2 (by omega)
          rcases hxo with hxo | ⟨hxo, hxo2⟩
          all_goals
            go_wp2_with fail
            refine (HP.out _).mono ?_
            rintro e w2 ⟨rfl, hb2⟩
            have HB2 := hideS (HB.out.step hb2)
            have HO2 := hideS (iown_below HO.out hb2)
            clear c0 c1 c2 c3 c4 c5 c6 c7 c8 c9
            obtain ⟨c0, c1, c2, c3, c4, c5, c6, c7, c8, c9⟩ := HB2.out.cells
            go_wp2_with fail
            try rw [Exit.noGoto_ret]
            go_ret3
            exact ⟨Or.inr ⟨HKl.out, q, c, by rw [hev]; rfl, HO2.out⟩, HB2.out.below⟩
    · have hI : decide (I < 1200) = false := decide_eq_false (by have := HI.out; omega)
      obtain rfl : k = 1200 := by omega
      go_wp2_with fail
      try rw [Exit.noGoto_ret]
      go_ret3
      exact ⟨Or.inl ⟨hk, rfl⟩, HB.out.below⟩
end Go.Proofs.YtphnainibdepbaaGreat
namespace Go.Proofs.YtphnainibdepbaaGreat
open Go.RowKit

set_option maxRecDepth 10000 in
set_option maxHeartbeats 16000000 in
theorem between_b (s : Spc) (W : Int) (v : Value) (K : Nat) (pk : Nat → Option Int) (il : Nat → List Int) (ev : Bool) (A O G : Int) (w : World) (t1 : 1 ≤ s.stub) (t2 : s.stub ≤ 4)
    (hbk : true = decide (s.stub ≤ 2)) (hA : A = s.en) (hO : O = s.st) (hG : G = -1) (H : Hid (BetH s W v K pk il ev A O G)) :
    Calls Tryz.prog 59 #[.agg #[.int .i64 s.st, .int .i64 s.en, .int .i64 s.n, .int .i64 s.unit, .int .i64 s.stub, .int .i64 s.roll, .int .i64 s.conv, .int .i64 s.lag, .int .i64 W, v]] w fun e w' => BetG il ev K w e w' ∧ Below w.heap.size w w' := by
  have HB0 := hideS (SBox.zero w s W v)
  have HSF := hideS (fun wx => stubF_any s W v wx t1 t2)
  rw [← hbk] at HSF
  have HIn := hideS H.out.ins
  have HOut := hideS H.out.out
  have HPt := hideS H.out.pt
  have HZ := hideS H.out.zero
  have HS := hideS H.out.succ
  have HL := hideS H.out.len
  have HG := hideS H.out.sg
  clear H t1 t2 hbk
  obtain ⟨st, en, n, unit, stub, roll, conv, lag⟩ := s
  dsimp only at *
  have HBd := hideS (HB0.out.step (Below.refl _ _).drew)
  have hA' := hA.symm
  have hO' := hO.symm
  subst hA' hO' hG
  clear hA hO
  go_enter Tryz.func59, Tryz.ntmps59
  go_wp2_with fail
  go_step3
  go_wp2_with fail
  go_region
  go_wp2_with fail
  refine (HSF.out _).mono ?_
  rintro e w1 ⟨rfl, hb1⟩
  have HB1 := hideS (HBd.out.step hb1)
  clear hb1 HB0 HBd
  obtain ⟨c0, c1, c2, c3, c4, c5, c6, c7, c8, c9⟩ := HB1.out.cells
  go_wp2_with fail
  go_region
  go_wp2_with fail
  go_step3
  go_wp2_with fail
  have HB2 := hideS (HB1.out.step (Below.refl _ w1).drew)
  clear c0 c1 c2 c3 c4 c5 c6 c7 c8 c9
  go_loopw [2, 3, 21] (fun vi eb i wr => ∃ (k : Nat) (I : Int) (q : Option Addr) (c : Nat), k ≤ K ∧ k ≤ 1200 ∧ 0 ≤ I ∧ I ≤ 1200 ∧ i = .int .i64 I ∧ vi = .slice q k c ∧ eb = .bool false ∧ Hid (I = (k : Int)) ∧ Hid (wr.ownsRow (w.heap.size + 1) 3 1 (.slice q k c) k ((il k).map iV)) ∧ Hid (SBox w ⟨st, en, n, unit, stub, roll, conv, lag⟩ W v wr)) (fun _ _ i _ => (1200 - intOf i).toNat)
  case atStart => exact ⟨0, 0, none, 0, by omega, by omega, by omega, by omega, rfl, rfl, rfl, rfl, by show World.ownsRow _ _ _ _ _ _ _; rw [HZ.out]; exact iown_nil _ _, by first | exact HB2 | exact HB1⟩
  case round =>
    clear HB1 HB2 HSF
    obtain ⟨k, I, q, c, hk, hk2, I0, I1, rfl, rfl, rfl, HI, HO, HB⟩ := hrel
    obtain ⟨c0, c1, c2, c3, c4, c5, c6, c7, c8, c9⟩ := HB.out.cells
    have hsz := HB.out.below.size
    by_cases hlt : k < 1200
    · have hI : decide (I < 1200) = true := decide_eq_true (by have := HI.out; omega)
      obtain ⟨J, hJ⟩ : ∃ J : Int, -1 * (I + 1) = J := ⟨_, rfl⟩
      have HJ : Hid (J = ((k + 1 : Nat) : Int) * -1) := by have := HI.out; show _ = _; omega
      have hJ2 : -(I + 1) = J := by omega
      have J0 : -1200 ≤ J := by have := HI.out; omega
      have J1 : J ≤ 1200 := by have := HI.out; omega
      by_cases hin : k < K
      · obtain ⟨x, hx, hx0, hx1⟩ := HIn.out k hin
        have HP := hideS (fun wx => HPt.out (k + 1) J (some x) wx (by omega) HJ.out hx)
        dsimp only [Option.getD, Option.isSome] at HP
        have HNx : Hid (il (k + 1) = il k ++ [x]) := by show _ = _; rw [HS.out, hx]; rfl
        go_wp2_with fail
        refine (HP.out _).mono ?_
        rintro e w2 ⟨rfl, hb2⟩
        have HB2 := hideS (HB.out.step hb2)
        have HO2 := hideS (iown_below HO.out hb2)
        clear c0 c1 c2 c3 c4 c5 c6 c7 c8 c9
        obtain ⟨c0, c1, c2, c3, c4, c5, c6, c7, c8, c9⟩ := HB2.out.cells
        have HOa : Hid (∀ o, (w2.alloc o).ownsRow (w.heap.size + 1) 3 1 (.slice q k c) k ((il k).map iV)) := fun o => iown_below HO2.out ((Below.refl _ w2).alloc (Nat.le_refl _) o)
        have HBa : Hid (∀ o, SBox w ⟨st, en, n, unit, stub, roll, conv, lag⟩ W v (w2.alloc o)) := fun o => HB2.out.step ((Below.refl _ w2).alloc (Nat.le_refl _) o)
        have hz2 : Hid (∀ o, w.heap.size + 1 ≤ (w2.alloc o).heap.size) := fun o => by have := Below.size (HBa.out o); simp at this ⊢; omega
        go_wp2_with (at_builtin; refine wpList_append_int _ rfl (.tmp 48) (.tmp 50) rfl (w.heap.size + 1) (.slice q k c) k (il k) rfl (HOa.out _) w2.heap.size x rfl (by simp) (by omega) (hz2.out _) ?_; intro v5 w5 ho5 hg5; have HB5 := hideS ((HBa.out _).stay (igrown_below (HOa.out _) hg5 (hz2.out _)) (Nat.le_refl _)); rw [← HNx.out] at ho5; obtain ⟨q5, g5, k5, hv5, _, _, _, hm5⟩ := iown_src ho5 (HL.out _); subst hv5; have HO5 := hideS ho5; clear ho5 hg5)
        go_roundw
        case rel => exact ⟨k + 1, I + 1, q5, k5, by omega, by omega, by omega, by have := HI.out; omega, rfl, rfl, rfl, by have := HI.out; show _ = _; omega, HO5, HB5⟩
        case measure => simp [intOf]; have := HI.out; omega
      · obtain rfl : k = K := by omega
        have HKl : Hid (k < 1200) := hlt
        rcases HOut.out with ⟨hx, hev⟩ | ⟨x, hx, hxo, hev⟩
        · have HP := hideS (fun wx => HPt.out (k + 1) J none wx (by omega) HJ.out hx)
          dsimp only [Option.getD, Option.isSome] at HP
          have hkn : ((k : Int) == 1200) = false := beq_eq_false_iff_ne.2 (by omega)
          go_wp2_with fail
          refine (HP.out _).mono ?_
          rintro e w2 ⟨rfl, hb2⟩
          have HB2 := hideS (HB.out.step hb2)
          have HO2 := hideS (iown_below HO.out hb2)
          clear c0 c1 c2 c3 c4 c5 c6 c7 c8 c9
          go_wp2_with fail
          try rw [Exit.noGoto_ret]
          go_ret3
          exact ⟨Or.inr ⟨HKl.out, q, c, by rw [hev]; rfl, HO2.out⟩, HB2.out.below⟩
        · have HP := hideS (fun wx => HPt.out (k + 1) J (some x) wx (by omega) HJ.out hx)
          dsimp only [Option.getD, Option.isSome] at HP
          have hkn : ((k : Int) == 1200) = false := beq_eq_false_iff_ne.2 (by omega)
          rcases hxo with hxo | ⟨hxo, hxo2⟩
          all_goals
            go_wp2_with fail
            refine (HP.out _).mono ?_
            rintro e w2 ⟨rfl, hb2⟩
            have HB2 := hideS (HB.out.step hb2)
            have HO2 := hideS (iown_below HO.out hb2)
            clear c0 c1 c2 c3 c4 c5 c6 c7 c8 c9
            obtain ⟨c0, c1, c2, c3, c4, c5, c6, c7, c8, c9⟩ := HB2.out.cells
            go_wp2_with fail
            try rw [Exit.noGoto_ret]
            go_ret3
            exact ⟨Or.inr ⟨HKl.out, q, c, by rw [hev]; rfl, HO2.out⟩, HB2.out.below⟩
    · have hI : decide (I < 1200) = false := decide_eq_false (by have := HI.out; omega)
      obtain rfl : k = 1200 := by omega
      go_wp2_with fail
      try rw [Exit.noGoto_ret]
      go_ret3
      exact ⟨Or.inl ⟨hk, rfl⟩, HB.out.below⟩
end Go.Proofs.YtphnainibdepbaaGreat
namespace Go.Proofs.YtphnainibdepbaaGreat
open Go.RowKit

theorem schBet_any (s : Spc) (W : Int) (v : Value) (K : Nat) (w : World) (h : SpcOk s) (hK : DatR s K) :
    Calls Tryz.prog 59 #[.agg #[.int .i64 s.st, .int .i64 s.en, .int .i64 s.n, .int .i64 s.unit, .int .i64 s.stub, .int .i64 s.roll, .int .i64 s.conv, .int .i64 s.lag, .int .i64 W, v]] w fun e w' => BetG (innL s) (evenB s K) K w e w' ∧ Below w.heap.size w w' := by
  have H : BetH s W v K (pkO s) (innL s) (evenB s K) (ancI s) (othI s) (sgnI s) := by
    have hsg : sgnI s = 1 ∨ sgnI s = -1 := by unfold sgnI; split; exact Or.inr rfl; exact Or.inl rfl
    have hA : isDayP (ancI s) := by unfold ancI; split; exact h.e0; exact h.s0
    refine ⟨fun j hj => pk_in h hK hj, ?_, fun k J o wx hk hJ ho => ?_, rfl, inn_succ s, inn_len s, hsg⟩
    · have ho := hK.out
      unfold evenB
      cases hp : pkO s (K + 1) with
      | none => exact Or.inl ⟨rfl, rfl⟩
      | some x =>
        rw [hp] at ho
        refine Or.inr ⟨x, rfl, ?_, rfl⟩
        have ho2 : (if s.stub ≤ 2 then decide (x ≤ s.st) else decide (s.en ≤ x)) = true := ho
        have hlt := h.lt
        by_cases e : s.stub ≤ 2
        · rw [if_pos e] at ho2
          have := of_decide_eq_true ho2
          exact Or.inl (decide_eq_false (by omega))
        · rw [if_neg e] at ho2
          have := of_decide_eq_true ho2
          exact Or.inr ⟨decide_eq_true (by omega), decide_eq_false (by omega)⟩
    · have hJb : -200000 ≤ J ∧ J ≤ 200000 := by rcases hsg with e | e <;> rw [e] at hJ <;> omega
      have := schStep_any s W (ancI s) J v wx h hA hJb.1 hJb.2
      have ho' : ptO s (ancI s) J = o := by rw [hJ]; exact ho
      rw [ho'] at this
      exact this
  by_cases e : s.stub ≤ 2
  · exact between_b s W v K (pkO s) (innL s) (evenB s K) (ancI s) (othI s) (sgnI s) w h.t1 h.t2 (decide_eq_true e).symm (if_pos e) (if_pos e) (if_pos e) H
  · exact between_f s W v K (pkO s) (innL s) (evenB s K) (ancI s) (othI s) (sgnI s) w h.t1 h.t2 (decide_eq_false e).symm (if_neg e) (if_neg e) (if_neg e) H
end Go.Proofs.YtphnainibdepbaaGreat
