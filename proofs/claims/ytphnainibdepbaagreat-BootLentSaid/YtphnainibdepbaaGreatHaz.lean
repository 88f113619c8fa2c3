/- Rows of quotes of one's own. A slice of quotes that came in, as a list. A row of quotes that came in as nil has no room. -/
import Derived.Test.YtphnainibdepbaaGreatHao
import Derived.Test.YtphnainibdepbaaGreatHav
import Derived.Test.YtphnainibdepbaaGreatHap
namespace Go.Proofs.YtphnainibdepbaaGreat
open Go.RowKit

def quoC (q : Quo) : List Value := [.int .i64 q.kind, .int .i64 q.fin, .int .i64 q.count, .int .i64 q.n, .float .f32 q.rate]
def rowQ : List Quo → List Value
  | [] => []
  | r :: l => quoC r ++ rowQ l
theorem rowQ_len : ∀ l : List Quo, (rowQ l).length = l.length * 5
  | [] => rfl
  | r :: l => by rw [rowQ, List.length_append, rowQ_len l, List.length_cons]; show 5 + _ = _; omega
theorem rowQ_append : ∀ a b : List Quo, rowQ (a ++ b) = rowQ a ++ rowQ b
  | [], _ => rfl
  | r :: a, b => by rw [List.cons_append, rowQ, rowQ, rowQ_append a b, List.append_assoc]
theorem rowQ_get : ∀ (l : List Quo) (i j : Nat), i < l.length → j < 5 → (rowQ l)[i * 5 + j]? = (quoC (l.getD i quo0))[j]?
  | [], i, j, h, _ => by simp at h
  | r :: l, 0, j, _, hj => by
    rw [rowQ, Nat.zero_mul, Nat.zero_add, List.getElem?_append_left (by show j < 5; exact hj)]; rfl
  | r :: l, i + 1, j, h, hj => by
    rw [rowQ, List.getElem?_append_right (by show 5 ≤ _; omega), show (i + 1) * 5 + j - (quoC r).length = i * 5 + j by show _ - 5 = _; omega, rowQ_get l i j (by simpa using h) hj]
    rfl
theorem rowQ_one : ∀ (l : List Quo), ∀ u ∈ rowQ l, u.oneCell' = true
  | [], u, h => by cases h
  | r :: l, u, h => by
    rw [rowQ, List.mem_append] at h
    rcases h with h | h
    · simp only [quoC, List.mem_cons, List.not_mem_nil, or_false] at h
      rcases h with rfl | rfl | rfl | rfl | rfl <;> rfl
    · exact rowQ_one l u h
theorem qown_src {w : World} {base n : Nat} {v : Value} {qs : List Quo} (h : w.ownsRow base 30 5 v n (rowQ qs)) (hn : qs.length = n) :
    ∃ p g c, v = .slice p n c ∧ QSrc w p g 0 qs ∧ base ≤ g ∧ n ≤ c ∧ c ≤ maxLen := by
  rcases h.2 with ⟨rfl, rfl⟩ | ⟨g, cap, cur, rfl, hg, hh, hnc, hcm, hsz, htk⟩
  · refine ⟨none, base, 0, rfl, ⟨fun h => by omega, fun h => by omega, fun i hi => by omega⟩, Nat.le_refl _, Nat.le_refl _, Nat.zero_le _⟩
  · refine ⟨_, g, cap, rfl, ⟨fun _ => rfl, fun _ => (Array.getElem?_eq_some_iff.1 hh).1, fun i hi => ?_⟩, hg, hnc, hcm⟩
    have key : ∀ j < 5, w.cell? ⟨g, 0 + i * 5 + j, none⟩ = (quoC (qs.getD i quo0))[j]? := fun j hj => by
      rw [← rowQ_get qs i j hi hj, show 0 + i * 5 + j = i * 5 + j by omega]
      exact World.ownsRow.cellAt h (i * 5 + j) (by omega)
    exact ⟨key 0 (by omega), key 1 (by omega), key 2 (by omega), key 3 (by omega), key 4 (by omega)⟩
theorem info_quo : (Tryz.prog.info? 30).map (fun i => (i.zero, i.size, i.bytes)) = some (some (.agg #[.int .i64 0, .int .i64 0, .int .i64 0, .int .i64 0, .float .f32 0]), 5, 40) := by kernel_rfl
theorem qown_below {w w' : World} {base n : Nat} {v : Value} {xs : List Quo} (h : w.ownsRow base 30 5 v n (rowQ xs)) (hb : Below w.heap.size w w') : w'.ownsRow base 30 5 v n (rowQ xs) := by
  refine ⟨h.1, ?_⟩
  rcases h.2 with hn | ⟨g, cap, cur, rfl, hg, hgg, rest⟩
  · exact .inl hn
  · exact .inr ⟨g, cap, cur, rfl, hg, by rw [hb.block g (Array.getElem?_eq_some_iff.1 hgg).1]; exact hgg, rest⟩
theorem qgrown_below {w w' : World} {v : Value} {B n : Nat} {xs : List Value} (ho : w.ownsRow B 30 5 v n xs) (hg : w.grownBy w' v.ownBlock) (hB : B ≤ w.heap.size) : Below B w w' :=
  (Below.refl B w).grown hg hB (fun k hk => by
    rcases ho.2 with ⟨rfl, _⟩ | ⟨g, cap, cur, rfl, hbg, _⟩
    · cases hk
    · obtain rfl : g = k := by simpa [Value.ownBlock] using hk
      exact hbg)
theorem wpList_append_quo (w : World) {ops : Array Oper} {rest : List Oper} {o : Oper} {a : Act} {Q : Exit → Act → World → Prop} (hgd : o.guard = none) (s x : Operand)
    (ho : o.op = .call { callee := .builtin .append, args := #[s, x], argTypes := #[25, 25] })
    (base : Nat) (v : Value) (n : Nat) (xs : List Quo) (hs : a.eval s = v) (hown : w.ownsRow base 30 5 v n (rowQ xs))
    (b off c : Nat) (ys : List Quo) (hx : a.eval x = .slice (some ⟨b, off, none⟩) ys.length c) (hsrc : ∀ i < ys.length, QCells w b (off + i * 5) (ys.getD i quo0)) (hn : n ≤ 100000) (hm : ys.length ≤ 100000) (hbase : base ≤ w.heap.size)
    (h : ∀ v' w', w'.ownsRow base 30 5 v' (n + ys.length) (rowQ (xs ++ ys)) → w.grownBy w' v.ownBlock → wpList Tryz.prog ops Q rest (a.put o.dst v') w') : wpList Tryz.prog ops Q (o :: rest) a w := by
  obtain ⟨i0, hi, hz0, hz1, hz2⟩ := info_parts info_quo
  refine wpList_append_own w hgd s x 25 ho base 30 i0 (.agg #[.int .i64 0, .int .i64 0, .int .i64 0, .int .i64 0, .float .f32 0]) 5 40 Tryz.underlying25 hi hz0 hz1 hz2 rfl (by decide) v n (rowQ xs) hs hown ⟨b, off, none⟩ ys.length c (rowQ ys) hx (rowQ_len ys) ?_ (rowQ_one ys) (by unfold maxLen; omega) (by omega) hbase ?_
  · intro j u hj
    have hlt : j < ys.length * 5 := by
      have := (List.getElem?_eq_some_iff.1 hj).1
      rw [rowQ_len] at this
      exact this
    rw [Addr.add_lit]
    obtain ⟨i, m, rfl, hm5⟩ : ∃ i m, j = i * 5 + m ∧ m < 5 := ⟨j / 5, j % 5, by omega, Nat.mod_lt _ (by omega)⟩
    have hq : i < ys.length := by omega
    rw [rowQ_get ys _ _ hq hm5] at hj
    have hc := hsrc _ hq
    rw [← hj]
    rw [← Nat.add_assoc]
    rcases (show m = 0 ∨ m = 1 ∨ m = 2 ∨ m = 3 ∨ m = 4 by omega) with rfl | rfl | rfl | rfl | rfl
    · exact hc.c0
    · exact hc.c1
    · exact hc.c2
    · exact hc.c3
    · exact hc.c4
  · intro v' w' h1 h2 _
    refine h v' w' ?_ h2
    rw [rowQ_append]; exact h1
end Go.Proofs.YtphnainibdepbaaGreat
namespace Go.Proofs.YtphnainibdepbaaGreat
open Go.ChangeShapes Go.WideShapes Go.ChangeAt Go.RowKit

theorem cellsQuo : Tryz.prog.cellsOf 30 = 5 := by kernel_rfl
theorem cellsF32 : Tryz.prog.cellsOf 28 = 1 := by kernel_rfl
theorem elem_f32 {H : Type} {enc : TypeId × Value → H} {P : Program} {w : World} {base n : Nat} {spare : Nat → Bool} {held : Bool} {e : TypeId} {v : Value} {x : DataW H × List MemPlace} (ht : P.underlying e = some (.float .f32)) (h : DataW.trod enc P w base spare held n e [v] = some x) :
    ∃ b, v = .float .f32 b ∧ b < 4294967296 := by
  cases n with
  | zero => simp [DataW.trod] at h
  | succ n =>
    cases v with
    | float k b =>
      simp only [DataW.trod, ht] at h
      by_cases hw : k = .f32 ∧ (Lit.float .f32 b).wf = true
      · obtain ⟨rfl, hw⟩ := hw
        exact ⟨b, rfl, by simpa [Lit.wf] using hw⟩
      · rw [if_neg hw] at h; cases h
    | _ => simp [DataW.trod, ht] at h
def fltV : Value → Nat
  | .float _ b => b
  | _ => 0
def quoOf (f : Nat → Value) : Quo := ⟨intV (f 0), intV (f 1), intV (f 2), intV (f 3), fltV (f 4)⟩
structure QuoI (q : Quo) : Prop where
  (kind : I64 q.kind) (fin : I64 q.fin) (count : I64 q.count) (n : I64 q.n) (rate : q.rate < 4294967296)

theorem quote_cells {H : Type} {enc : TypeId × Value → H} {w : World} {base n : Nat} {spare : Nat → Bool} {held : Bool} {cs : List Value} {x : DataW H × List MemPlace} (h : DataW.trod enc Tryz.prog w base spare held n 30 cs = some x) :
    (∀ j < 4, ∃ z, cs[j]? = some (.int .i64 z) ∧ I64 z) ∧ ∃ b, cs[4]? = some (.float .f32 b) ∧ b < 4294967296 := by
  obtain ⟨xs, m, _, _, hl, hlen, hf⟩ := DataW.trod_struct Tryz.underlying30 h
  rw [cellsQuo] at hl
  have hlen5 : xs.length = 5 := hlen
  have one : ∀ j, j < cs.length → (cs.drop j).take 1 = [cs.getD j (.int .i64 0)] := fun j hj => by
    rw [List.drop_eq_getElem_cons hj, List.take_succ_cons, List.take_zero, List.getD_eq_getElem?_getD, List.getElem?_eq_getElem hj]; rfl
  have key : ∀ j < 4, DataW.trod enc Tryz.prog w base spare held m 3 ((cs.drop j).take 1) = xs[j]? := fun j hj => by
    have e0 : DataW.trod enc Tryz.prog w base spare held m 3 ((cs.drop 0).take (Tryz.prog.cellsOf 3)) = xs[0]? := hf 0 _ rfl
    rw [cellsI] at e0
    have e1 : DataW.trod enc Tryz.prog w base spare held m 3 ((cs.drop 1).take (Tryz.prog.cellsOf 3)) = xs[1]? := hf 1 _ rfl
    rw [cellsI] at e1
    have e2 : DataW.trod enc Tryz.prog w base spare held m 3 ((cs.drop 2).take (Tryz.prog.cellsOf 3)) = xs[2]? := hf 2 _ rfl
    rw [cellsI] at e2
    have e3 : DataW.trod enc Tryz.prog w base spare held m 3 ((cs.drop 3).take (Tryz.prog.cellsOf 3)) = xs[3]? := hf 3 _ rfl
    rw [cellsI] at e3
    rcases (show j = 0 ∨ j = 1 ∨ j = 2 ∨ j = 3 by omega) with rfl | rfl | rfl | rfl
    · exact e0
    · exact e1
    · exact e2
    · exact e3
  have key4 : DataW.trod enc Tryz.prog w base spare held m 28 ((cs.drop 4).take 1) = xs[4]? := by
    have e4 : DataW.trod enc Tryz.prog w base spare held m 28 ((cs.drop 4).take (Tryz.prog.cellsOf 28)) = xs[4]? := hf 4 _ rfl
    rw [cellsF32] at e4
    exact e4
  refine ⟨fun j hj => ?_, ?_⟩
  · have e := key j hj
    rw [List.getElem?_eq_getElem (by omega)] at e
    obtain ⟨z, hz, _, hw⟩ := DataW.trod_int Tryz.underlying3 e
    refine ⟨z, ?_, i64_of_wf hw⟩
    have hj' : j < cs.length := by omega
    rw [List.drop_eq_getElem_cons hj', List.take_succ_cons, List.take_zero] at hz
    rw [List.getElem?_eq_getElem hj']
    exact congrArg some (List.cons.inj hz).1
  · have hj' : 4 < cs.length := by omega
    rw [List.getElem?_eq_getElem (by omega), one 4 hj'] at key4
    obtain ⟨b, hb, hlt⟩ := elem_f32 Tryz.underlying28 key4
    refine ⟨b, ?_, hlt⟩
    rw [List.getD_eq_getElem?_getD, List.getElem?_eq_getElem hj'] at hb
    rw [List.getElem?_eq_getElem hj']
    exact congrArg some hb

theorem quotes_source {H : Type} {enc : TypeId × Value → H} {W : World} {fuel : Nat} {v : Value} {x : DataW H × List MemPlace} (h : DataW.trod enc Tryz.prog W 0 (fun _ => true) true fuel 25 [v] = some x) :
    ∃ p len cap, v = .slice p len cap ∧ len ≤ cap ∧ cap ≤ maxLen ∧ ∃ b off qs, qs.length = len ∧ QSrc W p b off qs ∧ ∀ q ∈ qs, QuoI q := by
  rcases Go.Deep.open_slice Tryz.underlying25 h with ⟨hcs, _⟩ | ⟨a, len, cap, m, n, D, Pl, hcs, _, hl, hm, hmm, _, hc⟩
  · obtain rfl := (List.cons.inj hcs).1
    exact ⟨none, 0, 0, rfl, Nat.le_refl _, Nat.zero_le _, 0, 0, [], rfl, ⟨fun h => by simp at h, fun h => by simp at h, fun j hj => by simp at hj⟩, fun r hr => by simp at hr⟩
  · obtain rfl := (List.cons.inj hcs).1
    simp only [if_true] at hmm
    subst hmm
    obtain ⟨b, off, spot⟩ := a
    refine ⟨_, len, m, rfl, hl, hm, ?_⟩
    rw [cellsQuo] at hc
    have hv : ∀ i, i < len → ∃ f : Nat → Value, (∀ j < 4, ∃ z, f j = .int .i64 z ∧ I64 z ∧ W.cell? (Addr.add (Addr.add ⟨b, off, spot⟩ (i * 5)) j) = some (.int .i64 z)) ∧ ∃ r, f 4 = .float .f32 r ∧ r < 4294967296 ∧ W.cell? (Addr.add (Addr.add ⟨b, off, spot⟩ (i * 5)) 4) = some (.float .f32 r) := fun i hi => by
      obtain ⟨cs', h1, h2⟩ := hc i (by omega)
      obtain ⟨_, _, hcell⟩ := World.cells?_some h1
      obtain ⟨hr, r, hr4, hrl⟩ := quote_cells h2
      refine ⟨fun j => cs'.getD j (.int .i64 0), fun j hj => ?_, r, ?_, hrl, (hcell 4 (by omega)).trans hr4⟩
      · obtain ⟨z, hz, hz2⟩ := hr j hj
        refine ⟨z, ?_, hz2, (hcell j (by omega)).trans hz⟩
        show cs'.getD j _ = _
        rw [List.getD_eq_getElem?_getD, hz]; rfl
      · show cs'.getD 4 _ = _
        rw [List.getD_eq_getElem?_getD, hr4]; rfl
    have hv2 : ∃ F : Nat → Nat → Value, ∀ i, i < len → (∀ j < 4, W.cell? (Addr.add (Addr.add ⟨b, off, spot⟩ (i * 5)) j) = some (.int .i64 (intV (F i j))) ∧ I64 (intV (F i j))) ∧ W.cell? (Addr.add (Addr.add ⟨b, off, spot⟩ (i * 5)) 4) = some (.float .f32 (fltV (F i 4))) ∧ fltV (F i 4) < 4294967296 := by
      refine ⟨fun i => if hi : i < len then (hv i hi).choose else fun _ => .int .i64 0, fun i hi => ?_⟩
      dsimp only
      rw [dif_pos hi]
      obtain ⟨h1, r, h2, h3, h4⟩ := (hv i hi).choose_spec
      refine ⟨fun j hj => ?_, ?_⟩
      · obtain ⟨z, hz, hz2, hz3⟩ := h1 j hj
        rw [hz]; exact ⟨hz3, hz2⟩
      · rw [h2]; exact ⟨h4, h3⟩
    obtain ⟨F, hF⟩ := hv2
    have hg : ∀ i, i < len → ((List.range len).map fun i => quoOf (F i)).getD i quo0 = quoOf (F i) := fun i hi => by simp [List.getD, hi]
    have hsp : 0 < len → spot = none := fun h0 => by
      have h2 := World.cell?_spot ((hF 0 h0).1 0 (by omega)).1
      simpa [Addr.add] using h2
    refine ⟨b, off, (List.range len).map fun i => quoOf (F i), by simp, ⟨fun h0 => ?_, fun h0 => ?_, fun j hj => ?_⟩, fun r hr => ?_⟩
    · rw [hsp (by simpa using h0)]
    · have h1 := ((hF 0 (by simpa using h0)).1 0 (by omega)).1
      have h3 := World.block_lt_of_cell? _ _ h1
      simpa [Addr.add] using h3
    · have hj' : j < len := by simpa using hj
      have hs := hsp (by omega)
      subst hs
      rw [hg j hj']
      have e : ∀ k < 4, W.cell? ⟨b, off + j * 5 + k, none⟩ = some (.int .i64 (intV (F j k))) := fun k hk => by
        have h1 := ((hF j hj').1 k hk).1
        rw [Addr.add_lit, Addr.add_lit] at h1
        exact h1
      have e4 : W.cell? ⟨b, off + j * 5 + 4, none⟩ = some (.float .f32 (fltV (F j 4))) := by
        have h1 := (hF j hj').2.1
        rw [Addr.add_lit, Addr.add_lit] at h1
        exact h1
      exact ⟨e 0 (by omega), e 1 (by omega), e 2 (by omega), e 3 (by omega), e4⟩
    · obtain ⟨i, hi, rfl⟩ := List.mem_map.1 hr
      have hi' : i < len := by simpa using hi
      have e : ∀ k < 4, I64 (intV (F i k)) := fun k hk => ((hF i hi').1 k hk).2
      exact ⟨e 0 (by omega), e 1 (by omega), e 2 (by omega), e 3 (by omega), (hF i hi').2.2⟩
end Go.Proofs.YtphnainibdepbaaGreat
namespace Go.Proofs.YtphnainibdepbaaGreat
open Go.ChangeShapes Go.WideShapes Go.ChangeAt Go.RowKit

theorem quo_nil {H : Type} {enc : TypeId × Value → H} {W : World} {p : Option Addr} {l c m : Nat} {x : DataW H × List MemPlace} (h : DataW.trod enc Tryz.prog W 0 (fun _ => true) true m 25 [.slice p l c] = some x) : p = none → l = 0 ∧ c = 0 := fun hp => by
  rcases Go.Deep.open_slice Tryz.underlying25 h with ⟨hcs, _⟩ | ⟨a, len', cap', m', n', D, Pl, hcs, _, _, _, _, _, _⟩
  · have := (List.cons.inj hcs).1
    cases this
    exact ⟨rfl, rfl⟩
  · have := (List.cons.inj hcs).1
    subst hp
    cases this
end Go.Proofs.YtphnainibdepbaaGreat
