/- A tree out of code, the document's way, in plain words: pieces of their own, put together; it is the builder's tree. The document's pieces: the whole of one, and two put together. The document's pieces in a row of one's own; what holds of all of them. -/
import Derived.Test.YtienedhaogjahaaGreatDoorHbo
import Derived.Test.YtienedhaogjahaaGreatDoorHbp
import Derived.Test.YtienedhaogjahaaGreatDoorHba
import Derived.Test.YtienedhaogjahaaGreatDoorHbh
import Derived.Test.YtienedhaogjahaaGreatDoorHbf
import Derived.Test.YtienedhaogjahaaGreatDoorLate
namespace Go.Proofs.YtienedhaogjahaaGreatDoor
open Go.RowKit

def shT (n : Nat) (t : Trm) : Trm := { t with a := if 4 ≤ t.kind then t.a + n else t.a, b := if t.kind = 5 then t.b + n else t.b }
def jnP (a : Option (List Trm)) (b : List Trm) : List Trm :=
  match a with
  | none => b
  | some A => A ++ b.map (shT A.length) ++ [boT ((A.length : Int) - 1) (((A.length + b.length : Nat) : Int) - 1)]
def whP (p : Option (List Trm)) : List Trm := p.getD [zrT]
def docS (o : Opr) (ps : List (Option (List Trm))) : List (Option (List Trm)) :=
  if o.kind = 1 then ps ++ [none]
  else if takO o = true then
    ps.dropLast.dropLast ++ [some (jnP (ps.dropLast.getLastD none) (whP (ps.getLastD none) ++ [{ tmO o with a := ((whP (ps.getLastD none)).length : Int) - 1 }]))]
  else ps.dropLast ++ [some (jnP (ps.getLastD none) [tmO o])]
def docF (l : List Opr) : Nat → List (Option (List Trm))
  | 0 => [none]
  | k + 1 => docS (l.getD k opr0) (docF l k)
def flO (s : List Trm × List Int) (p : Option (List Trm)) : List Trm × List Int :=
  match p with
  | none => (s.1, s.2 ++ [-1])
  | some T => (s.1 ++ T.map (shT s.1.length), s.2 ++ [((s.1.length + T.length : Nat) : Int) - 1])
def flS (ps : List (Option (List Trm))) : List Trm × List Int := ps.foldl flO ([], [])
theorem flS_snoc (ps : List (Option (List Trm))) (p : Option (List Trm)) : flS (ps ++ [p]) = flO (flS ps) p := by
  unfold flS
  rw [List.foldl_append]; rfl
theorem shT_leaf {t : Trm} (h : t.kind ≤ 3) (n : Nat) : shT n t = t := by
  unfold shT
  rw [if_neg (by omega), if_neg (by omega)]
theorem shT_zero (t : Trm) : shT 0 t = t := by
  unfold shT
  obtain ⟨k, a, b, x, y, day, to, cur, count, n, months⟩ := t
  simp
theorem shT_shT (m n : Nat) (t : Trm) : shT m (shT n t) = shT (m + n) t := by
  unfold shT
  obtain ⟨k, a, b, x, y, day, to, cur, count, c, months⟩ := t
  dsimp only
  by_cases h4 : 4 ≤ k <;> by_cases h5 : k = 5 <;> simp [h4, h5] <;> omega
theorem map_shT (m n : Nat) (l : List Trm) : (l.map (shT n)).map (shT m) = l.map (shT (m + n)) := by
  rw [List.map_map]
  exact List.map_congr_left fun t _ => shT_shT m n t
theorem shT_bo (n : Nat) (a b : Int) : shT n (boT a b) = boT (a + n) (b + n) := by
  unfold shT boT
  rfl
theorem oTm_3 {k : Int} (h : 2 ≤ k ∧ k ≤ 3) : oTm k ≤ 3 := by unfold oTm; rw [if_pos (by omega)]; omega
def NeP (ps : List (Option (List Trm))) : Prop := ∀ T, some T ∈ ps → 1 ≤ T.length
theorem bs_lem (s : List Trm × List Int) (y : Option (List Trm)) (C : List Trm) (hC : 1 ≤ C.length) (hy : ∀ T, y = some T → 1 ≤ T.length) :
    (bsT ((flO s y).2.getLastD (-1)) ((((flO s y).1.length + C.length - 1 : Nat)) : Int) ((flO s y).1 ++ C.map (shT (flO s y).1.length)), (flO s y).2.dropLast ++ [bsI ((flO s y).2.getLastD (-1)) ((((flO s y).1.length + C.length - 1 : Nat)) : Int) ((flO s y).1 ++ C.map (shT (flO s y).1.length))]) = flO s (some (jnP y C)) := by
  obtain ⟨ts, is⟩ := s
  cases y with
  | none =>
    have e1 : (is ++ [(-1 : Int)]).getLastD (-1) = -1 := by simp
    have e2 : (is ++ [(-1 : Int)]).dropLast = is := by simp
    show (bsT ((is ++ [(-1 : Int)]).getLastD (-1)) ((ts.length + C.length - 1 : Nat) : Int) (ts ++ C.map (shT ts.length)), (is ++ [(-1 : Int)]).dropLast ++ [bsI ((is ++ [(-1 : Int)]).getLastD (-1)) ((ts.length + C.length - 1 : Nat) : Int) (ts ++ C.map (shT ts.length))]) = (ts ++ C.map (shT ts.length), is ++ [((ts.length + C.length : Nat) : Int) - 1])
    rw [e1, e2]
    unfold bsT bsI
    rw [if_pos rfl, if_pos rfl, show ((ts.length + C.length - 1 : Nat) : Int) = ((ts.length + C.length : Nat) : Int) - 1 by omega]
  | some Y =>
    have h1 := hy Y rfl
    obtain ⟨z, hz⟩ : ∃ z, ((ts.length + Y.length : Nat) : Int) - 1 = z := ⟨_, rfl⟩
    have e1 : (is ++ [z]).getLastD (-1) = z := by simp
    have e2 : (is ++ [z]).dropLast = is := by simp
    have hz1 : ¬ z = -1 := by omega
    have hl : (ts ++ Y.map (shT ts.length)).length = ts.length + Y.length := by simp
    show (bsT ((is ++ [((ts.length + Y.length : Nat) : Int) - 1]).getLastD (-1)) (((ts ++ Y.map (shT ts.length)).length + C.length - 1 : Nat) : Int) (ts ++ Y.map (shT ts.length) ++ C.map (shT (ts ++ Y.map (shT ts.length)).length)), (is ++ [((ts.length + Y.length : Nat) : Int) - 1]).dropLast ++ [bsI ((is ++ [((ts.length + Y.length : Nat) : Int) - 1]).getLastD (-1)) (((ts ++ Y.map (shT ts.length)).length + C.length - 1 : Nat) : Int) (ts ++ Y.map (shT ts.length) ++ C.map (shT (ts ++ Y.map (shT ts.length)).length))]) = (ts ++ (Y ++ C.map (shT Y.length) ++ [boT ((Y.length : Int) - 1) (((Y.length + C.length : Nat) : Int) - 1)]).map (shT ts.length), is ++ [((ts.length + (Y ++ C.map (shT Y.length) ++ [boT ((Y.length : Int) - 1) (((Y.length + C.length : Nat) : Int) - 1)]).length : Nat) : Int) - 1])
    rw [hz, e1, e2, hl]
    unfold bsT bsI
    rw [if_neg hz1, if_neg hz1]
    refine Prod.ext ?_ ?_
    · show ts ++ Y.map (shT ts.length) ++ C.map (shT (ts.length + Y.length)) ++ [boT z _] = _
      rw [List.map_append, List.map_append, map_shT, List.map_singleton, shT_bo, ← hz, show ((Y.length : Int) - 1 + (ts.length : Int)) = ((ts.length + Y.length : Nat) : Int) - 1 by omega, show (((Y.length + C.length : Nat) : Int) - 1 + (ts.length : Int)) = ((ts.length + Y.length + C.length - 1 : Nat) : Int) by omega]
      simp
    · show is ++ [_] = is ++ [_]
      simp only [List.length_append, List.length_map, List.length_singleton]
      rw [show ((ts.length + Y.length + C.length : Nat) : Int) = ((ts.length + (Y.length + C.length + 1) : Nat) : Int) - 1 by omega]
theorem jnP_len (y : Option (List Trm)) (C : List Trm) (h : 1 ≤ C.length) : 1 ≤ (jnP y C).length := by
  cases y with
  | none => exact h
  | some Y => show 1 ≤ (Y ++ _ ++ _).length; simp; omega
theorem fit_of_bad2 {o : Opr} {m : Int} (h : badO o m = 0) : 1 ≤ o.kind ∧ o.kind ≤ 7 := by
  unfold badO at h
  cases hf : fitO o with
  | false => rw [if_pos (.inl hf)] at h; cases h
  | true =>
    by_cases hk : 1 ≤ o.kind ∧ o.kind ≤ 7
    · exact hk
    · unfold fitO at hf
      rw [if_neg (by omega), if_neg (by omega), if_neg (by omega), if_neg (by omega), if_neg (by omega), if_neg (by omega)] at hf
      cases hf
theorem wh_lem (s : List Trm × List Int) (x : Option (List Trm)) (hx : ∀ T, x = some T → 1 ≤ T.length) : whT ((flO s x).2.getLastD (-1)) (flO s x).1 = s.1 ++ (whP x).map (shT s.1.length) ∧ whI ((flO s x).2.getLastD (-1)) (flO s x).1 = ((s.1.length + (whP x).length : Nat) : Int) - 1 := by
  cases x with
  | none =>
    have e : (flO s none).2.getLastD (-1) = -1 := by simp [flO]
    rw [e]
    unfold whT whI
    rw [if_pos rfl, if_pos rfl]
    refine ⟨?_, by show (s.1.length : Int) = ((s.1.length + 1 : Nat) : Int) - 1; omega⟩
    show s.1 ++ [zrT] = s.1 ++ [zrT].map (shT s.1.length)
    rw [List.map_singleton, shT_leaf (by decide)]
  | some T =>
    have e : (flO s (some T)).2.getLastD (-1) = ((s.1.length + T.length : Nat) : Int) - 1 := by simp [flO]
    have h1 := hx T rfl
    rw [e]
    unfold whT whI
    rw [if_neg (by omega), if_neg (by omega)]
    exact ⟨rfl, rfl⟩
theorem bld_doc {l : List Opr} (h : OkL l) : ∀ k, k ≤ l.length → bldF l k = flS (docF l k) ∧ ((docF l k).length : Int) = mkN l k + 1 ∧ NeP (docF l k)
  | 0, _ => ⟨rfl, rfl, fun T hT => by simp [docF] at hT⟩
  | k + 1, hk => by
    obtain ⟨ih, hln, hne⟩ := bld_doc h k (by omega)
    have hb := h.ok k (by omega)
    have m0 := (mk_range l k (fun i hi => h.ok i (by omega))).1
    have hkf := fit_of_bad2 hb
    have hm1 : mkN l (k + 1) = if (l.getD k opr0).kind = 1 then mkN l k + 1 else if takO (l.getD k opr0) then mkN l k - 1 else mkN l k := rfl
    rw [hm1]
    show bldS (l.getD k opr0) (bldF l k) = flS (docS (l.getD k opr0) (docF l k)) ∧ ((docS (l.getD k opr0) (docF l k)).length : Int) = _ ∧ NeP (docS (l.getD k opr0) (docF l k))
    rw [ih]
    generalize l.getD k opr0 = o at *
    generalize docF l k = ps at *
    obtain ⟨ms, x, rfl⟩ := list_last ps (by omega)
    have q1 : (ms ++ [x]).getLastD none = x := by simp
    have q2 : (ms ++ [x]).dropLast = ms := by simp
    have hx : ∀ T, x = some T → 1 ≤ T.length := fun T e => hne T (by simp [e])
    have hms : NeP ms := fun T hT => hne T (List.mem_append_left _ hT)
    rw [List.length_append, List.length_singleton] at hln
    unfold bldS docS
    by_cases hk1 : o.kind = 1
    · rw [if_pos hk1, if_pos hk1, if_pos hk1, flS_snoc _ none]
      refine ⟨rfl, by simp; omega, fun T hT => ?_⟩
      rcases List.mem_append.1 hT with hT | hT
      · exact hne T hT
      · simp at hT
    · rw [if_neg hk1, if_neg hk1, if_neg hk1, q1, q2]
      by_cases ht : takO o = true
      · rw [if_pos ht, if_pos ht, if_pos ht]
        have h47 : 4 ≤ o.kind ∧ o.kind ≤ 7 := by
          unfold takO at ht
          rw [Bool.and_eq_true, decide_eq_true_iff, decide_eq_true_iff] at ht
          exact ht
        have hm : mkN l k ≠ 0 := fun e => by rw [e] at hb; exact absurd hb (bad_take ht)
        obtain ⟨ms', y, rfl⟩ := list_last ms (by omega)
        have q3 : (ms' ++ [y]).getLastD none = y := by simp
        have q4 : (ms' ++ [y]).dropLast = ms' := by simp
        have hy : ∀ T, y = some T → 1 ≤ T.length := fun T e => hms T (by simp [e])
        rw [q3, q4]
        refine ⟨?_, by rw [List.length_append, List.length_singleton]; rw [List.length_append, List.length_singleton] at hln; omega, fun T hT => ?_⟩
        · rw [flS_snoc, flS_snoc, flS_snoc]
          have ho : oTm o.kind = 4 ∨ (6 ≤ oTm o.kind ∧ oTm o.kind ≤ 8) := by
            unfold oTm
            split
            · omega
            · rw [if_pos (by omega)]; omega
          generalize flS ms' = s
          have hsh : ∀ (n : Nat) (A : Int), shT n { tmO o with a := A } = { tmO o with a := A + n } := fun n A => by
            unfold shT tmO
            dsimp only
            rw [if_pos (by omega), if_neg (by omega)]
          obtain ⟨s1, hs1⟩ : ∃ s1, flO s y = s1 := ⟨_, rfl⟩
          have hB := bs_lem s y (whP x ++ [{ tmO o with a := ((whP x).length : Int) - 1 }]) (by simp) hy
          rw [hs1] at hB ⊢
          obtain ⟨w1, w2⟩ := wh_lem s1 x hx
          rw [w1, w2]
          have e1 : (flO s1 x).2.dropLast = s1.2 := by cases x <;> simp [flO]
          rw [e1]
          have e2 : (s1.1 ++ (whP x).map (shT s1.1.length)).length = s1.1.length + (whP x).length := by simp
          have e3 : (s1.1.length + (whP x ++ [({ tmO o with a := ((whP x).length : Int) - 1 } : Trm)]).length - 1 : Nat) = s1.1.length + (whP x).length := by simp
          rw [e3, List.map_append, List.map_singleton, hsh, show ((whP x).length : Int) - 1 + (s1.1.length : Int) = ((s1.1.length + (whP x).length : Nat) : Int) - 1 by omega, ← List.append_assoc] at hB
          rw [e2]
          exact hB
        · rcases List.mem_append.1 hT with hT | hT
          · exact hms T (List.mem_append_left _ hT)
          · rw [List.mem_singleton] at hT
            injection hT with hT
            rw [hT]
            exact jnP_len _ _ (by simp)
      · rw [if_neg ht, if_neg ht, if_neg ht]
        refine ⟨?_, by rw [List.length_append, List.length_singleton]; omega, fun T hT => ?_⟩
        · rw [flS_snoc, flS_snoc]
          have h3 : (tmO o).kind ≤ 3 := by
            have : ¬ (4 ≤ o.kind ∧ o.kind ≤ 7) := fun hh => ht (by unfold takO; rw [decide_eq_true hh.1, decide_eq_true hh.2]; rfl)
            exact oTm_3 (by omega)
          generalize flS ms = s
          have hB := bs_lem s x [tmO o] (by simp) hx
          rw [List.map_singleton, shT_leaf h3, show ((flO s x).1.length + [tmO o].length - 1 : Nat) = (flO s x).1.length by simp] at hB
          have e1 : (flO s x).2.dropLast = s.2 := by cases x <;> simp [flO]
          exact hB
        · rcases List.mem_append.1 hT with hT | hT
          · exact hms T hT
          · rw [List.mem_singleton] at hT
            injection hT with hT
            rw [hT]
            exact jnP_len _ _ (by simp)
theorem bk_doc {l : List Opr} (h : OkL l) (hz : mkN l l.length = 0) : ∃ x, docF l l.length = [x] ∧ whP x = bkT l := by
  obtain ⟨e, hln, hne⟩ := bld_doc h l.length (Nat.le_refl _)
  obtain ⟨x, hx⟩ : ∃ x, docF l l.length = [x] := by
    match docF l l.length, (show (docF l l.length).length = 1 by omega) with
    | [x], _ => exact ⟨x, rfl⟩
  refine ⟨x, hx, ?_⟩
  unfold bkT
  rw [e, hx]
  have := (wh_lem ([], []) x (fun T hT => hne T (by rw [hx, hT]; simp))).1
  show _ = whT ((flO ([], []) x).2.getLastD (-1)) (flO ([], []) x).1
  rw [this]
  show whP x = [] ++ (whP x).map (shT 0)
  rw [List.nil_append]
  conv => lhs; rw [← List.map_id (whP x)]
  exact List.map_congr_left fun t _ => (shT_zero t).symm
end Go.Proofs.YtienedhaogjahaaGreatDoor
namespace Go.Proofs.YtienedhaogjahaaGreatDoor
open Go.RowKit

def PcM (B : Nat) (p : Option (List Trm)) (v : Value) (h : Bool) (w : World) : Prop :=
  match p with
  | none => v = .slice none 0 0 ∧ h = false
  | some T => h = true ∧ w.ownsRow B 64 11 v T.length (rowV trD T)
theorem PcM.below {B : Nat} {p : Option (List Trm)} {v : Value} {h : Bool} {w w' : World} (m : PcM B p v h w) (hb : Below w.heap.size w w') : PcM B p v h w' := by
  cases p with
  | none => exact m
  | some T => exact ⟨m.1, orow_below m.2 hb⟩
theorem cell2_of {w : World} {g : Nat} {a b : Value} {T : TypeId} (h : w.heap[g]? = some (.cells #[a, b] T)) : w.cell? ⟨g, 0, none⟩ = some a ∧ w.cell? ⟨g, 1, none⟩ = some b ∧ ∀ i, w.frozen? ⟨g, i, none⟩ = false := by
  refine ⟨?_, ?_, fun i => by simp [World.frozen?, h]⟩ <;>
  · simp only [World.cell?, h, Option.isSome_none, Bool.false_eq_true, if_false]; rfl
def put2A (w : World) (g : Nat) (a b : Value) : World := (w.setCell ⟨g, 0, none⟩ a).setCell ⟨g, 1, none⟩ b
theorem put2A_blk {w : World} {g : Nat} {x y : Value} {T : TypeId} (h : w.heap[g]? = some (.cells #[x, y] T)) (a b : Value) : (put2A w g a b).heap[g]? = some (.cells #[a, b] T) := by
  have h1 : (w.setCell ⟨g, 0, none⟩ a).heap[g]? = some (.cells #[a, y] T) := (heap_setCell_same w g 0 _ _ _ h).trans rfl
  exact (heap_setCell_same _ g 1 _ _ _ h1).trans rfl
theorem put2A_bel {w : World} {g B : Nat} (a b : Value) (h : B ≤ g) : Below B w (put2A w g a b) := ((Below.refl B w).setCell (p := ⟨g, 0, none⟩) h _).setCell (p := ⟨g, 1, none⟩) h _
theorem put2A_far {w : World} {g i : Nat} (a b : Value) (h : i ≠ g) : (put2A w g a b).heap[i]? = w.heap[i]? := by
  unfold put2A
  rw [blkF_far _ _ _ _ h, blkF_far _ _ _ _ h]
theorem orow_mono' {B B' sz n : Nat} {T : TypeId} {v : Value} {xs : List Value} {w : World} (h : w.ownsRow B T sz v n xs) (hb : B' ≤ B) : w.ownsRow B' T sz v n xs := ⟨h.1, h.2.imp id (fun ⟨g, c, ys, e, hg, r⟩ => ⟨g, c, ys, e, Nat.le_trans hb hg, r⟩)⟩
theorem orow_ge {B sz n : Nat} {T : TypeId} {v : Value} {xs : List Value} {w : World} (h : w.ownsRow B T sz v n xs) {g : Nat} (hg : v.ownBlock = some g) : B ≤ g := by
  rcases h.2 with h | ⟨g', c, ys, rfl, h1, _⟩
  · rw [h.1] at hg; cases hg
  · have e : g' = g := by simpa [Value.ownBlock] using hg
    omega
theorem stopA {P : Program} {ops : Array Oper} {Q : Exit → Act → World → Prop} {o : Oper} {rest : List Oper} {a : Act} {w : World} {ST : TypeId} (s x : Operand) (_ : o.op = .call { callee := .builtin .append, args := #[s, x], argTypes := #[ST, ST] }) (h : ∀ L, Hid (o :: rest = L) → wpList P ops Q L a w) : wpList P ops Q (o :: rest) a w := h _ rfl
theorem rowT_one1 (t : Trm) : rowV trD [t] = (trD t).toList := by simp [rowV]
set_option maxRecDepth 20000 in
set_option maxHeartbeats 6400000 in
theorem r18Whole_any (B : Nat) (p : Option (List Trm)) (v : Value) (h : Bool) (w : World) (hm : PcM B p v h w) (hB : B ≤ w.heap.size) :
    Calls Tryz.prog 31 #[.agg #[v, .bool h]] w fun e w' => (∃ v', e = .returned (.agg #[v', .bool true]) ∧ w'.ownsRow B 64 11 v' (whP p).length (rowV trD (whP p))) ∧ Below w.heap.size w w' := by
  have HBB := hidD hB
  clear hB
  cases p with
  | none =>
    obtain ⟨rfl, rfl⟩ := hm
    obtain ⟨W1, hW1⟩ : ∃ W1, ((w.alloc (.cells #[.slice none 0 0, .bool false] 70)).alloc (.cells #[.slice (some ⟨w.heap.size + 1 + 1, 0, none⟩) 1 1, .bool true] 70)).alloc (.cells #[.int .i64 1, .int .i64 0, .int .i64 0, .int .u64 0, .int .u64 0, .int .i64 0, .int .i64 0, .int .i64 0, .int .i64 0, .int .i64 0, .int .i64 0] 64) = W1 := ⟨_, rfl⟩
    have HB1 : Hid (Below w.heap.size w (((w.alloc (.cells #[.slice none 0 0, .bool false] 70)).alloc (.cells #[.slice (some ⟨w.heap.size + 1 + 1, 0, none⟩) 1 1, .bool true] 70)).alloc (.cells #[.int .i64 1, .int .i64 0, .int .i64 0, .int .u64 0, .int .u64 0, .int .i64 0, .int .i64 0, .int .i64 0, .int .i64 0, .int .i64 0, .int .i64 0] 64))) := (((Below.refl _ _).alloc (Nat.le_refl _) _).alloc (by simp) _).alloc (by simp; omega) _
    have HR1 : Hid ((((w.alloc (.cells #[.slice none 0 0, .bool false] 70)).alloc (.cells #[.slice (some ⟨w.heap.size + 1 + 1, 0, none⟩) 1 1, .bool true] 70)).alloc (.cells #[.int .i64 1, .int .i64 0, .int .i64 0, .int .u64 0, .int .u64 0, .int .i64 0, .int .i64 0, .int .i64 0, .int .i64 0, .int .i64 0, .int .i64 0] 64)).ownsRow B 64 11 (.slice (some ⟨w.heap.size + 1 + 1, 0, none⟩) 1 1) 1 (rowV trD [zrT])) := by
      refine ⟨rfl, .inr ⟨w.heap.size + 1 + 1, 1, #[.int .i64 1, .int .i64 0, .int .i64 0, .int .u64 0, .int .u64 0, .int .i64 0, .int .i64 0, .int .i64 0, .int .i64 0, .int .i64 0, .int .i64 0], rfl, by have := HBB.out; omega, ?_, Nat.le_refl _, by decide, rfl, rfl⟩⟩
      rw [al_at, sz_al, sz_al, if_pos rfl]
    clear hW1 W1
    go_enter Tryz.func31, Tryz.ntmps31
    go_wp2_with fail
    exact bodyPost_ret (v := .agg #[.slice (some ⟨w.heap.size + 1 + 1, 0, none⟩) 1 1, .bool true]) (by simp [results, Tryz.results31, go_sem]) rfl ⟨⟨_, rfl, HR1.out⟩, HB1.out⟩
  | some T =>
    obtain ⟨rfl, ho⟩ := hm
    obtain ⟨p, c, g, rfl, _⟩ := orow_src ho
    have HB1 : Hid (Below w.heap.size w ((w.alloc (.cells #[.slice p T.length c, .bool true] 70)).alloc (.cells #[.slice p T.length c, .bool true] 70))) := ((Below.refl _ _).alloc (Nat.le_refl _) _).alloc (by simp) _
    have HR1 := hidD (orow_below ho HB1.out)
    clear ho
    go_enter Tryz.func31, Tryz.ntmps31
    go_wp2_with fail
    exact bodyPost_ret (v := .agg #[.slice p T.length c, .bool true]) (by simp [results, Tryz.results31, go_sem]) rfl ⟨⟨_, rfl, HR1.out⟩, HB1.out⟩
def AbT (T : List Trm) : Prop := ∀ t ∈ T, 0 ≤ t.a ∧ t.a ≤ T.length ∧ 0 ≤ t.b ∧ t.b ≤ T.length
set_option maxRecDepth 20000 in
set_option maxHeartbeats 25600000 in
theorem r18Join_none (B : Nat) (b : List Trm) (vb : Value) (w : World) (ho : w.ownsRow B 64 11 vb b.length (rowV trD b)) :
    Calls Tryz.prog 30 #[.agg #[.slice none 0 0, .bool false], .agg #[vb, .bool true]] w fun e w' => e = .returned (.agg #[vb, .bool true]) ∧ w'.ownsRow B 64 11 vb b.length (rowV trD b) ∧ Below w.heap.size w w' := by
  obtain ⟨p, c, g, rfl, _⟩ := orow_src ho
  have HB1 : Hid (Below w.heap.size w (((w.alloc (.cells #[.slice none 0 0, .bool false] 70)).alloc (.cells #[.slice p b.length c, .bool true] 70)).alloc (.cells #[.slice p b.length c, .bool true] 70))) := (((Below.refl _ _).alloc (Nat.le_refl _) _).alloc (by simp) _).alloc (by simp; omega) _
  have HR1 := hidD (orow_below ho HB1.out)
  clear ho
  go_enter Tryz.func30, Tryz.ntmps30
  go_wp2_with fail
  exact bodyPost_ret (v := .agg #[.slice p b.length c, .bool true]) (by simp [results, Tryz.results30, go_sem]) rfl ⟨rfl, HR1.out, HB1.out⟩
set_option maxRecDepth 20000 in
set_option maxHeartbeats 25600000 in
theorem r18Join_some (B : Nat) (A b : List Trm) (va vb : Value) (w : World) (hoa : w.ownsRow B 64 11 va A.length (rowV trD A)) (hob : w.ownsRow B 64 11 vb b.length (rowV trD b)) (hB : B ≤ w.heap.size) (hab : AbT b) (hA1 : 1 ≤ A.length) (hb1 : 1 ≤ b.length) (hAl : A.length ≤ 30000) (hbl : b.length ≤ 30000) :
    Calls Tryz.prog 30 #[.agg #[va, .bool true], .agg #[vb, .bool true]] w fun e w' => (∃ v', e = .returned (.agg #[v', .bool true]) ∧ w'.ownsRow B 64 11 v' (jnP (some A) b).length (rowV trD (jnP (some A) b))) ∧ Below w.heap.size w w' := by
  obtain ⟨pa, ca, ga, rfl, _⟩ := orow_src hoa
  obtain ⟨pb, cb, gb, rfl, _, _, hpb, _⟩ := orow_src hob
  obtain ⟨gt, hTd⟩ := tds_of hob rfl
  have HTd := hidD (And.intro hTd (And.intro hab hpb))
  have HBB := hidD hB
  have HOa := hidD hoa
  obtain ⟨nA, hnA⟩ : ∃ nA, A.length = nA := ⟨_, rfl⟩
  obtain ⟨nb, hnb⟩ : ∃ nb, b.length = nb := ⟨_, rfl⟩
  have HL := hidD (And.intro hnA hnb)
  rw [hnA] at HOa hA1 hAl ⊢
  rw [hnb] at hb1 hbl ⊢
  clear hoa hob hTd hab hpb hB hnA hnb
  have HB3 : Hid (Below w.heap.size w (((w.alloc (.cells #[.slice pa nA ca, .bool true] 70)).alloc (.cells #[.slice pb nb cb, .bool true] 70)).alloc (.cells #[.slice none 0 0, .bool false] 70))) := (((Below.refl _ _).alloc (Nat.le_refl _) _).alloc (by simp) _).alloc (by simp; omega) _
  have HOa3 := hidD (orow_below HOa.out HB3.out)
  have HO0 := hidD (orow_nil (((w.alloc (.cells #[.slice pa nA ca, .bool true] 70)).alloc (.cells #[.slice pb nb cb, .bool true] 70)).alloc (.cells #[.slice none 0 0, .bool false] 70)).heap.size (((w.alloc (.cells #[.slice pa nA ca, .bool true] 70)).alloc (.cells #[.slice pb nb cb, .bool true] 70)).alloc (.cells #[.slice none 0 0, .bool false] 70)) 64 11)
  have HXb : Hid ((((w.alloc (.cells #[.slice pa nA ca, .bool true] 70)).alloc (.cells #[.slice pb nb cb, .bool true] 70)).alloc (.cells #[.slice none 0 0, .bool false] 70)).heap[w.heap.size + 1]? = some (.cells #[.slice pb nb cb, .bool true] 70)) := by
    show _ = _
    rw [al_at, sz_al, sz_al, if_neg (by omega), al_at, sz_al, if_pos rfl]
  have HXr : Hid ((((w.alloc (.cells #[.slice pa nA ca, .bool true] 70)).alloc (.cells #[.slice pb nb cb, .bool true] 70)).alloc (.cells #[.slice none 0 0, .bool false] 70)).heap[w.heap.size + 1 + 1]? = some (.cells #[.slice none 0 0, .bool false] 70)) := by
    show _ = _
    rw [al_at, sz_al, sz_al, if_pos rfl]
  have hs3 : (((w.alloc (.cells #[.slice pa nA ca, .bool true] 70)).alloc (.cells #[.slice pb nb cb, .bool true] 70)).alloc (.cells #[.slice none 0 0, .bool false] 70)).heap.size = w.heap.size + 1 + 1 + 1 := by simp
  have HS3 := hidD hs3
  clear hs3
  go_enter Tryz.func30, Tryz.ntmps30
  go_wp2_with (at_builtin; refine wpList_append_v _ Tryz.underlying31 info_trD rfl (by decide) rfl (.tmp 16) (.tmp 18) rfl (((w.alloc (.cells #[.slice pa nA ca, .bool true] 70)).alloc (.cells #[.slice pb nb cb, .bool true] 70)).alloc (.cells #[.slice none 0 0, .bool false] 70)).heap.size (.slice none 0 0) 0 [] rfl HO0.out (Nat.le_refl _) B nA (.slice pa nA ca) (rowV trD A) rfl HOa3.out (rowV_one trD_one _) (by omega) (by omega) ?_; intro v2 w2 ho2 hb2; rw [List.nil_append, Nat.zero_add] at ho2; have H2 := hidD (And.intro ho2 hb2); clear ho2 hb2)
  obtain ⟨p2, c2, g2, hv2, _⟩ := orow_src H2.out.1
  subst hv2
  have HXb2 : Hid (w2.heap[w.heap.size + 1]? = some (.cells #[.slice pb nb cb, .bool true] 70)) := (H2.out.2.block _ (by have := HS3.out; omega)).trans HXb.out
  have HXr2 : Hid (w2.heap[w.heap.size + 1 + 1]? = some (.cells #[.slice none 0 0, .bool false] 70)) := (H2.out.2.block _ (by have := HS3.out; omega)).trans HXr.out
  have HW2 : Hid (Below w.heap.size w w2) := HB3.out.trans (H2.out.2.mono HB3.out.size)
  have HO2 := hidD H2.out.1
  have HSz2 : Hid (w.heap.size + 1 + 1 < w2.heap.size) := lt_of_blk HXr2.out
  obtain ⟨B3, hB3⟩ : ∃ B3, (((w.alloc (.cells #[.slice pa nA ca, .bool true] 70)).alloc (.cells #[.slice pb nb cb, .bool true] 70)).alloc (.cells #[.slice none 0 0, .bool false] 70)).heap.size = B3 := ⟨_, rfl⟩
  have HB3s : Hid (w.heap.size + 1 + 1 < B3 ∧ B3 ≤ w2.heap.size) := ⟨by have := HS3.out; omega, by rw [← hB3]; exact H2.out.2.size⟩
  rw [hB3] at HO2
  clear H2 HXb HXr HS3 HB3 HOa3 HO0 hB3 HOa
  go_wp2_with fail
  go_loopw [6, 7] (fun ov i wr => ∃ (k : Nat), k ≤ nb ∧ i = .int .i64 k ∧ Hid (wr.ownsRow B3 64 11 ov (nA + k) (rowV trD (A ++ (b.take k).map (shT nA)))) ∧ Hid (Below B3 w2 wr)) (fun _ i _ => nb - (intOf i).toNat)
  case atStart => exact ⟨0, Nat.zero_le _, rfl, by rw [List.take_zero, List.map_nil, List.append_nil]; exact HO2.out, Below.refl _ _⟩
  case round =>
    clear HO2
    obtain ⟨k, hk, rfl, HO, HB⟩ := hrel
    obtain ⟨po, co, go_, hvo, _⟩ := orow_src HO.out
    subst hvo
    have HXbr : Hid (wr.heap[w.heap.size + 1]? = some (.cells #[.slice pb nb cb, .bool true] 70)) := (HB.out.block _ (by have := HB3s.out; omega)).trans HXb2.out
    obtain ⟨e0, e1, _⟩ := cell2_of HXbr.out
    have hxl := lt_of_blk HXbr.out
    have hxn := Nat.ne_of_lt hxl
    have HWr : Hid (Below w.heap.size w wr) := HW2.out.trans (HB.out.mono (by have := HB3s.out; omega))
    have HB3w : Hid (B3 ≤ wr.heap.size) := Nat.le_trans HB3s.out.2 HB.out.size
    by_cases hlt : k < nb
    · have hlt' : k < b.length := by rw [HL.out.2]; exact hlt
      obtain rfl := HTd.out.2.2 (by omega)
      have HT := HTd.out.1.below HWr.out
      have d0 := HT.c0 k hlt'
      have d1 := HT.c1 k hlt'
      have d2 := HT.c2 k hlt'
      have d3 := HT.c3 k hlt'
      have d4 := HT.c4 k hlt'
      have d5 := HT.c5 k hlt'
      have d6 := HT.c6 k hlt'
      have d7 := HT.c7 k hlt'
      have d8 := HT.c8 k hlt'
      have d9 := HT.c9 k hlt'
      have d10 := HT.c10 k hlt'
      have hgt : gt < wr.heap.size := HT.lt (by omega)
      have hgn := Nat.ne_of_lt hgt
      have egt : gt = gb := by have := HT.at_ (by omega); injection this with this; injection this with this; exact this.symm
      subst egt
      have hmem : b.getD k trm0 ∈ b := by
        have e : b.getD k trm0 = b[k] := by simp [List.getD, List.getElem?_eq_getElem hlt']
        rw [e]; exact List.getElem_mem hlt'
      obtain ⟨a0, a1, b0, b1⟩ := HTd.out.2.1 (b.getD k trm0) hmem
      clear hmem
      rw [HL.out.2] at a1 b1
      have HNx : Hid (A ++ (b.take (k + 1)).map (shT nA) = A ++ (b.take k).map (shT nA) ++ [shT nA (b.getD k trm0)]) := by
        show _ = _
        rw [takeT_next b k hlt', List.map_append, List.map_singleton, List.append_assoc]
      obtain ⟨t, ht⟩ : ∃ t, b.getD k trm0 = t := ⟨_, rfl⟩
      rw [ht] at HNx d0 d1 d2 d3 d4 d5 d6 d7 d8 d9 d10 a0 a1 b0 b1
      obtain ⟨qk, qa, qb, qx, qy, qd, qt, qc, qo, qn, qm⟩ := t
      dsimp only at *
      have i1 : (k : Int) < (nb : Int) := by omega
      have i2 : (0 : Int) ≤ (k : Int) := by omega
      clear HT ht hlt'
      simp only [Nat.zero_add] at d0 d1 d2 d3 d4 d5 d6 d7 d8 d9 d10
      by_cases h4 : 4 ≤ qk
      · have z4 : (4 : Int) ≤ qk := h4
        by_cases h5 : qk = 5
        · have z5 : (qk == 5) = true := beq_iff_eq.2 h5
          have HSh : Hid (shT nA ⟨qk, qa, qb, qx, qy, qd, qt, qc, qo, qn, qm⟩ = ⟨qk, qa + nA, qb + nA, qx, qy, qd, qt, qc, qo, qn, qm⟩) := by
            show shT _ _ = _
            unfold shT
            rw [if_pos h4, if_pos h5]
          rw [HSh.out] at HNx
          clear h5 HSh
          have HX1 : Hid ((wr.alloc (.cells #[.int .i64 qk, .int .i64 (qa + (nA : Int)), .int .i64 (qb + (nA : Int)), .int .u64 (qx : Int), .int .u64 (qy : Int), .int .i64 qd, .int .i64 qt, .int .i64 qc, .int .i64 qo, .int .i64 qn, .int .i64 qm] 64)).heap[wr.heap.size]? = some (.cells #[.int .i64 qk, .int .i64 (qa + (nA : Int)), .int .i64 (qb + (nA : Int)), .int .u64 (qx : Int), .int .u64 (qy : Int), .int .i64 qd, .int .i64 qt, .int .i64 qc, .int .i64 qo, .int .i64 qn, .int .i64 qm] 64)) := heap_alloc_new _ _
          have HWa : Hid (Below wr.heap.size wr ((wr.alloc (.cells #[.int .i64 qk, .int .i64 (qa + (nA : Int)), .int .i64 (qb + (nA : Int)), .int .u64 (qx : Int), .int .u64 (qy : Int), .int .i64 qd, .int .i64 qt, .int .i64 qc, .int .i64 qo, .int .i64 qn, .int .i64 qm] 64)).alloc (.cells #[.int .i64 qk, .int .i64 (qa + (nA : Int)), .int .i64 (qb + (nA : Int)), .int .u64 (qx : Int), .int .u64 (qy : Int), .int .i64 qd, .int .i64 qt, .int .i64 qc, .int .i64 qo, .int .i64 qn, .int .i64 qm] 64))) := ((Below.refl _ _).alloc (Nat.le_refl _) _).alloc (by simp) _
          have HOa := hidD (orow_below HO.out HWa.out)
          have HBa : Hid (Below B3 w2 ((wr.alloc (.cells #[.int .i64 qk, .int .i64 (qa + (nA : Int)), .int .i64 (qb + (nA : Int)), .int .u64 (qx : Int), .int .u64 (qy : Int), .int .i64 qd, .int .i64 qt, .int .i64 qc, .int .i64 qo, .int .i64 qn, .int .i64 qm] 64)).alloc (.cells #[.int .i64 qk, .int .i64 (qa + (nA : Int)), .int .i64 (qb + (nA : Int)), .int .u64 (qx : Int), .int .u64 (qy : Int), .int .i64 qd, .int .i64 qt, .int .i64 qc, .int .i64 qo, .int .i64 qn, .int .i64 qm] 64))) := HB.out.trans (HWa.out.mono HB3w.out)
          have HCa : Hid (∀ j u, (rowV trD [⟨qk, qa + (nA : Int), qb + (nA : Int), qx, qy, qd, qt, qc, qo, qn, qm⟩])[j]? = some u → ((wr.alloc (.cells #[.int .i64 qk, .int .i64 (qa + (nA : Int)), .int .i64 (qb + (nA : Int)), .int .u64 (qx : Int), .int .u64 (qy : Int), .int .i64 qd, .int .i64 qt, .int .i64 qc, .int .i64 qo, .int .i64 qn, .int .i64 qm] 64)).alloc (.cells #[.int .i64 qk, .int .i64 (qa + (nA : Int)), .int .i64 (qb + (nA : Int)), .int .u64 (qx : Int), .int .u64 (qy : Int), .int .i64 qd, .int .i64 qt, .int .i64 qc, .int .i64 qo, .int .i64 qn, .int .i64 qm] 64)).cell? ⟨wr.heap.size + 1, j, none⟩ = some u) := fun j u hj => by
            have h9 := new_cells (wr.alloc (.cells #[.int .i64 qk, .int .i64 (qa + (nA : Int)), .int .i64 (qb + (nA : Int)), .int .u64 (qx : Int), .int .u64 (qy : Int), .int .i64 qd, .int .i64 qt, .int .i64 qc, .int .i64 qo, .int .i64 qn, .int .i64 qm] 64)) (trD ⟨qk, qa + (nA : Int), qb + (nA : Int), qx, qy, qd, qt, qc, qo, qn, qm⟩) 64 j u (by rw [rowT_one1] at hj; exact hj)
            rw [show (wr.alloc (.cells #[.int .i64 qk, .int .i64 (qa + (nA : Int)), .int .i64 (qb + (nA : Int)), .int .u64 (qx : Int), .int .u64 (qy : Int), .int .i64 qd, .int .i64 qt, .int .i64 qc, .int .i64 qo, .int .i64 qn, .int .i64 qm] 64)).heap.size = wr.heap.size + 1 by simp] at h9; exact h9
          have hnk : nA + k ≤ 60000 := by omega
          clear HO HXbr h4
          go_wp2_with (at_builtin; refine wpList_append_g _ Tryz.underlying31 info_trD rfl (by decide) rfl (.tmp 48) (.tmp 50) rfl B3 (.slice po (nA + k) co) (nA + k) (rowV trD (A ++ (b.take k).map (shT nA))) rfl HOa.out (Nat.le_trans HB3w.out HWa.out.size) (wr.heap.size + 1) 1 1 (rowV trD [⟨qk, qa + (nA : Int), qb + (nA : Int), qx, qy, qd, qt, qc, qo, qn, qm⟩]) rfl rfl HCa.out (rowV_one trD_one _) (by omega) (by omega) ?_; intro v5 w5 ho5 hg5; rw [← rowV_append, ← HNx.out] at ho5; have H5 := hidD (And.intro ho5 (HBa.out.trans (orow_grown HOa.out hg5 (Nat.le_trans HB3w.out HWa.out.size)))); clear ho5 hg5)
          go_wp2_with fail
          go_roundw
          case rel => exact ⟨k + 1, by omega, by go_num, H5.out.1, H5.out.2⟩
          case measure => simp [intOf]; omega
        · have z5 : (qk == 5) = false := beq_eq_false_iff_ne.2 h5
          have HSh : Hid (shT nA ⟨qk, qa, qb, qx, qy, qd, qt, qc, qo, qn, qm⟩ = ⟨qk, qa + nA, qb, qx, qy, qd, qt, qc, qo, qn, qm⟩) := by
            show shT _ _ = _
            unfold shT
            rw [if_pos h4, if_neg h5]
          rw [HSh.out] at HNx
          clear h5 HSh
          have HX1 : Hid ((wr.alloc (.cells #[.int .i64 qk, .int .i64 (qa + (nA : Int)), .int .i64 qb, .int .u64 (qx : Int), .int .u64 (qy : Int), .int .i64 qd, .int .i64 qt, .int .i64 qc, .int .i64 qo, .int .i64 qn, .int .i64 qm] 64)).heap[wr.heap.size]? = some (.cells #[.int .i64 qk, .int .i64 (qa + (nA : Int)), .int .i64 qb, .int .u64 (qx : Int), .int .u64 (qy : Int), .int .i64 qd, .int .i64 qt, .int .i64 qc, .int .i64 qo, .int .i64 qn, .int .i64 qm] 64)) := heap_alloc_new _ _
          have HWa : Hid (Below wr.heap.size wr ((wr.alloc (.cells #[.int .i64 qk, .int .i64 (qa + (nA : Int)), .int .i64 qb, .int .u64 (qx : Int), .int .u64 (qy : Int), .int .i64 qd, .int .i64 qt, .int .i64 qc, .int .i64 qo, .int .i64 qn, .int .i64 qm] 64)).alloc (.cells #[.int .i64 qk, .int .i64 (qa + (nA : Int)), .int .i64 qb, .int .u64 (qx : Int), .int .u64 (qy : Int), .int .i64 qd, .int .i64 qt, .int .i64 qc, .int .i64 qo, .int .i64 qn, .int .i64 qm] 64))) := ((Below.refl _ _).alloc (Nat.le_refl _) _).alloc (by simp) _
          have HOa := hidD (orow_below HO.out HWa.out)
          have HBa : Hid (Below B3 w2 ((wr.alloc (.cells #[.int .i64 qk, .int .i64 (qa + (nA : Int)), .int .i64 qb, .int .u64 (qx : Int), .int .u64 (qy : Int), .int .i64 qd, .int .i64 qt, .int .i64 qc, .int .i64 qo, .int .i64 qn, .int .i64 qm] 64)).alloc (.cells #[.int .i64 qk, .int .i64 (qa + (nA : Int)), .int .i64 qb, .int .u64 (qx : Int), .int .u64 (qy : Int), .int .i64 qd, .int .i64 qt, .int .i64 qc, .int .i64 qo, .int .i64 qn, .int .i64 qm] 64))) := HB.out.trans (HWa.out.mono HB3w.out)
          have HCa : Hid (∀ j u, (rowV trD [⟨qk, qa + (nA : Int), qb, qx, qy, qd, qt, qc, qo, qn, qm⟩])[j]? = some u → ((wr.alloc (.cells #[.int .i64 qk, .int .i64 (qa + (nA : Int)), .int .i64 qb, .int .u64 (qx : Int), .int .u64 (qy : Int), .int .i64 qd, .int .i64 qt, .int .i64 qc, .int .i64 qo, .int .i64 qn, .int .i64 qm] 64)).alloc (.cells #[.int .i64 qk, .int .i64 (qa + (nA : Int)), .int .i64 qb, .int .u64 (qx : Int), .int .u64 (qy : Int), .int .i64 qd, .int .i64 qt, .int .i64 qc, .int .i64 qo, .int .i64 qn, .int .i64 qm] 64)).cell? ⟨wr.heap.size + 1, j, none⟩ = some u) := fun j u hj => by
            have h9 := new_cells (wr.alloc (.cells #[.int .i64 qk, .int .i64 (qa + (nA : Int)), .int .i64 qb, .int .u64 (qx : Int), .int .u64 (qy : Int), .int .i64 qd, .int .i64 qt, .int .i64 qc, .int .i64 qo, .int .i64 qn, .int .i64 qm] 64)) (trD ⟨qk, qa + (nA : Int), qb, qx, qy, qd, qt, qc, qo, qn, qm⟩) 64 j u (by rw [rowT_one1] at hj; exact hj)
            rw [show (wr.alloc (.cells #[.int .i64 qk, .int .i64 (qa + (nA : Int)), .int .i64 qb, .int .u64 (qx : Int), .int .u64 (qy : Int), .int .i64 qd, .int .i64 qt, .int .i64 qc, .int .i64 qo, .int .i64 qn, .int .i64 qm] 64)).heap.size = wr.heap.size + 1 by simp] at h9; exact h9
          have hnk : nA + k ≤ 60000 := by omega
          clear HO HXbr h4
          go_wp2_with (at_builtin; refine wpList_append_g _ Tryz.underlying31 info_trD rfl (by decide) rfl (.tmp 48) (.tmp 50) rfl B3 (.slice po (nA + k) co) (nA + k) (rowV trD (A ++ (b.take k).map (shT nA))) rfl HOa.out (Nat.le_trans HB3w.out HWa.out.size) (wr.heap.size + 1) 1 1 (rowV trD [⟨qk, qa + (nA : Int), qb, qx, qy, qd, qt, qc, qo, qn, qm⟩]) rfl rfl HCa.out (rowV_one trD_one _) (by omega) (by omega) ?_; intro v5 w5 ho5 hg5; rw [← rowV_append, ← HNx.out] at ho5; have H5 := hidD (And.intro ho5 (HBa.out.trans (orow_grown HOa.out hg5 (Nat.le_trans HB3w.out HWa.out.size)))); clear ho5 hg5)
          go_wp2_with fail
          go_roundw
          case rel => exact ⟨k + 1, by omega, by go_num, H5.out.1, H5.out.2⟩
          case measure => simp [intOf]; omega
      · have z4 : ¬ (4 : Int) ≤ qk := h4
        have h5 : ¬ qk = 5 := by omega
        have z5 : (qk == 5) = false := beq_eq_false_iff_ne.2 h5
        have HSh : Hid (shT nA ⟨qk, qa, qb, qx, qy, qd, qt, qc, qo, qn, qm⟩ = ⟨qk, qa, qb, qx, qy, qd, qt, qc, qo, qn, qm⟩) := by
          show shT _ _ = _
          unfold shT
          rw [if_neg h4, if_neg h5]
        rw [HSh.out] at HNx
        clear h5 HSh
        have HX1 : Hid ((wr.alloc (.cells #[.int .i64 qk, .int .i64 qa, .int .i64 qb, .int .u64 (qx : Int), .int .u64 (qy : Int), .int .i64 qd, .int .i64 qt, .int .i64 qc, .int .i64 qo, .int .i64 qn, .int .i64 qm] 64)).heap[wr.heap.size]? = some (.cells #[.int .i64 qk, .int .i64 qa, .int .i64 qb, .int .u64 (qx : Int), .int .u64 (qy : Int), .int .i64 qd, .int .i64 qt, .int .i64 qc, .int .i64 qo, .int .i64 qn, .int .i64 qm] 64)) := heap_alloc_new _ _
        have HWa : Hid (Below wr.heap.size wr ((wr.alloc (.cells #[.int .i64 qk, .int .i64 qa, .int .i64 qb, .int .u64 (qx : Int), .int .u64 (qy : Int), .int .i64 qd, .int .i64 qt, .int .i64 qc, .int .i64 qo, .int .i64 qn, .int .i64 qm] 64)).alloc (.cells #[.int .i64 qk, .int .i64 qa, .int .i64 qb, .int .u64 (qx : Int), .int .u64 (qy : Int), .int .i64 qd, .int .i64 qt, .int .i64 qc, .int .i64 qo, .int .i64 qn, .int .i64 qm] 64))) := ((Below.refl _ _).alloc (Nat.le_refl _) _).alloc (by simp) _
        have HOa := hidD (orow_below HO.out HWa.out)
        have HBa : Hid (Below B3 w2 ((wr.alloc (.cells #[.int .i64 qk, .int .i64 qa, .int .i64 qb, .int .u64 (qx : Int), .int .u64 (qy : Int), .int .i64 qd, .int .i64 qt, .int .i64 qc, .int .i64 qo, .int .i64 qn, .int .i64 qm] 64)).alloc (.cells #[.int .i64 qk, .int .i64 qa, .int .i64 qb, .int .u64 (qx : Int), .int .u64 (qy : Int), .int .i64 qd, .int .i64 qt, .int .i64 qc, .int .i64 qo, .int .i64 qn, .int .i64 qm] 64))) := HB.out.trans (HWa.out.mono HB3w.out)
        have HCa : Hid (∀ j u, (rowV trD [⟨qk, qa, qb, qx, qy, qd, qt, qc, qo, qn, qm⟩])[j]? = some u → ((wr.alloc (.cells #[.int .i64 qk, .int .i64 qa, .int .i64 qb, .int .u64 (qx : Int), .int .u64 (qy : Int), .int .i64 qd, .int .i64 qt, .int .i64 qc, .int .i64 qo, .int .i64 qn, .int .i64 qm] 64)).alloc (.cells #[.int .i64 qk, .int .i64 qa, .int .i64 qb, .int .u64 (qx : Int), .int .u64 (qy : Int), .int .i64 qd, .int .i64 qt, .int .i64 qc, .int .i64 qo, .int .i64 qn, .int .i64 qm] 64)).cell? ⟨wr.heap.size + 1, j, none⟩ = some u) := fun j u hj => by
          have h9 := new_cells (wr.alloc (.cells #[.int .i64 qk, .int .i64 qa, .int .i64 qb, .int .u64 (qx : Int), .int .u64 (qy : Int), .int .i64 qd, .int .i64 qt, .int .i64 qc, .int .i64 qo, .int .i64 qn, .int .i64 qm] 64)) (trD ⟨qk, qa, qb, qx, qy, qd, qt, qc, qo, qn, qm⟩) 64 j u (by rw [rowT_one1] at hj; exact hj)
          rw [show (wr.alloc (.cells #[.int .i64 qk, .int .i64 qa, .int .i64 qb, .int .u64 (qx : Int), .int .u64 (qy : Int), .int .i64 qd, .int .i64 qt, .int .i64 qc, .int .i64 qo, .int .i64 qn, .int .i64 qm] 64)).heap.size = wr.heap.size + 1 by simp] at h9; exact h9
        have hnk : nA + k ≤ 60000 := by omega
        clear HO HXbr h4
        go_wp2_with (at_builtin; refine wpList_append_g _ Tryz.underlying31 info_trD rfl (by decide) rfl (.tmp 48) (.tmp 50) rfl B3 (.slice po (nA + k) co) (nA + k) (rowV trD (A ++ (b.take k).map (shT nA))) rfl HOa.out (Nat.le_trans HB3w.out HWa.out.size) (wr.heap.size + 1) 1 1 (rowV trD [⟨qk, qa, qb, qx, qy, qd, qt, qc, qo, qn, qm⟩]) rfl rfl HCa.out (rowV_one trD_one _) (by omega) (by omega) ?_; intro v5 w5 ho5 hg5; rw [← rowV_append, ← HNx.out] at ho5; have H5 := hidD (And.intro ho5 (HBa.out.trans (orow_grown HOa.out hg5 (Nat.le_trans HB3w.out HWa.out.size)))); clear ho5 hg5)
        go_wp2_with fail
        go_roundw
        case rel => exact ⟨k + 1, by omega, by go_num, H5.out.1, H5.out.2⟩
        case measure => simp [intOf]; omega
    · obtain rfl : k = nb := by omega
      have i1 : ¬ (k : Int) < (k : Int) := by omega
      have HXrr : Hid (wr.heap[w.heap.size + 1 + 1]? = some (.cells #[.slice none 0 0, .bool false] 70)) := (HB.out.block _ (by have := HB3s.out; omega)).trans HXr2.out
      have HO1 : Hid (wr.ownsRow B3 64 11 (.slice po (nA + k) co) (nA + k) (rowV trD (A ++ b.map (shT nA)))) := by
        have := HO.out
        rw [← HL.out.2, List.take_length, HL.out.2] at this
        exact this
      have wA : ((nA + k : Nat) : Int) - 1 = (nA : Int) + (k : Int) - 1 := by omega
      have HWa := hidD (al_bel wr (.cells #[.int .i64 5, .int .i64 ((nA : Int) - 1), .int .i64 ((nA : Int) + (k : Int) - 1), .int .u64 0, .int .u64 0, .int .i64 0, .int .i64 0, .int .i64 0, .int .i64 0, .int .i64 0, .int .i64 0] 64))
      have HOa := hidD (orow_below HO1.out HWa.out)
      have HBa : Hid (Below B3 w2 (wr.alloc (.cells #[.int .i64 5, .int .i64 ((nA : Int) - 1), .int .i64 ((nA : Int) + (k : Int) - 1), .int .u64 0, .int .u64 0, .int .i64 0, .int .i64 0, .int .i64 0, .int .i64 0, .int .i64 0, .int .i64 0] 64))) := HB.out.trans (HWa.out.mono HB3w.out)
      have HCa : Hid (∀ j u, (rowV trD [boT ((nA : Int) - 1) ((nA : Int) + (k : Int) - 1)])[j]? = some u → (wr.alloc (.cells #[.int .i64 5, .int .i64 ((nA : Int) - 1), .int .i64 ((nA : Int) + (k : Int) - 1), .int .u64 0, .int .u64 0, .int .i64 0, .int .i64 0, .int .i64 0, .int .i64 0, .int .i64 0, .int .i64 0] 64)).cell? ⟨wr.heap.size, j, none⟩ = some u) := fun j u hj => new_cells wr (trD (boT ((nA : Int) - 1) ((nA : Int) + (k : Int) - 1))) 64 j u (by rw [rowT_one1] at hj; exact hj)
      have hnk : nA + k ≤ 60000 := by omega
      have HXrq := hidD HXr2.out
      have HF : Hid (jnP (some A) b = A ++ b.map (shT nA) ++ [boT ((nA : Int) - 1) ((nA : Int) + (k : Int) - 1)]) := by
        show A ++ b.map (shT A.length) ++ [boT ((A.length : Int) - 1) (((A.length + b.length : Nat) : Int) - 1)] = _
        rw [HL.out.1, HL.out.2, show ((nA + k : Nat) : Int) - 1 = (nA : Int) + (k : Int) - 1 by omega]
      clear HO HO1
      go_wp2_with (at_builtin; refine stopA (.tmp 52) (.tmp 59) rfl ?_; intro LL HLL)
      have eLL := HLL.out
      clear HLL
      subst eLL
      refine wpList_append_g _ Tryz.underlying31 info_trD rfl (by decide) rfl (.tmp 52) (.tmp 59) rfl B3 (.slice po (nA + k) co) (nA + k) (rowV trD (A ++ b.map (shT nA))) rfl HOa.out (Nat.le_trans HB3w.out HWa.out.size) wr.heap.size 1 1 (rowV trD [boT ((nA : Int) - 1) ((nA : Int) + (k : Int) - 1)]) rfl rfl HCa.out (rowV_one trD_one _) (by omega) (by omega) ?_
      intro v5 w5 ho5 hg5
      rw [← rowV_append] at ho5
      have H5 := hidD (And.intro ho5 (HBa.out.trans (orow_grown HOa.out hg5 (Nat.le_trans HB3w.out HWa.out.size))))
      obtain ⟨p5, c5, g5, hv5, _, _, hp5, _⟩ := orow_src ho5
      obtain rfl := hp5 (by omega)
      subst hv5
      have HXr5 := hidD ((H5.out.2.block _ (HB3s.out.1)).trans HXrq.out)
      clear ho5 hg5
      obtain ⟨r0, r1, rf⟩ := cell2_of HXr5.out
      have rf0 := rf 0
      have rf1 := rf 1
      clear rf
      obtain ⟨w7, hw7⟩ : ∃ w7, put2A w5 (w.heap.size + 1 + 1) (.slice (some ⟨g5, 0, none⟩) (nA + k + 1) c5) (.bool true) = w7 := ⟨_, rfl⟩
      have hX7 := put2A_blk HXr5.out (.slice (some ⟨g5, 0, none⟩) (nA + k + 1) c5) (.bool true)
      have HB7 : Hid (Below w.heap.size w (put2A w5 (w.heap.size + 1 + 1) (.slice (some ⟨g5, 0, none⟩) (nA + k + 1) c5) (.bool true))) := (HW2.out.trans (H5.out.2.mono (by have := HB3s.out; omega))).trans (put2A_bel _ _ (by omega))
      have HO7 : Hid ((put2A w5 (w.heap.size + 1 + 1) (.slice (some ⟨g5, 0, none⟩) (nA + k + 1) c5) (.bool true)).ownsRow B 64 11 (.slice (some ⟨g5, 0, none⟩) (nA + k + 1) c5) (jnP (some A) b).length (rowV trD (jnP (some A) b))) := by
        have hl : (jnP (some A) b).length = nA + k + 1 := by rw [HF.out]; simp only [List.length_append, List.length_map, List.length_singleton]; rw [HL.out.1, HL.out.2]
        rw [hl, HF.out]
        refine orow_mono' (orow_keep H5.out.1 fun g hg => put2A_far _ _ (fun e => ?_)) (by have := HB3s.out; have := HBB.out; omega)
        have := orow_ge H5.out.1 hg
        have := HB3s.out
        omega
      rw [hw7] at hX7 HB7 HO7
      obtain ⟨z0, z1, _⟩ := cell2_of hX7
      unfold put2A at hw7
      clear hX7
      go_wp2_with fail
      exact bodyPost_ret (v := .agg #[.slice (some ⟨g5, 0, none⟩) (nA + k + 1) c5, .bool true]) (by simp [results, Tryz.results30, go_sem, *]) rfl ⟨⟨_, rfl, HO7.out⟩, HB7.out⟩
end Go.Proofs.YtienedhaogjahaaGreatDoor
namespace Go.Proofs.YtienedhaogjahaaGreatDoor
open Go.RowKit

theorem r18Join_any (B : Nat) (y : Option (List Trm)) (b : List Trm) (v vb : Value) (h : Bool) (w : World) (hm : PcM B y v h w) (ho : w.ownsRow B 64 11 vb b.length (rowV trD b)) (hB : B ≤ w.heap.size) (hab : AbT b) (hy : ∀ T, y = some T → 1 ≤ T.length ∧ T.length ≤ 30000) (hb1 : 1 ≤ b.length) (hbl : b.length ≤ 30000) :
    Calls Tryz.prog 30 #[.agg #[v, .bool h], .agg #[vb, .bool true]] w fun e w' => (∃ v', e = .returned (.agg #[v', .bool true]) ∧ w'.ownsRow B 64 11 v' (jnP y b).length (rowV trD (jnP y b))) ∧ Below w.heap.size w w' := by
  cases y with
  | none =>
    obtain ⟨rfl, rfl⟩ := hm
    exact (r18Join_none B b vb w ho).mono fun e w' h => ⟨⟨vb, h.1, h.2.1⟩, h.2.2⟩
  | some T =>
    obtain ⟨rfl, hT⟩ := hm
    exact r18Join_some B T b v vb w hT ho hB hab (hy T rfl).1 hb1 (hy T rfl).2 hbl
set_option maxRecDepth 20000 in
set_option maxHeartbeats 6400000 in
theorem r18Whole_gen (B t : Nat) (y : Option (List Trm)) (v : Value) (h : Bool) (w : World) (hm : PcM B y v h w) (hB : B ≤ w.heap.size) (ht : t < w.heap.size) (hv : ∀ g, v.ownBlock = some g → g ≠ t) :
    Calls Tryz.prog 31 #[.agg #[v, .bool h]] w fun e w' => (∃ v', e = .returned (.agg #[v', .bool true]) ∧ w'.ownsRow B 64 11 v' (whP y).length (rowV trD (whP y)) ∧ ∀ g, v'.ownBlock = some g → g ≠ t) ∧ Below w.heap.size w w' := by
  cases y with
  | none =>
    refine (r18Whole_any w.heap.size none v h w hm (Nat.le_refl _)).mono fun e w' ⟨⟨v', he, ho⟩, hb⟩ => ⟨⟨v', he, orow_lower ho hB, fun g hg e => ?_⟩, hb⟩
    have := orow_ge ho hg
    omega
  | some T =>
    obtain ⟨rfl, ho⟩ := hm
    obtain ⟨p, c, g, rfl, _⟩ := orow_src ho
    have HV := hidD hv
    have HB1 : Hid (Below w.heap.size w ((w.alloc (.cells #[.slice p T.length c, .bool true] 70)).alloc (.cells #[.slice p T.length c, .bool true] 70))) := ((Below.refl _ _).alloc (Nat.le_refl _) _).alloc (by simp) _
    have HR1 := hidD (orow_below ho HB1.out)
    clear ho hv
    go_enter Tryz.func31, Tryz.ntmps31
    go_wp2_with fail
    exact bodyPost_ret (v := .agg #[.slice p T.length c, .bool true]) (by simp [results, Tryz.results31, go_sem]) rfl ⟨⟨_, rfl, HR1.out, HV.out⟩, HB1.out⟩
theorem cells11 {w : World} {t : Nat} {a0 a1 a2 a3 a4 a5 a6 a7 a8 a9 a10 : Value} {T : TypeId} (h : w.heap[t]? = some (.cells #[a0, a1, a2, a3, a4, a5, a6, a7, a8, a9, a10] T)) :
    w.cell? ⟨t, 0, none⟩ = some a0 ∧ w.cell? ⟨t, 1, none⟩ = some a1 ∧ w.cell? ⟨t, 2, none⟩ = some a2 ∧ w.cell? ⟨t, 3, none⟩ = some a3 ∧ w.cell? ⟨t, 4, none⟩ = some a4 ∧ w.cell? ⟨t, 5, none⟩ = some a5 ∧ w.cell? ⟨t, 6, none⟩ = some a6 ∧ w.cell? ⟨t, 7, none⟩ = some a7 ∧ w.cell? ⟨t, 8, none⟩ = some a8 ∧ w.cell? ⟨t, 9, none⟩ = some a9 ∧ w.cell? ⟨t, 10, none⟩ = some a10 := by
  refine ⟨?_, ?_, ?_, ?_, ?_, ?_, ?_, ?_, ?_, ?_, ?_⟩ <;>
  · simp only [World.cell?, h, Option.isSome_none, Bool.false_eq_true, if_false]; rfl
def GdP (ps : List (Option (List Trm))) : Prop := ∀ T, some T ∈ ps → 1 ≤ T.length ∧ AbT T
theorem abT_one {o : Opr} : AbT [tmO o] := fun t ht => by
  rw [List.mem_singleton] at ht
  subst ht
  exact ⟨Int.le_refl 0, by show (0 : Int) ≤ _; omega, Int.le_refl 0, by show (0 : Int) ≤ _; omega⟩
theorem abT_wh {x : Option (List Trm)} (h : ∀ T, x = some T → 1 ≤ T.length ∧ AbT T) : 1 ≤ (whP x).length ∧ AbT (whP x) := by
  cases x with
  | none =>
    refine ⟨Nat.le_refl 1, fun t ht => ?_⟩
    have : t = zrT := List.mem_singleton.1 ht
    subst this
    exact ⟨Int.le_refl 0, by show (0 : Int) ≤ _; omega, Int.le_refl 0, by show (0 : Int) ≤ _; omega⟩
  | some T => exact h T rfl
theorem abT_add {W : List Trm} (o : Opr) (h1 : 1 ≤ W.length) (h : AbT W) : AbT (W ++ [{ tmO o with a := (W.length : Int) - 1 }]) := fun t ht => by
  have e : ((W ++ [({ tmO o with a := (W.length : Int) - 1 } : Trm)]).length : Int) = (W.length : Int) + 1 := by simp
  rw [e]
  rcases List.mem_append.1 ht with ht | ht
  · obtain ⟨a0, a1, b0, b1⟩ := h t ht
    exact ⟨a0, by omega, b0, by omega⟩
  · rw [List.mem_singleton] at ht
    subst ht
    exact ⟨by show (0 : Int) ≤ (W.length : Int) - 1; omega, by show (W.length : Int) - 1 ≤ _; omega, Int.le_refl 0, by show (0 : Int) ≤ _; omega⟩
theorem abT_jn {y : Option (List Trm)} {C : List Trm} (hy : ∀ T, y = some T → 1 ≤ T.length ∧ AbT T) (h1 : 1 ≤ C.length) (h : AbT C) : AbT (jnP y C) := by
  cases y with
  | none => exact h
  | some Y =>
    obtain ⟨y1, y2⟩ := hy Y rfl
    intro t ht
    have ht' : t ∈ Y ++ C.map (shT Y.length) ++ [boT ((Y.length : Int) - 1) (((Y.length + C.length : Nat) : Int) - 1)] := ht
    have e : ((jnP (some Y) C).length : Int) = (Y.length : Int) + (C.length : Int) + 1 := by
      show ((Y ++ C.map (shT Y.length) ++ [boT ((Y.length : Int) - 1) (((Y.length + C.length : Nat) : Int) - 1)]).length : Int) = _
      simp only [List.length_append, List.length_map, List.length_singleton]; omega
    rw [e]
    rcases List.mem_append.1 ht' with ht | ht
    · rcases List.mem_append.1 ht with ht | ht
      · obtain ⟨a0, a1, b0, b1⟩ := y2 t ht
        exact ⟨a0, by omega, b0, by omega⟩
      · obtain ⟨s, hs, rfl⟩ := List.mem_map.1 ht
        obtain ⟨a0, a1, b0, b1⟩ := h s hs
        unfold shT
        dsimp only
        split <;> split <;> exact ⟨by omega, by omega, by omega, by omega⟩
    · rw [List.mem_singleton] at ht
      subst ht
      exact ⟨by show (0 : Int) ≤ (Y.length : Int) - 1; omega, by show (Y.length : Int) - 1 ≤ _; omega, by show (0 : Int) ≤ ((Y.length + C.length : Nat) : Int) - 1; omega, by show ((Y.length + C.length : Nat) : Int) - 1 ≤ _; omega⟩
theorem docF_gd (l : List Opr) : ∀ k, GdP (docF l k)
  | 0 => fun T hT => by simp [docF] at hT
  | k + 1 => by
    have ih := docF_gd l k
    show GdP (docS (l.getD k opr0) (docF l k))
    generalize docF l k = ps at *
    have hgl : ∀ (qs : List (Option (List Trm))), GdP qs → ∀ T, qs.getLastD none = some T → 1 ≤ T.length ∧ AbT T := fun qs hq T h => by
      refine hq T ?_
      rcases List.eq_nil_or_concat qs with rfl | ⟨r, a, rfl⟩
      · cases h
      · have : a = some T := by simpa using h
        rw [this]; simp
    have hdl : ∀ (qs : List (Option (List Trm))), GdP qs → GdP qs.dropLast := fun qs hq T h => hq T (List.dropLast_subset qs h)
    unfold docS
    split
    · intro T hT
      rcases List.mem_append.1 hT with hT | hT
      · exact ih T hT
      · simp at hT
    · split
      · intro T hT
        rcases List.mem_append.1 hT with hT | hT
        · exact hdl _ (hdl _ ih) T hT
        · rw [List.mem_singleton] at hT
          injection hT with hT
          subst hT
          obtain ⟨w1, w2⟩ := abT_wh (hgl _ ih)
          exact ⟨jnP_len _ _ (by simp), abT_jn (hgl _ (hdl _ ih)) (by simp) (abT_add _ w1 w2)⟩
      · intro T hT
        rcases List.mem_append.1 hT with hT | hT
        · exact hdl _ ih T hT
        · rw [List.mem_singleton] at hT
          injection hT with hT
          subst hT
          exact ⟨jnP_len _ _ (by simp), abT_jn (hgl _ ih) (by simp) abT_one⟩
theorem flS_mem (T : List Trm) : ∀ (n : Nat) (ps : List (Option (List Trm))), ps.length = n → some T ∈ ps → T.length ≤ (flS ps).1.length
  | 0, ps, h, hm => by rw [List.length_eq_zero_iff.1 h] at hm; simp at hm
  | n + 1, ps, h, hm => by
    obtain ⟨qs, x, rfl⟩ := list_last ps (by omega)
    rw [flS_snoc]
    rcases List.mem_append.1 hm with hm | hm
    · have := flS_mem T n qs (by simpa using h) hm
      refine Nat.le_trans this ?_
      cases x <;> simp [flO]
    · rw [List.mem_singleton] at hm
      subst hm
      simp [flO]
theorem docF_len {l : List Opr} (h : OkL l) {k : Nat} (hk : k ≤ l.length) {T : List Trm} (hT : some T ∈ docF l k) : T.length ≤ 3 * k := by
  have h1 := flS_mem T _ _ rfl hT
  rw [← (bld_doc h k hk).1] at h1
  exact Nat.le_trans h1 (bldF_len h k hk).2
def pcC (x : Value × Bool) : Array Value := #[x.1, .bool x.2]
theorem pcC_size (x : Value × Bool) : (pcC x).size = 2 := rfl
theorem info_pc : (Tryz.prog.info? 70).map (fun i => (i.zero, i.size, i.bytes)) = some (some (.agg #[.slice none 0 0, .bool false]), 2, 32) := by kernel_rfl
theorem PcM.grown {B B' n : Nat} {p : Option (List Trm)} {v sv : Value} {h : Bool} {xs : List Value} {w w' : World} (m : PcM B p v h w) (ho : w.ownsRow B' 70 2 sv n xs) (hg : w.grownBy w' sv.ownBlock) : PcM B p v h w' := by
  cases p with
  | none => exact m
  | some T => exact ⟨m.1, m.2.kept hg (orow_apart m.2 ho (by decide))⟩
def AllP (B : Nat) (w : World) : List (Option (List Trm)) → List (Value × Bool) → Prop
  | [], [] => True
  | p :: ps, v :: vs => PcM B p v.1 v.2 w ∧ AllP B w ps vs
  | [], _ :: _ => False
  | _ :: _, [] => False
theorem AllP.over {B : Nat} {w w' : World} (hk : ∀ p v h, PcM B p v h w → PcM B p v h w') : ∀ (ps : List (Option (List Trm))) (vs : List (Value × Bool)), AllP B w ps vs → AllP B w' ps vs
  | [], [], _ => trivial
  | _ :: ps, _ :: vs, h => ⟨hk _ _ _ h.1, AllP.over hk ps vs h.2⟩
  | [], _ :: _, h => h.elim
  | _ :: _, [], h => h.elim
theorem AllP.len {B : Nat} {w : World} : ∀ (ps : List (Option (List Trm))) (vs : List (Value × Bool)), AllP B w ps vs → vs.length = ps.length
  | [], [], _ => rfl
  | _ :: ps, _ :: vs, h => by rw [List.length_cons, List.length_cons, AllP.len ps vs h.2]
  | [], _ :: _, h => h.elim
  | _ :: _, [], h => h.elim
theorem AllP.add {B : Nat} {w : World} {x : Option (List Trm)} {v : Value × Bool} (hx : PcM B x v.1 v.2 w) : ∀ (ps : List (Option (List Trm))) (vs : List (Value × Bool)), AllP B w ps vs → AllP B w (ps ++ [x]) (vs ++ [v])
  | [], [], _ => ⟨hx, trivial⟩
  | _ :: ps, _ :: vs, h => ⟨h.1, AllP.add hx ps vs h.2⟩
  | [], _ :: _, h => h.elim
  | _ :: _, [], h => h.elim
theorem AllP.off {B : Nat} {w : World} {x : Option (List Trm)} : ∀ (ps : List (Option (List Trm))) (vs : List (Value × Bool)), AllP B w (ps ++ [x]) vs → ∃ us v, vs = us ++ [v] ∧ AllP B w ps us ∧ PcM B x v.1 v.2 w
  | [], v :: vs, h => by
    match vs, h.2 with
    | [], _ => exact ⟨[], v, rfl, trivial, h.1⟩
  | p :: ps, v :: vs, h => by
    obtain ⟨us, u, rfl, h1, h2⟩ := AllP.off ps vs h.2
    exact ⟨v :: us, u, rfl, ⟨h.1, h1⟩, h2⟩
  | [], [], h => h.elim
  | _ :: _, [], h => h.elim
def StM (B : Nat) (ps : List (Option (List Trm))) (sv : Value) (w : World) : Prop := ∃ vs, AllP B w ps vs ∧ w.ownsRow B 70 2 sv ps.length (rowV pcC vs)
theorem StM.below {B : Nat} {ps : List (Option (List Trm))} {sv : Value} {w w' : World} (h : StM B ps sv w) (hb : Below w.heap.size w w') : StM B ps sv w' := by
  obtain ⟨vs, ha, ho⟩ := h
  exact ⟨vs, AllP.over (fun p v hh m => m.below hb) _ _ ha, orow_below ho hb⟩
theorem StM.push {B : Nat} {ps : List (Option (List Trm))} {sv sv' : Value} {w w' : World} {vs : List (Value × Bool)} (ha : AllP B w ps vs) (ho : w.ownsRow B 70 2 sv ps.length (rowV pcC vs)) (ho' : w'.ownsRow B 70 2 sv' (ps.length + 1) (rowV pcC vs ++ rowV pcC [(.slice none 0 0, false)])) (hg : w.grownBy w' sv.ownBlock) : StM B (ps ++ [none]) sv' w' := by
  refine ⟨vs ++ [(.slice none 0 0, false)], AllP.add (x := none) (v := (.slice none 0 0, false)) ⟨rfl, rfl⟩ _ _ (AllP.over (fun p v hh m => m.grown ho hg) _ _ ha), ?_⟩
  rw [rowV_append, List.length_append, List.length_singleton]
  exact ho'
def put2 (w : World) (g m : Nat) (a b : Value) : World := (w.setCell ⟨g, m * 2, none⟩ a).setCell ⟨g, m * 2 + 1, none⟩ b
theorem StM.last {B : Nat} {qs : List (Option (List Trm))} {x : Option (List Trm)} {sv : Value} {w : World} (h : StM B (qs ++ [x]) sv w) :
    ∃ g c vx hx, sv = .slice (some ⟨g, 0, none⟩) (qs.length + 1) c ∧ B ≤ g ∧ g < w.heap.size ∧ qs.length + 1 ≤ c ∧ c ≤ maxLen ∧ PcM B x vx hx w ∧ StM B qs (.slice (some ⟨g, 0, none⟩) qs.length c) w ∧ (∀ w', Below w.heap.size w w' → w'.cell? ⟨g, qs.length * 2, none⟩ = some vx ∧ w'.cell? ⟨g, qs.length * 2 + 1, none⟩ = some (.bool hx)) ∧
      ∀ w', Below w.heap.size w w' → ∀ y v hh, PcM B y v hh w' → (∀ i, w'.frozen? ⟨g, i, none⟩ = false) ∧ StM B (qs ++ [y]) (.slice (some ⟨g, 0, none⟩) (qs.length + 1) c) (put2 w' g qs.length v (.bool hh)) ∧ Below B w' (put2 w' g qs.length v (.bool hh)) ∧ PcM B y v hh (put2 w' g qs.length v (.bool hh)) := by
  obtain ⟨vs, ha, ho⟩ := h
  obtain ⟨us, u, rfl, ha1, hx⟩ := AllP.off _ _ ha
  have hul := AllP.len _ _ ha1
  rw [List.length_append, List.length_singleton] at ho
  obtain ⟨p, c, g, rfl, h1, h2, h3, _, h5, h6, h7⟩ := orow_src ho
  obtain rfl := h3 (by omega)
  obtain ⟨_, hg1, hg2⟩ := h5 _ rfl
  have hlu : (rowV pcC us).length = qs.length * 2 := by rw [rowV_len pcC_size, hul]
  have hpop : w.ownsRow B 70 2 (.slice (some ⟨g, 0, none⟩) qs.length c) qs.length (rowV pcC us) := by
    have := h7 qs.length (by omega)
    rw [rowV_append, ← hlu, List.take_left'] at this
    · exact this
    · rfl
  have hget : ∀ j < 2, w.cell? ⟨g, qs.length * 2 + j, none⟩ = (pcC u)[j]? := fun j hj => by
    rw [h6 _ (by omega), ← hul, rowV_get pcC_size (.slice none 0 0, false) (us ++ [u]) us.length j (by simp) hj]
    congr 2
    simp [List.getD]
  refine ⟨g, c, u.1, u.2, rfl, hg1, hg2, h1, h2, hx, ⟨us, ha1, hpop⟩, (fun w' hb => ⟨(World.cell?_of_block (w := w) (a := ⟨g, qs.length * 2, none⟩) (hb.block _ hg2)).trans (hget 0 (by decide)), (World.cell?_of_block (w := w) (a := ⟨g, qs.length * 2 + 1, none⟩) (hb.block _ hg2)).trans (hget 1 (by decide))⟩), fun w' hb y v hh hy => ?_⟩
  have ho' := orow_below ho hb
  obtain ⟨s1, s2⟩ := ho'.stored (qs.length * 2) v
  obtain ⟨t1, t2⟩ := s1.stored (qs.length * 2 + 1) (.bool hh)
  have hfar : ∀ p u h, PcM B p u h w' → PcM B p u h (put2 w' g qs.length v (.bool hh)) := fun p u h m => (m.grown ho' s2).grown s1 t2
  have hrow : ((rowV pcC (us ++ [u])).set (qs.length * 2) v).set (qs.length * 2 + 1) (.bool hh) = rowV pcC (us ++ [(v, hh)]) := by
    rw [rowV_append, rowV_append, List.set_append, if_neg (by omega), List.set_append, if_neg (by omega), hlu, Nat.sub_self, show qs.length * 2 + 1 - qs.length * 2 = 1 by omega]
    rfl
  refine ⟨fun i => ho'.frozenAt i, ⟨us ++ [(v, hh)], AllP.add (hfar _ _ _ hy) _ _ (AllP.over hfar _ _ (AllP.over (fun p v h m => m.below hb) _ _ ha1)), ?_⟩, ?_, hfar _ _ _ hy⟩
  · rw [List.length_append, List.length_singleton, ← hrow]
    exact t1
  · exact ((Below.refl B w').setCell (p := ⟨g, qs.length * 2, none⟩) hg1 _).setCell (p := ⟨g, qs.length * 2 + 1, none⟩) hg1 _
theorem put2_cell {w : World} {g m : Nat} {u a b : Value} (h : w.cell? ⟨g, m * 2, none⟩ = some u) : (put2 w g m a b).cell? ⟨g, m * 2, none⟩ = some a :=
  (World.cell?_setCell_other _ _ _ _ (fun e => by injection e with _ e _; omega)).trans (World.cell?_setCell_same _ _ _ h)
theorem PcM.lt {B : Nat} {p : Option (List Trm)} {v : Value} {h : Bool} {w : World} (m : PcM B p v h w) : ∀ g, v.ownBlock = some g → g < w.heap.size := fun g hg => by
  cases p with
  | none => obtain ⟨rfl, _⟩ := m; cases hg
  | some T => exact (m.2.lt g hg).2
def SBk (g t m : Nat) (v : Value) (h : Bool) (xs : Array Value) (w : World) : Prop := w.heap[t]? = some (.cells xs 64) ∧ w.cell? ⟨g, m * 2, none⟩ = some v ∧ w.cell? ⟨g, m * 2 + 1, none⟩ = some (.bool h)
end Go.Proofs.YtienedhaogjahaaGreatDoor
