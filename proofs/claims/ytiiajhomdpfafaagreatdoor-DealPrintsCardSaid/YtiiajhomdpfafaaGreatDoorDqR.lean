/- A region that draws its order, by what holds of each set of operations that are done: one proof an operation, not one an order. -/
import Derived.Test.YtiiajhomdpfafaaGreatDoorProg
import Derived.Orders
namespace Go.Proofs.YtiiajhomdpfafaaGreatDoor

def lineB (ops : Array Oper) : Bool := (List.range ops.size).all fun i => ((ops[i]?).map fun o => o.after.toList.all fun e => !Region.binds .any e || Nat.ble (e.on + 1) i).getD true
theorem line_of {ops : Array Oper} (h : lineB ops = true) {i : Nat} {o : Oper} (ho : ops[i]? = some o) : ∀ e ∈ o.after, Region.binds .any e = true → e.on < i := fun e he hb => by
  have hi : i < ops.size := (Array.getElem?_eq_some_iff.1 ho).1
  have := List.all_eq_true.1 h i (List.mem_range.2 hi)
  rw [ho] at this
  have h2 : (o.after.toList.all fun e => !Region.binds .any e || Nat.ble (e.on + 1) i) = true := this
  have h3 := List.all_eq_true.1 h2 e (Array.mem_toList_iff.2 he)
  rw [hb, Bool.not_true, Bool.false_or] at h3
  exact Nat.lt_of_succ_le (Nat.le_of_ble_eq_true h3)
def leftN (n : Nat) (D : Nat → Bool) : Nat := ((List.range n).filter fun i => !D i).length
theorem left_or {n : Nat} {D : Nat → Bool} {i : Nat} (hi : i < n) (hd : D i = false) : leftN n (fun j => D j || decide (j = i)) + 1 = leftN n D := by
  induction n with
  | zero => omega
  | succ n ih =>
    have hs : ∀ D : Nat → Bool, leftN (n + 1) D = leftN n D + (if D n then 0 else 1) := fun D => by
      unfold leftN
      rw [List.range_succ, List.filter_append, List.length_append]
      cases h : D n <;> simp [h]
    rw [hs, hs]
    by_cases e : i = n
    · subst e
      have hsame : leftN i (fun j => D j || decide (j = i)) = leftN i D := by
        unfold leftN
        congr 1
        refine List.filter_congr fun j hj => ?_
        have := List.mem_range.1 hj
        have : decide (j = i) = false := decide_eq_false (by omega)
        show (!(D j || decide (j = i))) = !D j
        rw [this, Bool.or_false]
      rw [hsame, hd]; simp
    · have := ih (by omega)
      have h2 : (D n || decide (n = i)) = D n := by rw [decide_eq_false (fun h => e h.symm), Bool.or_false]
      rw [h2]; omega
theorem left_zero {n : Nat} {D : Nat → Bool} (h : leftN n D = 0) : ∀ i < n, D i = true := fun i hi => by
  unfold leftN at h
  have := List.length_eq_zero_iff.1 h
  cases hd : D i with
  | true => rfl
  | false =>
    have hm : i ∈ (List.range n).filter fun i => !D i := List.mem_filter.2 ⟨List.mem_range.2 hi, by rw [hd]; rfl⟩
    rw [this] at hm; cases hm
theorem any_inv {P : Program} {ops : Array Oper} {Q : Exit → Act → World → Prop} (hl : lineB ops = true) (I : (Nat → Bool) → Act → World → Prop)
    (step : ∀ (D : Nat → Bool) a w i o, I D a w → ops[i]? = some o → D i = false → (∀ e ∈ o.after, Region.binds .any e = true → D e.on = true) → wpOp P ops Q i (fun a' w' => I (fun j => D j || decide (j = i)) a' w') a w)
    (done : ∀ (D : Nat → Bool) a w, I D a w → (∀ i, i < ops.size → D i = true) → Q .normal a w) :
    ∀ (fuel : Nat) (L : Array Bool) (D : Nat → Bool) (a : Act) (w : World), L.size = ops.size → (∀ i, i < ops.size → L[i]? = some (D i)) → leftN ops.size D = fuel → I D a w → wpAny P .any ops Q fuel L a w := by
  have hready : ∀ (L : Array Bool) (D : Nat → Bool) (i : Nat) (o : Oper), (∀ i, i < ops.size → L[i]? = some (D i)) → ops[i]? = some o → (i ∈ Region.ready .any ops L ↔ D i = false ∧ ∀ e ∈ o.after, Region.binds .any e = true → D e.on = true) := fun L D i o hL ho => by
    have hi : i < ops.size := (Array.getElem?_eq_some_iff.1 ho).1
    rw [mem_ready, Array.getD_eq_getD_getElem?, hL i hi, Option.getD_some]
    constructor
    · rintro ⟨h1, o', ho', h2⟩
      obtain rfl := Option.some.inj (ho.symm.trans ho')
      refine ⟨h1, fun e he hb => ?_⟩
      have := h2 e he hb
      rw [Array.getD_eq_getD_getElem?, hL e.on (by have := line_of hl ho e he hb; omega), Option.getD_some] at this
      exact this
    · rintro ⟨h1, h2⟩
      refine ⟨h1, o, ho, fun e he hb => ?_⟩
      rw [Array.getD_eq_getD_getElem?, hL e.on (by have := line_of hl ho e he hb; omega), Option.getD_some]
      exact h2 e he hb
  have hnil : ∀ (L : Array Bool) (D : Nat → Bool), (∀ i, i < ops.size → L[i]? = some (D i)) → Region.ready .any ops L = [] → ∀ i, i < ops.size → D i = true := fun L D hL hr i => by
    induction i using Nat.strongRecOn with
    | _ i ih =>
      intro hi
      cases hd : D i with
      | true => rfl
      | false =>
        have ho : ops[i]? = some ops[i] := Array.getElem?_eq_getElem hi
        have := (hready L D i _ hL ho).2 ⟨hd, fun e he hb => ih e.on (line_of hl ho e he hb) (by have := line_of hl ho e he hb; omega)⟩
        rw [hr] at this; cases this
  intro fuel
  induction fuel with
  | zero =>
    intro L D a w hs hL hf hI
    have hall := left_zero hf
    refine ⟨?_, done D a w hI hall⟩
    refine List.eq_nil_iff_forall_not_mem.2 fun j hj => ?_
    obtain ⟨_, o, ho, _⟩ := mem_ready.1 hj
    have := ((hready L D j o hL ho).1 hj).1
    rw [hall j (Array.getElem?_eq_some_iff.1 ho).1] at this; cases this
  | succ fuel ih =>
    intro L D a w hs hL hf hI
    refine ⟨fun hr => done D a w hI (hnil L D hL hr), fun i hi => ?_⟩
    obtain ⟨_, o, ho, _⟩ := mem_ready.1 hi
    have hi' : i < ops.size := (Array.getElem?_eq_some_iff.1 ho).1
    obtain ⟨h1, h2⟩ := (hready L D i o hL ho).1 hi
    refine wpOp_mono (fun a' w' h' => ?_) (step D a w i o hI ho h1 h2)
    refine ih _ (fun j => D j || decide (j = i)) a' w' (by rw [Array.size_setIfInBounds]; exact hs) (fun j hj => ?_) ?_ h'
    · rw [Array.getElem?_setIfInBounds]
      by_cases e : i = j
      · subst e
        rw [if_pos rfl, if_pos (by rw [hs]; exact hi')]; simp
      · rw [if_neg e, hL j hj, decide_eq_false (fun h => e h.symm), Bool.or_false]
    · have := left_or hi' h1
      omega
theorem left_all (n : Nat) : leftN n (fun _ => false) = n := by
  unfold leftN
  have : ((List.range n).filter fun _ => !false) = List.range n := List.filter_eq_self.2 (fun _ _ => rfl)
  rw [this, List.length_range]
theorem region_inv {P : Program} {ops : Array Oper} {Q : Exit → Act → World → Prop} {id : Nat} {a : Act} {w : World} (hm : P.follows .mixedOrders = true) (hl : lineB ops = true) (I : (Nat → Bool) → Act → World → Prop)
    (first : I (fun _ => false) a { w with drawn := w.drawn + 1 })
    (step : ∀ (D : Nat → Bool) a w i o, I D a w → ops[i]? = some o → D i = false → (∀ e ∈ o.after, Region.binds .any e = true → D e.on = true) → wpOp P ops Q i (fun a' w' => I (fun j => D j || decide (j = i)) a' w') a w)
    (done : ∀ (D : Nat → Bool) a w, I D a w → (∀ i, i < ops.size → D i = true) → Q .normal a w) : (Code.region id ops true).wp P Q a w :=
  wp_region_any hm (any_inv hl I step done ops.size _ (fun _ => false) a _ (by simp) (fun i hi => by simp [hi]) (left_all _) first)
end Go.Proofs.YtiiajhomdpfafaaGreatDoor
