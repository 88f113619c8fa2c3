/- A region whose operations write a row of slots one behind another and read only older ones: its order in the text is a lexical one. Looked up once an operation. -/
import Derived.BigQuiet
namespace Go.Proofs.Ythddhgjfboeggaa
open Go.RowKit

/-- Each operation writes the next slot, waits for older ones, and reads what it waits for. -/
def lineFrom (ops : Array Oper) (base : Nat) : Nat → List Oper → Bool
  | _, [] => true
  | j, o :: l => (match o.dst with | some d => Nat.beq d (base + j) | none => false) && (o.after.toList.all fun e => !Region.binds .any e || Nat.ble (e.on + 1) j) && ((o.looksAt ops).all fun d => Nat.ble (d + 1) base || o.after.toList.any fun e => Region.binds .any e && Nat.beq (base + e.on) d) && lineFrom ops base (j + 1) l
structure LineAt (ops : Array Oper) (base j : Nat) (o : Oper) : Prop where
  dst : o.dst = some (base + j)
  on : ∀ e ∈ o.after, Region.binds .any e = true → e.on < j
  see : ∀ d : Nat, d ∈ o.looksAt ops → d < base ∨ ∃ e ∈ o.after, Region.binds .any e = true ∧ base + e.on = d
theorem line_at {ops : Array Oper} {base : Nat} : ∀ {l : List Oper} {j : Nat}, lineFrom ops base j l = true → ∀ i o, l[i]? = some o → LineAt ops base (j + i) o
  | [], _, _, i, o, ho => by simp at ho
  | x :: l, j, h, i, o, ho => by
    unfold lineFrom at h
    simp only [Bool.and_eq_true] at h
    obtain ⟨⟨⟨h1, h2⟩, h3⟩, h4⟩ := h
    cases i with
    | zero =>
      simp only [List.getElem?_cons_zero, Option.some.injEq] at ho
      subst ho
      refine ⟨?_, fun e he hb => ?_, fun d hd => ?_⟩
      · cases hx : x.dst with
        | none => rw [hx] at h1; cases h1
        | some d => rw [hx] at h1; rw [Nat.eq_of_beq_eq_true h1]; rfl
      · have := List.all_eq_true.1 h2 e (by simpa using he)
        rw [hb] at this
        simp only [Bool.not_true, Bool.false_or] at this
        have := Nat.le_of_ble_eq_true this
        omega
      · have := List.all_eq_true.1 h3 d hd
        rcases (Bool.or_eq_true _ _ ▸ this : _ ∨ _) with a | a
        · exact Or.inl (Nat.lt_of_succ_le (Nat.le_of_ble_eq_true a))
        · obtain ⟨e, he, hb⟩ := List.any_eq_true.1 a
          rw [Bool.and_eq_true] at hb
          exact Or.inr ⟨e, by simpa using he, hb.1, Nat.eq_of_beq_eq_true hb.2⟩
    | succ i =>
      simp only [List.getElem?_cons_succ] at ho
      have := line_at h4 i o ho
      rw [show j + (i + 1) = j + 1 + i by omega]
      exact this
theorem line_from {ops : Array Oper} {base : Nat} (H : ∀ j o, ops[j]? = some o → LineAt ops base j o) : ∀ (fuel k : Nat) (L : Array Bool), fuel + k = ops.size → L.size = ops.size → (∀ i, i < ops.size → L[i]? = some (decide (i < k))) → Region.lexFrom .any ops fuel k L = true
  | 0, k, L, hk, hs, hL => by
    unfold Region.lexFrom
    rw [List.isEmpty_iff]
    refine List.eq_nil_iff_forall_not_mem.2 fun j hj => ?_
    obtain ⟨h0, o, ho, _⟩ := mem_ready.1 hj
    have hlt : j < ops.size := (Array.getElem?_eq_some_iff.1 ho).1
    have hk' : j < k := by omega
    rw [Array.getD_eq_getD_getElem?, hL j hlt] at h0
    simp [hk'] at h0
  | fuel + 1, k, L, hk, hs, hL => by
    have hkn : k < ops.size := by omega
    obtain ⟨oi, hoi⟩ : ∃ o, ops[k]? = some o := ⟨ops[k], by simp [hkn]⟩
    have Hi := H k oi hoi
    unfold Region.lexFrom
    rw [Bool.and_eq_true, Bool.and_eq_true]
    refine ⟨⟨?_, ?_⟩, ?_⟩
    · rw [List.contains_iff_mem]
      refine mem_ready.2 ⟨?_, oi, hoi, fun e he hb => ?_⟩
      · rw [Array.getD_eq_getD_getElem?, hL k hkn]; simp
      · have := Hi.on e he hb
        rw [Array.getD_eq_getD_getElem?, hL e.on (by omega)]; simp [this]
    · unfold Region.free
      rw [hoi]
      refine List.all_eq_true.2 fun j hj => ?_
      have hjn := List.mem_range.1 hj
      by_cases hjk : j = k
      · simp [hjk]
      by_cases hlt : j < k
      · have : L.getD j true = true := by rw [Array.getD_eq_getD_getElem?, hL j hjn]; simp [hlt]
        rw [this]; simp
      obtain ⟨oj, hoj⟩ : ∃ o, ops[j]? = some o := ⟨ops[j], by simp [hjn]⟩
      have Hj := H j oj hoj
      rw [hoj]
      simp only [Bool.or_eq_true]
      refine Or.inr ?_
      by_cases hw : ∃ e ∈ oj.after, Region.binds .any e = true ∧ e.on = k
      · obtain ⟨e, he, hb, hk'⟩ := hw
        refine Or.inl (Array.any_eq_true'.2 ⟨e, he, ?_⟩)
        simp [hb, hk']
      · refine Or.inr ?_
        unfold Oper.apart
        rw [Hi.dst, Hj.dst]
        have n1 : base + k ∉ oj.looksAt ops := fun h => by
          rcases Hj.see _ h with a | ⟨e, he, hb, a⟩
          · omega
          · exact hw ⟨e, he, hb, by omega⟩
        have n2 : base + j ∉ oi.looksAt ops := fun h => by
          rcases Hi.see _ h with a | ⟨e, he, hb, a⟩
          · omega
          · have := Hi.on e he hb; omega
        simp [n1, n2]
        exact hjk
    · refine line_from H fuel (k + 1) _ (by omega) (by simp [hs]) fun i hi => ?_
      by_cases hik : k = i
      · subst hik
        rw [Array.getElem?_setIfInBounds_self_of_lt (by omega)]; simp
      · rw [Array.getElem?_setIfInBounds_ne hik, hL i hi]
        congr 1
        exact decide_eq_decide.2 (by omega)
theorem lex_line {l : List Oper} (base : Nat) (hs : Region.noSelect l.toArray = true) (h : lineFrom l.toArray base 0 l = true) : Region.lexB .any l.toArray = true := by
  unfold Region.lexB
  rw [hs, Bool.true_and]
  refine line_from (base := base) (fun j o ho => ?_) _ 0 _ (by omega) (by simp) fun i hi => ?_
  · have := line_at h j o (by simpa using ho)
    rw [Nat.zero_add] at this
    exact this
  · have hi' : i < l.length := by simpa using hi
    simp [hi']
end Go.Proofs.Ythddhgjfboeggaa
