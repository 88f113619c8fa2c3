/- What Join tells, of any two calendars; and that the joined calendar is open where both are. -/
import Derived.Test.YtglkhoekpafddaaQJoinD
namespace Go.Proofs.Ytglkhoekpafddaa
open Go.RowKit

/-- What is wrong with two calendars that are to be joined; 0: nothing. -/
inductive JoinC (W W' : Int) (rs rs' : List Rul) : Int → Prop where
  | a (A B : Int) : ChkR W rs A B → A ≠ 0 → JoinC W W' rs rs' A
  | b (A B : Int) : OkC W rs → ChkR W' rs' A B → A ≠ 0 → JoinC W W' rs rs' A
  | mov : OkC W rs → OkC W' rs' → W ≠ W' → movesB rs = true ∨ movesB rs' = true → JoinC W W' rs rs' 60
  | on (A B : Int) : OkC W rs → OkC W' rs' → joinFree W W' rs rs' → ChkR (orI W W') (rs ++ rs') A B → JoinC W W' rs rs' A
theorem joinC_ex (W W' : Int) (rs rs' : List Rul) : ∃ E, JoinC W W' rs rs' E := by
  obtain ⟨A, B, h⟩ := chk_ex W rs
  by_cases hA : A = 0
  · subst hA
    obtain ⟨hok, _⟩ := chk_ok h
    obtain ⟨A', B', h'⟩ := chk_ex W' rs'
    by_cases hA' : A' = 0
    · subst hA'
      obtain ⟨hok', _⟩ := chk_ok h'
      obtain ⟨C, D, h2⟩ := chk_ex (orI W W') (rs ++ rs')
      by_cases hW : W = W'
      · exact ⟨C, .on C D hok hok' (Or.inl hW) h2⟩
      · by_cases hm : movesB rs = true ∨ movesB rs' = true
        · exact ⟨60, .mov hok hok' hW hm⟩
        · refine ⟨C, .on C D hok hok' (Or.inr ⟨hW, ?_, ?_⟩) h2⟩
          · exact Bool.eq_false_iff.2 (fun a => hm (Or.inl a))
          · exact Bool.eq_false_iff.2 (fun a => hm (Or.inr a))
    · exact ⟨A', .b A' B' hok h' hA'⟩
  · exact ⟨A, .a A B h hA⟩
theorem joinC_ok {W W' : Int} {rs rs' : List Rul} (h : JoinC W W' rs rs' 0) : OkC W rs ∧ OkC W' rs' ∧ joinFree W W' rs rs' ∧ OkC (orI W W') (rs ++ rs') := by
  generalize hE : (0 : Int) = E at h
  cases h with
  | a A B _ hA => exact absurd hE.symm hA
  | b A B _ _ hA => exact absurd hE.symm hA
  | mov => exact absurd hE (by decide)
  | on A B h1 h2 h3 h4 => subst hE; exact ⟨h1, h2, h3, (chk_ok h4).1⟩

theorem joinP_err (W W' E : Int) (p p' : Option Addr) (b off c b' off' c' : Nat) (rs rs' : List Rul) (w : World) (h : JoinC W W' rs rs' E) (hE : E ≠ 0) (hs : RSrc w p b off rs) (hs' : RSrc w p' b' off' rs') (hl : rs.length ≤ 9223372036854775807) (hl' : rs'.length ≤ 9223372036854775807) (hnil : p = none → rs.length = 0 ∧ c = 0) (hnil' : p' = none → rs'.length = 0 ∧ c' = 0) :
    Calls Try.prog 17 #[.agg #[.int .i64 W, .slice p rs.length c], .agg #[.int .i64 W', .slice p' rs'.length c']] w fun e w' => e = .returned (.tuple #[.agg #[.int .i64 0, .slice none 0 0], .int .i64 E]) ∧ Below w.heap.size w w' := by
  cases h with
  | a A B h hA =>
    obtain ⟨A', B', h'⟩ := chk_ex W' rs'
    exact joinP_bad W W' p p' c c' _ _ E B A' B' E w ⟨fun wx hb => check_any W p b off c rs E B wx h (hs.below hb) hl, fun wx hb => check_any W' p' b' off' c' rs' A' B' wx h' (hs'.below hb) hl'⟩ (Or.inl ⟨bne_iff_ne.2 hA, rfl⟩)
  | b A B hok h' hA =>
    exact joinP_bad W W' p p' c c' _ _ 0 0 E B E w ⟨fun wx hb => check_any W p b off c rs 0 0 wx (.ok hok) (hs.below hb) hl, fun wx hb => check_any W' p' b' off' c' rs' E B wx h' (hs'.below hb) hl'⟩ (Or.inr ⟨rfl, bne_iff_ne.2 hA, rfl⟩)
  | mov h1 h2 hW hm => exact joinP_mov W W' p p' c c' _ _ rs rs' w (joinQ_of W W' p p' b off c b' off' c' rs rs' w h1 h2 hs hs') hW hm
  | on A B h1 h2 hf hc =>
    refine (joinP_on W W' p p' b off c b' off' c' _ _ rs rs' E B w (joinQ_of W W' p p' b off c b' off' c' rs rs' w h1 h2 hs hs') hf rfl rfl h1.len h2.len hs hs' hnil hnil' hc).mono ?_
    rintro e w' ⟨ho, hb⟩
    rcases ho with ⟨_, he⟩ | ⟨a, _⟩
    · exact ⟨he, hb⟩
    · exact absurd a hE
theorem joinP_fine (W W' : Int) (p p' : Option Addr) (b off c b' off' c' : Nat) (rs rs' : List Rul) (w : World) (h : JoinC W W' rs rs' 0) (hs : RSrc w p b off rs) (hs' : RSrc w p' b' off' rs') (hnil : p = none → rs.length = 0 ∧ c = 0) (hnil' : p' = none → rs'.length = 0 ∧ c' = 0) :
    Calls Try.prog 17 #[.agg #[.int .i64 W, .slice p rs.length c], .agg #[.int .i64 W', .slice p' rs'.length c']] w fun e w' => ∃ q g k, e = .returned (.tuple #[.agg #[.int .i64 (orI W W'), .slice q (rs.length + rs'.length) k], .int .i64 0]) ∧ RSrcW w' q g 0 (rs ++ rs') ∧ w.heap.size ≤ g ∧ Below w.heap.size w w' := by
  generalize hE : (0 : Int) = E at h
  cases h with
  | a A B _ hA => exact absurd hE.symm hA
  | b A B _ _ hA => exact absurd hE.symm hA
  | mov => exact absurd hE (by decide)
  | on A B h1 h2 hf hc =>
    subst hE
    refine (joinP_on W W' p p' b off c b' off' c' _ _ rs rs' 0 B w (joinQ_of W W' p p' b off c b' off' c' rs rs' w h1 h2 hs hs') hf rfl rfl h1.len h2.len hs hs' hnil hnil' hc).mono ?_
    rintro e w' ⟨ho, hb⟩
    rcases ho with ⟨a, _⟩ | ⟨_, q, g, k, he, hsr, hg⟩
    · exact absurd rfl a
    · exact ⟨q, g, k, he, hsr, hg, hb⟩

theorem or_nat {x y : Nat} (hx : x < 127) (hy : y < 127) : orI (x : Int) (y : Int) = ((x ||| y : Nat) : Int) := by
  have e : ∀ x < 127, ∀ y < 127, bits .or .i64 ((x : Nat) : Int) ((y : Nat) : Int) = ((x ||| y : Nat) : Int) := by decide +kernel
  exact e x hx y hy
theorem off_bit (x : Nat) (n : Int) : offB (x : Int) n = x.testBit (n % 7).toNat := by
  unfold offB
  rw [Nat.testBit_eq_decide_div_mod_eq]
  generalize (n % 7).toNat = k
  rw [Bool.eq_iff_iff, beq_iff_eq, decide_eq_true_eq]
  have : ((x : Int) / ((2 ^ k : Nat) : Int) % 2) = ((x / 2 ^ k % 2 : Nat) : Int) := by
    rw [Int.natCast_emod, Int.natCast_ediv]; rfl
  rw [this]
  omega
theorem off_or {W W' n : Int} (h : 0 ≤ W ∧ W ≤ 126) (h' : 0 ≤ W' ∧ W' ≤ 126) : offB (orI W W') n = (offB W n || offB W' n) := by
  obtain ⟨x, rfl⟩ := Int.eq_ofNat_of_zero_le h.1
  obtain ⟨y, rfl⟩ := Int.eq_ofNat_of_zero_le h'.1
  rw [or_nat (by omega) (by omega), off_bit, off_bit, off_bit, Nat.testBit_or]
theorem hit_stay {W O : Int} {r : Rul} {n Y : Int} (h : 0 ≤ W ∧ W ≤ 126) (h' : 0 ≤ O ∧ O ≤ 126) (hm : r.mv = 0) : hitB W r n Y = hitB O r n Y := by
  have e : ∀ y, dayO W r y = dayO O r y := fun y => by
    unfold dayO
    rw [hm]
    cases baseO r y with
    | none => rfl
    | some g => rw [Option.map_some, Option.map_some, mv_zero h.1 h.2, mv_zero h'.1 h'.2]
  unfold hitB
  rw [e, e, e]
theorem hol_stay {W O : Int} {rs : List Rul} {n Y : Int} (h : 0 ≤ W ∧ W ≤ 126) (h' : 0 ≤ O ∧ O ≤ 126) (hm : movesB rs = false) : holB W rs n Y = holB O rs n Y := by
  have hz : ∀ r ∈ rs, r.mv = 0 := fun r hr => by
    refine Classical.byContradiction fun a => ?_
    have : movesB rs = true := List.any_eq_true.2 ⟨r, hr, bne_iff_ne.2 a⟩
    rw [hm] at this
    exact Bool.noConfusion this
  unfold holB
  rw [Bool.eq_iff_iff, List.any_eq_true, List.any_eq_true]
  constructor
  · rintro ⟨r, hr, e⟩; exact ⟨r, hr, by rw [← hit_stay h h' (hz r hr)]; exact e⟩
  · rintro ⟨r, hr, e⟩; exact ⟨r, hr, by rw [hit_stay h h' (hz r hr)]; exact e⟩
theorem or_self {W : Int} (h : 0 ≤ W ∧ W ≤ 126) : orI W W = W := by
  obtain ⟨x, rfl⟩ := Int.eq_ofNat_of_zero_le h.1
  rw [or_nat (by omega) (by omega), Nat.or_self]
/-- Open where both are. -/
theorem op_join {W W' n : Int} {rs rs' : List Rul} (h : JoinC W W' rs rs' 0) : opB (orI W W') (rs ++ rs') n = (opB W rs n && opB W' rs' n) := by
  obtain ⟨h1, h2, hf, h3⟩ := joinC_ok h
  have a1 : 0 ≤ W ∧ W ≤ 126 := ⟨h1.w0, h1.w1⟩
  have a2 : 0 ≤ W' ∧ W' ≤ 126 := ⟨h2.w0, h2.w1⟩
  have a3 : 0 ≤ orI W W' ∧ orI W W' ≤ 126 := ⟨h3.w0, h3.w1⟩
  have hh : holB (orI W W') (rs ++ rs') n (yrI n) = (holB W rs n (yrI n) || holB W' rs' n (yrI n)) := by
    have e : holB (orI W W') (rs ++ rs') n (yrI n) = (holB (orI W W') rs n (yrI n) || holB (orI W W') rs' n (yrI n)) := List.any_append
    rw [e]
    rcases hf with rfl | ⟨_, hm, hm'⟩
    · rw [or_self a1]
    · rw [hol_stay a1 a3 hm, hol_stay a2 a3 hm']
  unfold opB
  rw [off_or a1 a2, hh]
  cases offB W n <;> cases offB W' n <;> cases holB W rs n (yrI n) <;> cases holB W' rs' n (yrI n) <;> rfl
end Go.Proofs.Ytglkhoekpafddaa
