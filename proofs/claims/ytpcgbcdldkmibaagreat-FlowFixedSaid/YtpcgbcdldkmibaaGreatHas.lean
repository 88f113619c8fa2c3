/- A calendar that came in: its weekend, and its rules as a list. A schedule that came in: its eight numbers, its weekend, and its rules as a list. -/
import Derived.Test.YtpcgbcdldkmibaaGreatHak
import Derived.Test.YtpcgbcdldkmibaaGreatRows
import Derived.ProofKit
import Derived.OpenShut
import Derived.Carry
import Derived.Deep.Slices
import Derived.Test.YtpcgbcdldkmibaaGreatHal
namespace Go.Proofs.YtpcgbcdldkmibaaGreat
open Go.ChangeShapes Go.WideShapes Go.ChangeAt Go.RowKit

theorem cellsI : Tryz.prog.cellsOf 3 = 1 := by kernel_rfl
theorem cellsRule : Tryz.prog.cellsOf 178 = 9 := by kernel_rfl
theorem cellsRules : Tryz.prog.cellsOf 23 = 1 := by kernel_rfl
theorem cellsCal : Tryz.prog.cellsOf 25 = 2 := by kernel_rfl

def intV : Value → Int
  | .int _ n => n
  | _ => 0
def rulOf (f : Nat → Value) : Rul := ⟨intV (f 0), intV (f 1), intV (f 2), intV (f 3), intV (f 4), intV (f 5), intV (f 6), intV (f 7), intV (f 8)⟩
def I64 (n : Int) : Prop := -9223372036854775808 ≤ n ∧ n ≤ 9223372036854775807
structure RulI (r : Rul) : Prop where
  (kind : I64 r.kind) (mon : I64 r.mon) (day : I64 r.day) (nth : I64 r.nth) (wd : I64 r.wd) (off : I64 r.off) (fr : I64 r.fr) (to : I64 r.to) (mv : I64 r.mv)
theorem i64_of_wf {n : Int} (h : (Lit.int .i64 n).wf = true) : I64 n := by
  simp only [Lit.wf, IntKind.min, IntKind.max, IntKind.signed, IntKind.bits] at h
  simp at h
  unfold I64; omega

theorem rule_cells {H : Type} {enc : TypeId × Value → H} {w : World} {base n : Nat} {spare : Nat → Bool} {held : Bool} {cs : List Value} {x : DataW H × List MemPlace} (h : DataW.trod enc Tryz.prog w base spare held n 178 cs = some x) :
    ∀ j < 9, ∃ z, cs[j]? = some (.int .i64 z) ∧ I64 z := by
  obtain ⟨xs, m, _, _, hl, hlen, hf⟩ := DataW.trod_struct Tryz.underlying178 h
  rw [cellsRule] at hl
  have hlen9 : xs.length = 9 := hlen
  have key : ∀ j < 9, DataW.trod enc Tryz.prog w base spare held m 3 ((cs.drop j).take 1) = xs[j]? := fun j hj => by
    have e0 : DataW.trod enc Tryz.prog w base spare held m 3 ((cs.drop 0).take (Tryz.prog.cellsOf 3)) = xs[0]? := hf 0 _ rfl
    rw [cellsI] at e0
    have e1 : DataW.trod enc Tryz.prog w base spare held m 3 ((cs.drop 1).take (Tryz.prog.cellsOf 3)) = xs[1]? := hf 1 _ rfl
    rw [cellsI] at e1
    have e2 : DataW.trod enc Tryz.prog w base spare held m 3 ((cs.drop 2).take (Tryz.prog.cellsOf 3)) = xs[2]? := hf 2 _ rfl
    rw [cellsI] at e2
    have e3 : DataW.trod enc Tryz.prog w base spare held m 3 ((cs.drop 3).take (Tryz.prog.cellsOf 3)) = xs[3]? := hf 3 _ rfl
    rw [cellsI] at e3
    have e4 : DataW.trod enc Tryz.prog w base spare held m 3 ((cs.drop 4).take (Tryz.prog.cellsOf 3)) = xs[4]? := hf 4 _ rfl
    rw [cellsI] at e4
    have e5 : DataW.trod enc Tryz.prog w base spare held m 3 ((cs.drop 5).take (Tryz.prog.cellsOf 3)) = xs[5]? := hf 5 _ rfl
    rw [cellsI] at e5
    have e6 : DataW.trod enc Tryz.prog w base spare held m 3 ((cs.drop 6).take (Tryz.prog.cellsOf 3)) = xs[6]? := hf 6 _ rfl
    rw [cellsI] at e6
    have e7 : DataW.trod enc Tryz.prog w base spare held m 3 ((cs.drop 7).take (Tryz.prog.cellsOf 3)) = xs[7]? := hf 7 _ rfl
    rw [cellsI] at e7
    have e8 : DataW.trod enc Tryz.prog w base spare held m 3 ((cs.drop 8).take (Tryz.prog.cellsOf 3)) = xs[8]? := hf 8 _ rfl
    rw [cellsI] at e8
    rcases (show j = 0 ∨ j = 1 ∨ j = 2 ∨ j = 3 ∨ j = 4 ∨ j = 5 ∨ j = 6 ∨ j = 7 ∨ j = 8 by omega) with rfl | rfl | rfl | rfl | rfl | rfl | rfl | rfl | rfl
    · exact e0
    · exact e1
    · exact e2
    · exact e3
    · exact e4
    · exact e5
    · exact e6
    · exact e7
    · exact e8
  intro j hj
  have e := key j hj
  rw [List.getElem?_eq_getElem (by omega)] at e
  obtain ⟨z, hz, _, hw⟩ := DataW.trod_int Tryz.underlying3 e
  refine ⟨z, ?_, i64_of_wf hw⟩
  have hj' : j < cs.length := by omega
  rw [List.drop_eq_getElem_cons hj', List.take_succ_cons, List.take_zero] at hz
  rw [List.getElem?_eq_getElem hj']
  exact congrArg some (List.cons.inj hz).1

theorem rules_source {H : Type} {enc : TypeId × Value → H} {W : World} {fuel : Nat} {v : Value} {x : DataW H × List MemPlace} (h : DataW.trod enc Tryz.prog W 0 (fun _ => true) true fuel 23 [v] = some x) :
    ∃ p len cap, v = .slice p len cap ∧ len ≤ cap ∧ cap ≤ maxLen ∧ ∃ b off rs, rs.length = len ∧ RSrc W p b off rs ∧ ∀ r ∈ rs, RulI r := by
  rcases Go.Deep.open_slice Tryz.underlying23 h with ⟨hcs, _⟩ | ⟨a, len, cap, m, n, D, Pl, hcs, _, hl, hm, hmm, _, hc⟩
  · obtain rfl := (List.cons.inj hcs).1
    exact ⟨none, 0, 0, rfl, Nat.le_refl _, Nat.zero_le _, 0, 0, [], rfl, ⟨fun h => by simp at h, fun h => by simp at h, fun j hj => by simp at hj⟩, fun r hr => by simp at hr⟩
  · obtain rfl := (List.cons.inj hcs).1
    simp only [if_true] at hmm
    subst hmm
    obtain ⟨b, off, spot⟩ := a
    refine ⟨_, len, m, rfl, hl, hm, ?_⟩
    rw [cellsRule] at hc
    have hv : ∀ i, i < len → ∃ f : Nat → Value, ∀ j < 9, ∃ z, f j = .int .i64 z ∧ I64 z ∧ W.cell? (Addr.add (Addr.add ⟨b, off, spot⟩ (i * 9)) j) = some (.int .i64 z) := fun i hi => by
      obtain ⟨cs', h1, h2⟩ := hc i (by omega)
      obtain ⟨_, _, hcell⟩ := World.cells?_some h1
      have hr := rule_cells h2
      refine ⟨fun j => cs'.getD j (.int .i64 0), fun j hj => ?_⟩
      obtain ⟨z, hz, hz2⟩ := hr j hj
      refine ⟨z, ?_, hz2, (hcell j hj).trans hz⟩
      show cs'.getD j _ = _
      rw [List.getD_eq_getElem?_getD, hz]; rfl
    have hv2 : ∃ F : Nat → Nat → Value, ∀ i, i < len → ∀ j < 9, ∃ z, F i j = .int .i64 z ∧ I64 z ∧ W.cell? (Addr.add (Addr.add ⟨b, off, spot⟩ (i * 9)) j) = some (.int .i64 z) := by
      refine ⟨fun i => if hi : i < len then (hv i hi).choose else fun _ => .int .i64 0, fun i hi j hj => ?_⟩
      dsimp only
      rw [dif_pos hi]
      exact (hv i hi).choose_spec j hj
    obtain ⟨F, hF⟩ := hv2
    have hcell : ∀ i, i < len → ∀ j < 9, W.cell? (Addr.add (Addr.add ⟨b, off, spot⟩ (i * 9)) j) = some (.int .i64 (intV (F i j))) ∧ I64 (intV (F i j)) := fun i hi j hj => by
      obtain ⟨z, hz, hz2, hz3⟩ := hF i hi j hj
      rw [hz]; exact ⟨hz3, hz2⟩
    have hg : ∀ i, i < len → ((List.range len).map fun i => rulOf (F i)).getD i rul0 = rulOf (F i) := fun i hi => by simp [List.getD, hi]
    have hsp : 0 < len → spot = none := fun h0 => by
      have h2 := World.cell?_spot (hcell 0 h0 0 (by omega)).1
      simpa [Addr.add] using h2
    refine ⟨b, off, (List.range len).map fun i => rulOf (F i), by simp, ⟨fun h0 => ?_, fun h0 => ?_, fun j hj => ?_⟩, fun r hr => ?_⟩
    · rw [hsp (by simpa using h0)]
    · have h1 := (hcell 0 (by simpa using h0) 0 (by omega)).1
      have h3 := World.block_lt_of_cell? _ _ h1
      simpa [Addr.add] using h3
    · have hj' : j < len := by simpa using hj
      have hs := hsp (by omega)
      subst hs
      rw [hg j hj']
      have e : ∀ k < 9, W.cell? ⟨b, off + j * 9 + k, none⟩ = some (.int .i64 (intV (F j k))) := fun k hk => by
        have h1 := (hcell j hj' k hk).1
        rw [Addr.add_lit, Addr.add_lit] at h1
        exact h1
      exact ⟨e 0 (by omega), e 1 (by omega), e 2 (by omega), e 3 (by omega), e 4 (by omega), e 5 (by omega), e 6 (by omega), e 7 (by omega), e 8 (by omega)⟩
    · obtain ⟨i, hi, rfl⟩ := List.mem_map.1 hr
      have hi' : i < len := by simpa using hi
      have e : ∀ k < 9, I64 (intV (F i k)) := fun k hk => (hcell i hi' k hk).2
      exact ⟨e 0 (by omega), e 1 (by omega), e 2 (by omega), e 3 (by omega), e 4 (by omega), e 5 (by omega), e 6 (by omega), e 7 (by omega), e 8 (by omega)⟩

end Go.Proofs.YtpcgbcdldkmibaaGreat
namespace Go.Proofs.YtpcgbcdldkmibaaGreat
open Go.ChangeShapes Go.WideShapes Go.ChangeAt Go.RowKit

theorem cellsSpec : Tryz.prog.cellsOf 27 = 10 := by kernel_rfl
structure SpcI (s : Spc) : Prop where
  (st : I64 s.st) (en : I64 s.en) (n : I64 s.n) (unit : I64 s.unit) (stub : I64 s.stub) (roll : I64 s.roll) (conv : I64 s.conv) (lag : I64 s.lag)
end Go.Proofs.YtpcgbcdldkmibaaGreat
