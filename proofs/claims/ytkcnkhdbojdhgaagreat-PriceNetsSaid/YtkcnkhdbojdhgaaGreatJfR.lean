/- The contract of slices.SortFunc at keys. -/
import Derived.Test.YtkcnkhdbojdhgaaGreatJShelf
import Derived.Test.YtkcnkhdbojdhgaaGreatJfK
import Derived.Test.YtkcnkhdbojdhgaaGreatJfN
namespace Go.Proofs.YtkcnkhdbojdhgaaGreat
open Go.RowKit Go.Shelf

def cfK (x y : Int × Int) : Int := orV (cmpV x.1 y.1) (cmpV x.2 y.2)
theorem cfK_lt (x y : Int × Int) : ltOf cfK x y = true ↔ ltK x y := by
  unfold ltOf cfK orV cmpV ltK
  rw [decide_eq_true_iff]
  by_cases h1 : x.1 < y.1
  · simp [h1]
  · by_cases h2 : y.1 < x.1
    · simp [h1, h2]; omega
    · have e : x.1 = y.1 := by omega
      simp only [if_neg h1, if_neg h2, ne_eq, not_true_eq_false, if_false]
      by_cases h3 : x.2 < y.2
      · simp [h3, e]
      · by_cases h4 : y.2 < x.2
        · simp [h3, h4, e]
        · simp [h3, h4, e]
theorem cfK_not (x y : Int × Int) : ltOf cfK x y = false ↔ ¬ ltK x y := by
  rw [← cfK_lt, Bool.not_eq_true]
theorem swoK : Go.Sort.SWO (ltOf cfK) where
  irrefl x := (cfK_not x x).2 (ltK_irrefl x)
  trans x y z h1 h2 := (cfK_lt x z).2 (ltK_trans ((cfK_lt x y).1 h1) ((cfK_lt y z).1 h2))
  ntrans x y z h1 h2 := by
    have a := (cfK_not x y).1 h1
    have b := (cfK_not y z).1 h2
    refine (cfK_not x z).2 ?_
    unfold ltK at *
    omega
theorem cmpLaysK (blk off size : Nat) (w : World) : CmpLays Tryz.prog 75 #[] keyC 2 cfK blk off size w :=
  fun _ _ _ _ x y => jCmp_any x.1 x.2 y.1 y.2 _
theorem isAggKy (w : World) : (isAgg 134).run Tryz.prog w = .ok true w := Tryz.isAgg134 w
theorem sizeOfKy (w : World) : (Go.sizeOf 134).run Tryz.prog w = .ok 2 w := Tryz.sizeOf134 w
theorem toArr_get (ks : List (Int × Int)) (i : Nat) (hi : i < ks.length) : ks.toArray[i]! = ks.getD i key0 := by
  simp [hi, List.getD]
theorem holdsK_own {w : World} {base g m cap : Nat} {ks : List (Int × Int)} (h : w.ownsRow base 134 2 (.slice (some ⟨g, 0, none⟩) m cap) m (rowK ks)) (hm : ks.length = m) : Go.Sort.HoldsK keyC 2 w g 0 ks.toArray := by
  intro j hj
  rw [Go.Sort.size_flatK] at hj
  have hj' : j < ks.length * 2 := by simpa using hj
  have hi : j / 2 < ks.length := by omega
  obtain ⟨c', ho⟩ := kyown_obj h rfl
  refine ⟨?_, frozen_of_row _ _ _ _ _ ho⟩
  have e1 := World.ownsRow.cellAt h j (by omega)
  rw [Nat.zero_add, e1, Go.Sort.get_flatK _ _ _ _ hj, toArr_get ks _ hi, show j = j / 2 * 2 + j % 2 by omega, rowK_get ks _ _ hi (Nat.mod_lt _ (by omega))]
  rw [← show j = j / 2 * 2 + j % 2 by omega]
  rcases (show j % 2 = 0 ∨ j % 2 = 1 by omega) with e | e <;> rw [e] <;> rfl
theorem wrote_sort {enc : Int × Int → List Value} {k n g off : Nat} {d : Array (Int × Int)} {os : Array Obj} {w : World} : A.Wrote w (sortWorldK enc k w g off n d os) (fun i => i = g) := by
  have hsz : (Go.Sort.putRowK enc k (Go.Sort.ahead w n) g off d).heap.size = w.heap.size := by simp [Go.Sort.putRowK, Go.Sort.putRow, Go.Sort.mapBlock, Go.Sort.ahead]
  refine ⟨rfl, rfl, rfl, ?_, fun i hi hne => ?_⟩
  · show w.heap.size ≤ (_ ++ os).size
    rw [Array.size_append, hsz]; omega
  · show (_ ++ os)[i]? = _
    rw [Array.getElem?_append_left (by rw [hsz]; exact hi)]
    simp only [Go.Sort.putRowK, Go.Sort.putRow, Go.Sort.mapBlock, Go.Sort.ahead]
    rw [Array.getElem?_modify, if_neg (fun e => hne e.symm)]

set_option maxHeartbeats 1000000 in
theorem jSort_any (w : World) (base g m cap : Nat) (ks : List (Int × Int)) (h : w.ownsRow base 134 2 (.slice (some ⟨g, 0, none⟩) m cap) m (rowK ks)) (hm : ks.length = m) (hn : ks.Nodup) (hml : m ≤ 4096) :
    Calls Tryz.prog 74 #[.slice (some ⟨g, 0, none⟩) m cap, .func (.func 75) #[] #[]] w fun e w' => e = .returned (.tuple #[]) ∧ ∃ S : List (Int × Int), S.length = m ∧ (∀ x, x ∈ S ↔ x ∈ ks) ∧ S.Pairwise ltK ∧ (∀ i < m, w'.cell? ⟨g, i * 2, none⟩ = some (.int .i64 (S.getD i key0).1) ∧ w'.cell? ⟨g, i * 2 + 1, none⟩ = some (.int .i64 (S.getD i key0).2)) ∧ A.Wrote w w' (fun i => i = g) := by
  have hg : g < w.heap.size := (by obtain ⟨c', ho⟩ := kyown_obj h rfl; exact (Array.getElem?_eq_some_iff.1 ho).1)
  have eg : ∀ args w, (callFunc 75 args).run Tryz.prog w = .ok (.enter 75 args) w := enters_of Tryz.func75 (by kernel_rfl) rfl
  have hH := holdsK_own h hm
  have hs : ks.toArray.size = m := by simpa using hm
  have hcon := AnyQ.slices_SortFunc Tryz.sortKL 2 isAggKy sizeOfKy keyC (fun _ => rfl) (fun x v hv => by simp [keyC] at hv; rcases hv with rfl | rfl <;> rfl) cfK swoK 75 #[] g 0 cap ks.toArray w eg (cmpLaysK g 0 ks.toArray.size w) hH hg (by omega)
  rw [hs] at hcon
  change Calls Tryz.prog 74 _ _ _ at hcon
  refine hcon.mono ?_
  rintro e w' ⟨rfl, d', n, os, hp, hso, rfl⟩
  have hd : d'.size = m := hp.1.trans hs
  have hperm : d'.toList.Perm ks := by
    have := hp.2.2
    rw [← hd, Array.extract_size] at this
    have e2 : (ks.toArray.extract 0 d'.size).toList = ks := by rw [hd, ← hs, Array.extract_size]
    rwa [e2] at this
  have hget : ∀ i < m, d'[i]! = d'.toList.getD i key0 := fun i hi => by
    have : i < d'.size := by omega
    simp [this, List.getD]
  refine ⟨rfl, d'.toList, by simpa using hd, fun x => hperm.mem_iff, ?_, fun i hi => ?_, wrote_sort⟩
  · rw [List.pairwise_iff_getElem]
    intro i j hi hj hij
    have hi' : i < m := by simpa [hd] using hi
    have hj' : j < m := by simpa [hd] using hj
    have h1 := hso i j (Nat.zero_le _) hij hj'
    have h2 := (cfK_not _ _).1 h1
    have ei : d'[i]! = d'.toList[i] := by simp [show i < d'.size by omega]
    have ej : d'[j]! = d'.toList[j] := by simp [show j < d'.size by omega]
    rw [ei, ej] at h2
    have hne : d'.toList[i] ≠ d'.toList[j] := by
      have hnd : d'.toList.Nodup := hperm.nodup_iff.2 hn
      exact (List.pairwise_iff_getElem.1 hnd) i j hi hj hij
    exact (ltK_total hne).resolve_right h2
  · have hh := holdsK_sortWorldK keyC 2 w g 0 n ks.toArray d' os hg hH hp.1
    have a := hh.cell (i := i) (c := 0) (by omega) (by omega)
    have b := hh.cell (i := i) (c := 1) (by omega) (by omega)
    rw [hget i hi] at a b
    rw [Nat.zero_add, Nat.add_zero] at a
    rw [Nat.zero_add] at b
    exact ⟨a.1, b.1⟩
theorem jSort_none (w : World) (p : Option Addr) (cap : Nat) : Calls Tryz.prog 74 #[.slice p 0 cap, .func (.func 75) #[] #[]] w fun e w' => e = .returned (.tuple #[]) ∧ w' = w :=
  AnyF.slices_SortFunc_none Tryz.sortKL p cap _ w
end Go.Proofs.YtkcnkhdbojdhgaaGreat
