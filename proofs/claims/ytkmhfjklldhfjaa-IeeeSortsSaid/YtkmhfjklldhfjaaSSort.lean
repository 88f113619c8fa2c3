/- The contract of ieee.Sort: a new list, the same floats, rising by their places. -/
import Derived.Test.YtkmhfjklldhfjaaSRefSort
import Derived.Test.YtkmhfjklldhfjaaSShelf
import Derived.Shelf.SlSortCmp.Whole1
import Derived.Laws.CopyOwn
import Derived.Deep.OwnRows
namespace Go.Proofs.Ytkmhfjklldhfjaa
open Go.RowKit Go.Sort Go.Shelf

/-- A float of whatever number, by its last 64 bits. -/
def encF (b : Nat) : Value := .float .f64 (b % 18446744073709551616)
theorem encF_fit {b : Nat} (h : b < 18446744073709551616) : encF b = fV b := by unfold encF fV; rw [Nat.mod_eq_of_lt h]
theorem map_encF {l : List Nat} (h : Fit l) : l.map encF = l.map fV := List.map_congr_left fun x hx => encF_fit (h x hx)
def cfF (x y : Nat) : Int := cmpI (placeI ((x % 18446744073709551616 : Nat) : Int)) (placeI ((y % 18446744073709551616 : Nat) : Int))

theorem cmpI_neg (x y : Int) : decide (cmpI x y < 0) = decide (x < y) := by
  apply decide_eq_decide.2
  unfold cmpI
  split
  · simp_all
  · split <;> simp_all
theorem ltF (x y : Nat) : ltOf cfF x y = decide (placeI ((x % 18446744073709551616 : Nat) : Int) < placeI ((y % 18446744073709551616 : Nat) : Int)) := cmpI_neg _ _
theorem swoF : SWO (ltOf cfF) := {
  irrefl := fun x => by rw [ltF]; simp
  trans := fun x y z h1 h2 => by rw [ltF, decide_eq_true_eq] at *; omega
  ntrans := fun x y z h1 h2 => by rw [ltF, decide_eq_false_iff_not] at *; omega }

theorem closureF (x y : Nat) (W : World) : Calls Try.prog 14 (#[encF x, encF y] ++ #[]) W fun e w' => e = .returned (.int .i64 (cfF x y)) ∧ ∃ q, w' = W.drewN q :=
  (closure_any _ _ W (u64_of_nat (Nat.mod_lt _ (by decide))) (u64_of_nat (Nat.mod_lt _ (by decide)))).mono fun _ _ ⟨a, b⟩ => ⟨a, 0, b⟩
theorem cmpReadsF (blk off size : Nat) (w : World) : CmpReads Try.prog 14 #[] encF cfF blk off size w := fun _ _ _ _ x y => closureF x y _

theorem holdsF {w : World} {g : Nat} {e : TypeId} {ss : List Nat} (hf : Fit ss) (hb : w.heap[g]? = some (.cells (ss.map fV).toArray e (0, 0))) : Holds encF w g 0 ss.toArray := by
  intro j hj
  have hj' : j < ss.length := by simpa using hj
  refine ⟨?_, by simp [World.frozen?, hb]⟩
  simp only [World.cell?, hb, Nat.zero_add]
  simp only [Option.isSome_none, Bool.false_eq_true, if_false]
  rw [← map_encF hf]
  simp [hj']

theorem heapF {w : World} {g n : Nat} {os : Array Obj} {cur : Array Value} {e : TypeId} {fr : Nat × Nat} (d : Array Nat) (hb : w.heap[g]? = some (.cells cur e fr)) :
    (sortWorld encF w g 0 n d os).heap[g]? = some (.cells (putCells encF 0 d cur) e fr) := by
  have hg : g < w.heap.size := (Array.getElem?_eq_some_iff.1 hb).1
  unfold sortWorld
  rw [heap_grow_old _ _ (by simpa using hg)]
  simp [putRow, mapBlock, Sort.ahead, Array.getElem?_modify, hb, onCells]
theorem grownF {w : World} {g n : Nat} {os : Array Obj} (d : Array Nat) : w.grownBy (sortWorld encF w g 0 n d os) (some g) := by
  unfold sortWorld
  refine ⟨rfl, rfl, rfl, by simp, fun k hk hne => ?_⟩
  rw [heap_grow_old _ _ (by simpa using hk)]
  have : g ≠ k := fun e => hne (by rw [e])
  simp [putRow, mapBlock, Sort.ahead, Array.getElem?_modify, this]
theorem takeF (cur : Array Value) (ts : List Nat) (h : ts.length ≤ cur.size) : (putCells encF 0 ts.toArray cur).toList.take ts.length = ts.map encF := by
  apply List.ext_getElem?
  intro j
  by_cases hj : j < ts.length
  · rw [List.getElem?_take_of_lt hj, Array.getElem?_toList]
    simp [putCells, hj, show j < cur.size by omega]
  · rw [List.getElem?_take_eq_none (by omega), List.getElem?_eq_none (by simp; omega)]

/-- What the sort leaves, as a list. -/
theorem sortedF {xs : List Nat} {d' : Array Nat} (hf : Fit xs) (hp : PermIn 0 xs.toArray.size xs.toArray d') (hs : SortedIn (ltOf cfF) 0 xs.toArray.size d') : d'.toList.Perm xs ∧ Rising d'.toList := by
  have hsz : d'.size = xs.length := by simpa using hp.1
  have h1 : d'.toList.Perm xs := by
    have := hp.2.2
    simp [← hsz] at this
    rw [hsz, List.take_length] at this
    exact this
  have hf' := hf.perm h1
  refine ⟨h1, ?_⟩
  unfold Rising
  rw [List.pairwise_iff_getElem]
  intro i j hi hj hij
  have hj' : j < d'.size := by simpa using hj
  have h2 := hs i j (Nat.zero_le _) hij (by simp; omega)
  rw [getElem!_pos d' i (by omega), getElem!_pos d' j hj', ltF, decide_eq_false_iff_not] at h2
  rw [Nat.mod_eq_of_lt (hf' _ (by simp)), Nat.mod_eq_of_lt (hf' _ (by simp))] at h2
  simp only [Array.getElem_toList]
  omega

theorem ownF_sorted {w : World} {base g n : Nat} {os : Array Obj} {xs : List Nat} {d' : Array Nat} (hf : Fit xs) (hp : d'.toList.Perm xs) (hb : base ≤ g) (hm : xs.length ≤ maxLen) (hg : w.heap[g]? = some (.cells (xs.map fV).toArray 23 (0, 0))) :
    OwnF (sortWorld encF w g 0 n d' os) base 23 fV (.slice (some ⟨g, 0, none⟩) xs.length xs.length) d'.toList := by
  have hl := hp.length_eq
  refine ⟨⟨by simp, .inr ⟨g, xs.length, _, by rw [hl], hb, heapF _ hg, by rw [hl]; exact Nat.le_refl _, hm, by simp [putCells], ?_⟩⟩⟩
  rw [Nat.mul_one, ← map_encF (hf.perm hp)]
  exact takeF _ d'.toList (by simpa using Nat.le_of_eq hl)

theorem sizeF : (Try.prog.info? 23).map (·.size) = some 1 := by kernel_rfl

/-- A list copied whole into a row that was just made. -/
theorem copied (p : Option Addr) (b off c n : Nat) (xs : List Nat) (w w1 : World) (hs : Src w p b off xs) (hn : n = xs.length) (hw1 : w1 = w.alloc (.cells (madeCells #[.float .f64 0] n) 23)) :
    ∃ w2, (Builtin.copy_ #[22, 22] 3 #[.slice (some ⟨w.heap.size, 0, none⟩) n n, .slice p n c]).run Try.prog w1 = .ok (.int .i64 (n : Int)) w2 ∧
      w2.heap[w.heap.size]? = some (.cells (xs.map fV).toArray 23 (0, 0)) ∧ RowKit.Below w.heap.size w w2 := by
  subst hn
  have hb1 : RowKit.Below w.heap.size w w1 := by rw [hw1]; exact (RowKit.Below.refl _ w).alloc (Nat.le_refl _) _
  have hg1 : w1.heap[w.heap.size]? = some (.cells (madeCells #[.float .f64 0] xs.length) 23 (0, 0)) := by rw [hw1]; exact heap_alloc_new w _
  by_cases h0 : xs.length = 0
  · refine ⟨w1, ?_, ?_, hb1⟩
    · have := run_copy_none (P := Try.prog) w1 22 22 3 23 (some ⟨w.heap.size, 0, none⟩) p xs.length xs.length xs.length c Try.underlying22 sizeF (by rw [h0]; rfl)
      rw [this, h0]; rfl
    · rw [hg1, h0, List.length_eq_zero_iff.1 h0]; simp [madeCells]
  · have hp := hs.at_ (by omega)
    subst hp
    have hr := run_copy_row (P := Try.prog) w1 22 22 3 23 w.heap.size 0 xs.length xs.length ⟨b, off, none⟩ xs.length c _ 23 (xs.map fV) Try.underlying22 sizeF hg1 (by simp) (fun j v hj => by
      rw [List.getElem?_map] at hj
      have hj2 : j < xs.length := by
        rcases Nat.lt_or_ge j xs.length with h | h
        · exact h
        · rw [List.getElem?_eq_none h] at hj; cases hj
      rw [getD_some hj2] at hj
      have e : v = .float .f64 (xs.getD j 0) := by simpa [fV] using hj.symm
      rw [e, Addr.add_lit]
      exact (hb1.cell (p := ⟨b, off + j, none⟩) (hs.lt (by omega))).trans (hs.cell j hj2)) (by simp [size_madeCells]) (fun v hv => by
      obtain ⟨x, _, rfl⟩ := List.mem_map.1 hv
      rfl)
    refine ⟨_, by rw [hr]; simp [goInt]; rfl, ?_, below_setRow hb1 (Nat.le_refl _) _⟩
    rw [setRow_heap w1 w.heap.size _ _ 23 _ hg1]
    congr 2
    simp [size_madeCells]

set_option maxHeartbeats 1600000 in
theorem sort_any (p : Option Addr) (b off c : Nat) (xs : List Nat) (w : World) (hs : Src w p b off xs) (hf : Fit xs) (hn : xs.length ≤ 200) :
    Calls Try.prog 5 #[.slice p xs.length c] w fun e w' => ∃ v os, e = .returned v ∧ os.Perm xs ∧ Rising os ∧ OwnF w' w.heap.size 23 fV v os ∧ RowKit.Below w.heap.size w w' := by
  have HF := hideS hf
  obtain ⟨n, hN⟩ : ∃ n, n = xs.length := ⟨_, rfl⟩
  have HN := hideS hN
  obtain ⟨w2, hcp, hg2, hB2⟩ := copied p b off c n xs w _ hs hN rfl
  rw [← hN] at hn ⊢
  clear hN hs hf
  have hmk := run_make_row' (P := Try.prog) 22 23 (.float .f64 0) 8 Try.underlying22 infoF rfl .i64 .i64 n (by omega) (by omega) w
  have hblk : w.heap.size < w2.heap.size := (Array.getElem?_eq_some_iff.1 hg2).1
  have hxs : xs.toArray.size = n := by simpa using HN.out.symm
  have eg : ∀ args w, (callFunc 14 args).run Try.prog w = .ok (.enter 14 args) w := enters_of Try.func14 (by kernel_rfl) rfl
  have hS := Any.slices_SortFunc Try.sortL encF (fun _ => rfl) cfF swoF 14 #[] w.heap.size 0 n xs.toArray w2 eg (cmpReadsF w.heap.size 0 xs.toArray.size w2).lays (holdsF HF.out hg2) hblk (by rw [hxs]; omega)
  change Calls Try.prog 13 _ _ _ at hS
  have HG := hideS hg2
  have HB2 := hideS hB2
  have HXS := hideS hxs
  rw [hxs] at hS
  have HSO := hideS hS
  clear hg2 hB2 hxs eg hblk hS
  go_enter Try.func5, Try.ntmps5
  go_wp2_with (go_at_call 13; refine HSO.out.mono ?_; rintro e w' ⟨rfl, d', m, os, hp, hs, rfl⟩)
  go_ret
  have h5 := sortedF HF.out (by rw [HXS.out]; exact hp) (by rw [HXS.out]; exact hs)
  refine ⟨_, d'.toList, rfl, h5.1, h5.2, ?_, HB2.out.grown (grownF d') HB2.out.size (fun k hk => by cases hk; exact Nat.le_refl _)⟩
  rw [HN.out]
  exact ownF_sorted HF.out h5.1 (Nat.le_refl _) (by unfold maxLen; have := HN.out; omega) HG.out

end Go.Proofs.Ytkmhfjklldhfjaa
