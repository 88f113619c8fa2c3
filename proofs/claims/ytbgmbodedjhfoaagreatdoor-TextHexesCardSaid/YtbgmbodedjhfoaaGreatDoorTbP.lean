/- The table of powers of ten, out of a row's list. -/
import Derived.Test.YtbgmbodedjhfoaaGreatDoorTqP
import Derived.Lib.AppendIntMem
namespace Go.Proofs.YtbgmbodedjhfoaaGreatDoor

theorem tb_of_laid {W : World} {l : List (String × DataW Unit)} {ps : List MemPlace} (h : DataW.LaidVars Tryz.prog W l ps)
    (h4 : ("internal/strconv.uint64pow10", (Rows.laid_internal_strconv_uint64pow10 : DataW Unit)) ∈ l) : Lib.TabBelow Tryz.prog W.heap.size W "internal/strconv.uint64pow10" .u64 Lib.pow10Tab := by
  obtain ⟨g4, t4, cs4, f4, p4, hg4, ht4, hv4, hd4⟩ := laid_at h _ _ h4
  obtain rfl := Option.some.inj ((show Tryz.prog.globalNamed "internal/strconv.uint64pow10" = some 1 by kernel_rfl).symm.trans hg4)
  obtain rfl := Option.some.inj ((show (Tryz.prog.globals[1]?).map (·.type) = some 126 by kernel_rfl).symm.trans ht4)
  have e : (Rows.laid_internal_strconv_uint64pow10 : DataW Unit) = Lib.tabData .u64 Lib.pow10Tab := by kernel_rfl
  rw [e] at hd4
  refine Lib.tabBelow_of_tabIs ?_
  unfold Lib.TabIs
  rw [hv4, ← Lib.cells_of_tab Tryz.underlying126 Tryz.underlying28 (by kernel_rfl) (by kernel_rfl) hd4]
end Go.Proofs.YtbgmbodedjhfoaaGreatDoor
