/- What the library's variables hold for awake17, out of a row's list. -/
import Derived.Test.YtiiajhomdpfafaaGreatDoorHbp
import Derived.Test.YtiiajhomdpfafaaGreatDoorPfL
import Derived.OpenShut
import Derived.Lib.LaidTab
import Derived.Lib.AppendIntMem
namespace Go.Proofs.YtiiajhomdpfafaaGreatDoor

theorem tabE_at {P : Program} {w : World} {n : String} {g : Nat} {t e : TypeId} {m : Nat} {k : IntKind} {zs : List Int} {cs : Array Value} {fuel : Nat} {p : List MemPlace} (hg : P.globalNamed n = some g) (hv : w.var? P n = some cs)
    (ht : P.underlying t = some (.array m e)) (he : P.underlying e = some (.int k)) (hce : P.cellsOf e = 1) (hct : P.cellsOf t = m) (hd : DataW.trod (fun _ => ()) P w 0 (fun _ => true) false fuel t cs.toList = some (Lib.tabData k zs, p)) (i : Nat) {z : Int} (hz : zs[i]? = some z) : w.cell? ⟨g, i, none⟩ = some (.int k z) := by
  rw [var_cell hg hv, ← Array.getElem?_toList, Lib.cells_of_tab ht he hce hct hd, List.getElem?_map, hz]
  rfl
set_option maxRecDepth 100000 in
theorem aw17_of_laid {W : World} {l : List (String × DataW Unit)} {ps : List MemPlace} (h : DataW.LaidVars Tryz.prog W l ps)
    (h0 : ("math/bits.deBruijn64tab", (Rows.laid_math_bits_deBruijn64tab : DataW Unit)) ∈ l) (h1 : ("internal/strconv.float64info", (Rows.laid_internal_strconv_float64info : DataW Unit)) ∈ l) (h2 : ("internal/strconv.optimize", (Rows.laid_internal_strconv_optimize : DataW Unit)) ∈ l) (h3 : ("internal/strconv.float64pow10", (Rows.laid_internal_strconv_float64pow10 : DataW Unit)) ∈ l)
    (h4 : ("internal/strconv.uint64pow10", (Rows.laid_internal_strconv_uint64pow10 : DataW Unit)) ∈ l) : Aw17 W := by
  refine ⟨pft_of_laid h h1 h2 h3, ?_, ?_⟩
  · obtain ⟨g0, t0, cs0, f0, p0, hg0, ht0, hv0, hd0⟩ := laid_at h _ _ h0
    obtain rfl := Option.some.inj ((show Tryz.prog.globalNamed "math/bits.deBruijn64tab" = some 12 by kernel_rfl).symm.trans hg0)
    obtain rfl := Option.some.inj ((show (Tryz.prog.globals[12]?).map (·.type) = some 332 by kernel_rfl).symm.trans ht0)
    obtain ⟨zs, hzs, hz15⟩ : ∃ zs : List Int, (Rows.laid_math_bits_deBruijn64tab : DataW Unit) = Lib.tabData .u8 zs ∧ zs[15]? = some 4 := ⟨[0, 1, 56, 2, 57, 49, 28, 3, 61, 58, 42, 50, 38, 29, 17, 4, 62, 47, 59, 36, 45, 43, 51, 22, 53, 39, 33, 30, 24, 18, 12, 5, 63, 55, 48, 27, 60, 41, 37, 16, 46, 35, 44, 21, 52, 32, 23, 11, 54, 26, 40, 15, 34, 20, 31, 10, 25, 14, 19, 9, 13, 8, 7, 6], by kernel_rfl, rfl⟩
    rw [hzs] at hd0
    exact tabE_at hg0 hv0 Tryz.underlying332 Tryz.underlying5 (by kernel_rfl) (by kernel_rfl) hd0 15 hz15
  · obtain ⟨g4, t4, cs4, f4, p4, hg4, ht4, hv4, hd4⟩ := laid_at h _ _ h4
    obtain rfl := Option.some.inj ((show Tryz.prog.globalNamed "internal/strconv.uint64pow10" = some 4 by kernel_rfl).symm.trans hg4)
    obtain rfl := Option.some.inj ((show (Tryz.prog.globals[4]?).map (·.type) = some 263 by kernel_rfl).symm.trans ht4)
    have e : (Rows.laid_internal_strconv_uint64pow10 : DataW Unit) = Lib.tabData .u64 Lib.pow10Tab := by kernel_rfl
    rw [e] at hd4
    refine Lib.tabBelow_of_tabIs ?_
    unfold Lib.TabIs
    rw [hv4, ← Lib.cells_of_tab Tryz.underlying263 Tryz.underlying48 (by kernel_rfl) (by kernel_rfl) hd4]
end Go.Proofs.YtiiajhomdpfafaaGreatDoor
