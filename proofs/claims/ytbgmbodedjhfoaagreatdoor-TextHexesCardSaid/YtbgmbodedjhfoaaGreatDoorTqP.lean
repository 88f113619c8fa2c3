/- What the library's tables hold, out of a row's list. -/
import Derived.Test.YtbgmbodedjhfoaaGreatDoorPfL
import Derived.Test.YtbgmbodedjhfoaaGreatDoorHas
import Derived.OpenShut
import Derived.Lib.LaidTab
namespace Go.Proofs.YtbgmbodedjhfoaaGreatDoor

def pinL : DataW Unit → List (DataW Unit)
  | .agg l => l
  | _ => []
theorem tab_at {P : Program} {w : World} {n : String} {g : Nat} {t e : TypeId} {m : Nat} {k : IntKind} {zs : List Int} {cs : Array Value} {fuel : Nat} {p : List MemPlace} (hg : P.globalNamed n = some g) (hv : w.var? P n = some cs)
    (ht : P.underlying t = some (.array m e)) (he : P.underlying e = some (.int k)) (hce : P.cellsOf e = 1) (hct : P.cellsOf t = m) (hd : DataW.trod (fun _ => ()) P w 0 (fun _ => true) false fuel t cs.toList = some (Lib.tabData k zs, p)) (i : Nat) {z : Int} (hz : zs[i]? = some z) : w.cell? ⟨g, i, none⟩ = some (.int k z) := by
  rw [var_cell hg hv, ← Array.getElem?_toList, Lib.cells_of_tab ht he hce hct hd, List.getElem?_map, hz]
  rfl
set_option maxRecDepth 100000 in
theorem awt_of_laid {W : World} {l : List (String × DataW Unit)} {ps : List MemPlace} (h : DataW.LaidVars Tryz.prog W l ps)
    (h0 : ("math/bits.deBruijn64tab", (Rows.laid_math_bits_deBruijn64tab : DataW Unit)) ∈ l) (h1 : ("internal/strconv.float64info", (Rows.laid_internal_strconv_float64info : DataW Unit)) ∈ l) (h2 : ("internal/strconv.optimize", (Rows.laid_internal_strconv_optimize : DataW Unit)) ∈ l) (h3 : ("internal/strconv.float64pow10", (Rows.laid_internal_strconv_float64pow10 : DataW Unit)) ∈ l)
    (h4 : ("internal/strconv.uint64pow10", (Rows.laid_internal_strconv_uint64pow10 : DataW Unit)) ∈ l) (h5 : ("internal/strconv.pow10Tab", Rows.laid_internal_strconv_pow10Tab) ∈ l) : AwT W := by
  have hpf := pft_of_laid h h1 h2 h3
  obtain ⟨g4, t4, cs4, f4, p4, hg4, ht4, hv4, hd4⟩ := laid_at h _ _ h4
  obtain ⟨g0, t0, cs0, f0, p0, hg0, ht0, hv0, hd0⟩ := laid_at h _ _ h0
  obtain ⟨g5, t5, cs5, f5, p5, hg5, ht5, hv5, hd5⟩ := laid_at h _ _ h5
  obtain rfl := Option.some.inj ((show Tryz.prog.globalNamed "internal/strconv.uint64pow10" = some 1 by kernel_rfl).symm.trans hg4)
  obtain rfl := Option.some.inj ((show (Tryz.prog.globals[1]?).map (·.type) = some 126 by kernel_rfl).symm.trans ht4)
  obtain rfl := Option.some.inj ((show Tryz.prog.globalNamed "math/bits.deBruijn64tab" = some 11 by kernel_rfl).symm.trans hg0)
  obtain rfl := Option.some.inj ((show (Tryz.prog.globals[11]?).map (·.type) = some 204 by kernel_rfl).symm.trans ht0)
  obtain rfl := Option.some.inj ((show Tryz.prog.globalNamed "internal/strconv.pow10Tab" = some 15 by kernel_rfl).symm.trans hg5)
  obtain rfl := Option.some.inj ((show (Tryz.prog.globals[15]?).map (·.type) = some 214 by kernel_rfl).symm.trans ht5)
  obtain ⟨zp, hzp, hz1, hz3⟩ : ∃ zs : List Int, (Rows.laid_internal_strconv_uint64pow10 : DataW Unit) = Lib.tabData .u64 zs ∧ zs[1]? = some 10 ∧ zs[3]? = some 1000 := ⟨[1, 10, 100, 1000, 10000, 100000, 1000000, 10000000, 100000000, 1000000000, 10000000000, 100000000000, 1000000000000, 10000000000000, 100000000000000, 1000000000000000, 10000000000000000, 100000000000000000, 1000000000000000000, 10000000000000000000], by kernel_rfl, rfl, rfl⟩
  rw [hzp] at hd4
  obtain ⟨zs, hzs, hz15⟩ : ∃ zs : List Int, (Rows.laid_math_bits_deBruijn64tab : DataW Unit) = Lib.tabData .u8 zs ∧ zs[15]? = some 4 := ⟨[0, 1, 56, 2, 57, 49, 28, 3, 61, 58, 42, 50, 38, 29, 17, 4, 62, 47, 59, 36, 45, 43, 51, 22, 53, 39, 33, 30, 24, 18, 12, 5, 63, 55, 48, 27, 60, 41, 37, 16, 46, 35, 44, 21, 52, 32, 23, 11, 54, 26, 40, 15, 34, 20, 31, 10, 25, 14, 19, 9, 13, 8, 7, 6], by kernel_rfl, rfl⟩
  rw [hzs] at hd0
  have hpr : W.cell? ⟨15, 702, none⟩ = some (.int .u64 18014398509481984000) ∧ W.cell? ⟨15, 703, none⟩ = some (.int .u64 0) := by
    obtain ⟨xs, m, _, hx, hl, hlen, hf⟩ := DataW.trod_array Tryz.underlying214 hd5
    have hce : Tryz.prog.cellsOf 213 = 2 := by kernel_rfl
    have hct : Tryz.prog.cellsOf 214 = 1392 := by kernel_rfl
    rw [hct] at hl
    have hx1 : Rows.laid_internal_strconv_pow10Tab = .agg (xs.map (·.1)) := congrArg Prod.fst hx
    have e351 := hf 351 (by decide)
    rw [hce, List.getElem?_eq_getElem (by omega)] at e351
    have hpick : ∃ ds, Rows.laid_internal_strconv_pow10Tab = .agg ds ∧ ds[351]? = some (.agg [.lit (.int .u64 18014398509481984000), .lit (.int .u64 0)]) := ⟨pinL Rows.laid_internal_strconv_pow10Tab, by kernel_rfl, by kernel_rfl⟩
    obtain ⟨ds, hds, hd351⟩ := hpick
    rw [hds] at hx1
    injection hx1 with hx1
    rw [hx1, List.getElem?_map, List.getElem?_eq_getElem (by omega)] at hd351
    have hd3 : (xs[351]'(by omega)).1 = .agg [.lit (.int .u64 18014398509481984000), .lit (.int .u64 0)] := Option.some.inj hd351
    obtain ⟨ys, m2, _, hy, hyl, hylen, hyf⟩ := DataW.trod_struct Tryz.underlying213 e351
    have hy1 : (xs[351]'(by omega)).1 = .agg (ys.map (·.1)) := congrArg Prod.fst hy
    rw [hd3] at hy1
    injection hy1 with hy1
    have hys2 : ys.length = 2 := hylen
    have hcu : Tryz.prog.cellsOf 28 = 1 := by kernel_rfl
    have q0 : DataW.trod (fun _ => ()) Tryz.prog W 0 (fun _ => true) false m2 28 ((((cs5.toList.drop (351 * 2)).take 2).drop 0).take (Tryz.prog.cellsOf 28)) = ys[0]? := hyf 0 _ rfl
    have q1 : DataW.trod (fun _ => ()) Tryz.prog W 0 (fun _ => true) false m2 28 ((((cs5.toList.drop (351 * 2)).take 2).drop 1).take (Tryz.prog.cellsOf 28)) = ys[1]? := hyf 1 _ rfl
    rw [hcu, List.getElem?_eq_getElem (by omega)] at q0 q1
    obtain ⟨a, ha, hxa, _⟩ := DataW.trod_int Tryz.underlying28 q0
    obtain ⟨b, hb, hxb, _⟩ := DataW.trod_int Tryz.underlying28 q1
    have ha2 := congrArg (·[0]?) hy1
    have hb2 := congrArg (·[1]?) hy1
    simp only [List.getElem?_cons_zero, List.getElem?_cons_succ, List.getElem?_map] at ha2 hb2
    rw [List.getElem?_eq_getElem (by omega), hxa] at ha2
    rw [List.getElem?_eq_getElem (by omega), hxb] at hb2
    have ha3 : a = 18014398509481984000 := by
      have := Option.some.inj ha2
      injection this with this
      injection this with _ this
      exact this.symm
    have hb3 : b = 0 := by
      have := Option.some.inj hb2
      injection this with this
      injection this with _ this
      exact this.symm
    have hc0 : cs5[702]? = some (.int .u64 a) := by
      have := congrArg (·[0]?) ha
      rw [← Array.getElem?_toList]
      simpa [List.getElem?_take, List.getElem?_drop] using this
    have hc1 : cs5[703]? = some (.int .u64 b) := by
      have := congrArg (·[0]?) hb
      rw [← Array.getElem?_toList]
      simpa [List.getElem?_take, List.getElem?_drop] using this
    rw [var_cell hg5 hv5, var_cell hg5 hv5, hc0, hc1, ha3, hb3]
    exact ⟨rfl, rfl⟩
  obtain ⟨b, o, c, hp⟩ := hpf
  exact ⟨⟨b, o, c, hp⟩, ⟨hpr.1, hpr.2, tab_at hg4 hv4 Tryz.underlying126 Tryz.underlying28 (by kernel_rfl) (by kernel_rfl) hd4 1 hz1, tab_at hg4 hv4 Tryz.underlying126 Tryz.underlying28 (by kernel_rfl) (by kernel_rfl) hd4 3 hz3, hp.op⟩, tab_at hg0 hv0 Tryz.underlying204 Tryz.underlying5 (by kernel_rfl) (by kernel_rfl) hd0 15 hz15⟩
end Go.Proofs.YtbgmbodedjhfoaaGreatDoor
