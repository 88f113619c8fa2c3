/- What the library's variables hold, out of a row's list. -/
import Derived.Test.YtiiajhomdpfafaaGreatDoorHak
import Derived.Test.YtiiajhomdpfafaaGreatDoorRows
import Derived.ProofKit
import Derived.Deep.Slices
import Derived.ChangeArms
import Derived.MakeChecks
namespace Go.Proofs.YtiiajhomdpfafaaGreatDoor

theorem laid_at {P : Program} {w : World} : ∀ {l : List (String × DataW Unit)} {ps : List MemPlace}, DataW.LaidVars P w l ps → ∀ n d, (n, d) ∈ l → ∃ g t cs fuel p, P.globalNamed n = some g ∧ (P.globals[g]?).map (·.type) = some t ∧ w.var? P n = some cs ∧ DataW.trod (fun _ => ()) P w 0 (fun _ => true) false fuel t cs.toList = some (d, p)
  | [], _, _, n, d, h => by cases h
  | (n', d') :: r, ps, h, n, d, hm => by
    obtain ⟨g, t, cs, fuel, p, q, h1, h2, h3, h4, h5, _⟩ := h
    rcases List.mem_cons.1 hm with e | hm
    · injection e with e1 e2
      subst e1 e2
      exact ⟨g, t, cs, fuel, p, h1, h2, h3, h4⟩
    · exact laid_at h5 n d hm
theorem var_cell {P : Program} {w : World} {n : String} {g : Nat} {cs : Array Value} (hg : P.globalNamed n = some g) (h : w.var? P n = some cs) (i : Nat) : w.cell? ⟨g, i, none⟩ = cs[i]? := by
  unfold World.var? at h
  rw [hg, Option.bind_some] at h
  split at h
  · rename_i c t s he
    injection h with h
    subst h
    simp [World.cell?, he]
  · cases h
theorem trod_f64 {H : Type} {enc : TypeId × Value → H} {P : Program} {w : World} {base n : Nat} {spare : Nat → Bool} {held : Bool} {e : TypeId} {v : Value} {x : DataW H × List MemPlace} (ht : P.underlying e = some (.float .f64)) (h : DataW.trod enc P w base spare held n e [v] = some x) :
    ∃ b, v = .float .f64 b ∧ x.1 = .lit (.float .f64 b) := by
  cases n with
  | zero => simp [DataW.trod] at h
  | succ n =>
    cases v with
    | float k b =>
      simp only [DataW.trod, ht] at h
      by_cases hw : k = .f64 ∧ (Lit.float .f64 b).wf = true
      · obtain ⟨rfl, hw⟩ := hw
        rw [if_pos ⟨rfl, hw⟩] at h
        injection h with h
        exact ⟨b, rfl, by rw [← h]⟩
      · rw [if_neg hw] at h; cases h
    | _ => simp [DataW.trod, ht] at h
set_option maxRecDepth 100000 in
theorem pft_of_laid {W : World} {l : List (String × DataW Unit)} {ps : List MemPlace} (h : DataW.LaidVars Tryz.prog W l ps)
    (h1 : ("internal/strconv.float64info", (Rows.laid_internal_strconv_float64info : DataW Unit)) ∈ l) (h2 : ("internal/strconv.optimize", (Rows.laid_internal_strconv_optimize : DataW Unit)) ∈ l) (h3 : ("internal/strconv.float64pow10", (Rows.laid_internal_strconv_float64pow10 : DataW Unit)) ∈ l) :
    ∃ b o c, PfT 7 6 10 b o c W := by
  obtain ⟨g1, t1, cs1, f1, p1, hg1, ht1, hv1, hd1⟩ := laid_at h _ _ h1
  obtain ⟨g2, t2, cs2, f2, p2, hg2, ht2, hv2, hd2⟩ := laid_at h _ _ h2
  obtain ⟨g3, t3, cs3, f3, p3, hg3, ht3, hv3, hd3⟩ := laid_at h _ _ h3
  obtain rfl := Option.some.inj ((show Tryz.prog.globalNamed "internal/strconv.float64info" = some 7 by kernel_rfl).symm.trans hg1)
  obtain rfl := Option.some.inj ((show Tryz.prog.globalNamed "internal/strconv.optimize" = some 6 by kernel_rfl).symm.trans hg2)
  obtain rfl := Option.some.inj ((show Tryz.prog.globalNamed "internal/strconv.float64pow10" = some 10 by kernel_rfl).symm.trans hg3)
  obtain rfl := Option.some.inj ((show (Tryz.prog.globals[7]?).map (·.type) = some 283 by kernel_rfl).symm.trans ht1)
  obtain rfl := Option.some.inj ((show (Tryz.prog.globals[6]?).map (·.type) = some 4 by kernel_rfl).symm.trans ht2)
  obtain rfl := Option.some.inj ((show (Tryz.prog.globals[10]?).map (·.type) = some 327 by kernel_rfl).symm.trans ht3)
  have hmb : cs1[0]? = some (.int .u64 52) := by
    obtain ⟨xs, m, _, hx, hl, hlen, hf⟩ := DataW.trod_struct Tryz.underlying283 hd1
    have hc : Tryz.prog.cellsOf 283 = 3 := by kernel_rfl
    have hcu : Tryz.prog.cellsOf 186 = 1 := by kernel_rfl
    rw [hc] at hl
    have e0 : DataW.trod (fun _ => ()) Tryz.prog W 0 (fun _ => true) false m 186 ((cs1.toList.drop 0).take (Tryz.prog.cellsOf 186)) = xs[0]? := hf 0 _ rfl
    have hlen3 : xs.length = 3 := hlen
    rw [hcu, List.getElem?_eq_getElem (by omega), List.drop_zero] at e0
    obtain ⟨d, hd, hxd, _⟩ := DataW.trod_int Tryz.underlying186 e0
    have hx1 := congrArg Prod.fst hx
    have hx2 : (Rows.laid_internal_strconv_float64info : DataW Unit) = .agg (xs.map (·.1)) := hx1
    unfold Rows.laid_internal_strconv_float64info at hx2
    injection hx2 with hx2
    have hx3 := congrArg (fun l => l[0]?) hx2
    simp only [List.getElem?_cons_zero, List.getElem?_map, List.getElem?_eq_getElem (show 0 < xs.length by omega), Option.map_some] at hx3
    injection hx3 with hx3
    rw [hxd] at hx3
    injection hx3 with hx3
    injection hx3 with _ hx3
    have hq := congrArg (fun l => l[0]?) hd
    simp only [List.getElem?_cons_zero] at hq
    rw [List.getElem?_take_of_lt (by decide), Array.getElem?_toList] at hq
    rw [hq, ← hx3]
  have hop : cs2[0]? = some (.bool true) := by
    obtain ⟨b, hb, hx⟩ := DataW.trod_bool Tryz.underlying4 hd2
    have hx1 := congrArg Prod.fst hx
    have hx2 : (Rows.laid_internal_strconv_optimize : DataW Unit) = .lit (.bool b) := hx1
    unfold Rows.laid_internal_strconv_optimize at hx2
    injection hx2 with hx2
    injection hx2 with hx2
    subst hx2
    rw [← Array.getElem?_toList, hb]
    rfl
  have hcf : Tryz.prog.cellsOf 43 = 1 := by kernel_rfl
  rcases Go.Deep.open_slice1 Tryz.underlying327 hcf hd3 with ⟨_, hx⟩ | ⟨a, len, cap, m, n, V, D, Pl, hcs, _, hl, hm, hmm, hxx, hc⟩
  · have hx1 := congrArg Prod.fst hx
    exact absurd (show (Rows.laid_internal_strconv_float64pow10 : DataW Unit) = .nil from hx1) (by unfold Rows.laid_internal_strconv_float64pow10; intro h; cases h)
  · have hx1 := congrArg Prod.fst hxx
    have hx2 : (Rows.laid_internal_strconv_float64pow10 : DataW Unit) = .slice ((List.range len).map D) ((List.range (m - len)).map fun j => D (len + j)) := hx1
    unfold Rows.laid_internal_strconv_float64pow10 at hx2
    injection hx2 with hx2 _
    have hlen := congrArg List.length hx2
    simp only [List.length_cons, List.length_nil, List.length_map, List.length_range] at hlen
    obtain rfl : len = 23 := by omega
    have hx3 := congrArg (fun l => l[1]?) hx2
    have hD : D 1 = .lit (.float .f64 4621819117588971520) := by
      simp only [List.getElem?_cons_succ, List.getElem?_cons_zero, List.getElem?_map] at hx3
      rw [show (List.range 23)[1]? = some 1 from rfl] at hx3
      exact (Option.some.inj hx3).symm
    obtain ⟨hv, htr⟩ := hc 1 (by simp only [if_true] at hmm; omega)
    obtain ⟨b, hb, hxb⟩ := trod_f64 Tryz.underlying43 htr
    dsimp only at hxb
    rw [hD] at hxb
    injection hxb with hxb
    injection hxb with _ hxb
    rw [hb, ← hxb] at hv
    obtain ⟨ab, ao, as_⟩ := a
    have hs : as_ = none := World.cell?_spot (hc 0 (by simp only [if_true] at hmm; omega)).1
    subst hs
    have hv' : W.cell? ⟨ab, ao + 1, none⟩ = some (.float .f64 4621819117588971520) := hv
    have hpw : cs3[0]? = some (.slice (some ⟨ab, ao, none⟩) 23 cap) := by rw [← Array.getElem?_toList, hcs]; rfl
    exact ⟨ab, ao, cap, (var_cell hg1 hv1 0).trans hmb, (var_cell hg2 hv2 0).trans hop, (var_cell hg3 hv3 0).trans hpw, hv'⟩
end Go.Proofs.YtiiajhomdpfafaaGreatDoor
