/- The contracts of package acc's Sum and Dot (of numbers). -/
import Derived.Test.YtejpplcccbiplaaAccM
namespace Go.Proofs.Ytejpplcccbiplaa
open Go.RowKit

def addS (a : St) (x : Nat) : St := a.merge (oneS (x : Int))
def sumS (l : List Nat) : St := l.foldl addS ⟨0, 0⟩
theorem foldl_next {α : Type} (f : α → Nat → α) (a : α) (l : List Nat) {k : Nat} (hk : k < l.length) : (l.take (k + 1)).foldl f a = f ((l.take k).foldl f a) (l.getD k 0) := by
  rw [List.take_add_one, getD_some hk, List.foldl_append]; rfl
def FitU (l : List Nat) : Prop := ∀ x ∈ l, x < 18446744073709551616
theorem FitU.get {l : List Nat} (h : FitU l) {i : Nat} (hi : i < l.length) : U64 ((l.getD i 0 : Nat) : Int) := by
  have e : l.getD i 0 = l[i] := by simp [List.getD, List.getElem?_eq_getElem hi]
  rw [e]
  exact u64_of_nat (h _ (List.getElem_mem hi))

/-- An Acc that is all of what was made since, with words in step with a count. -/
structure Run (w wr : World) (b : Nat) (v : Value) (L : Nat) (a : St) : Prop where
  acc : AccAt wr w.heap.size b v L a
  bl : Below w.heap.size w wr
theorem Run.did {w wr w' : World} {b : Nat} {v v' : Value} {L L' : Nat} {a a' : St} (h : Run w wr b v L a) (hd : Did wr w' w.heap.size b v L' a' v') : Run w w' b v' L' a' :=
  ⟨hd.acc, h.bl.trans (hd.wrote.below (fun k hk => (h.acc.base k hk).1) h.bl.size)⟩
theorem Run.mono {w wr : World} {b : Nat} {v : Value} {L L' : Nat} {a : St} (h : Run w wr b v L a) (hl : L ≤ L') : Run w wr b v L' a := ⟨h.acc.mono hl, h.bl⟩
theorem Run.drewN {w wr : World} {b : Nat} {v : Value} {L : Nat} {a : St} (h : Run w wr b v L a) (n : Nat) : Run w (wr.drewN n) b v L a :=
  ⟨h.acc.drewN n, ⟨h.bl.os, h.bl.tape, h.bl.output, h.bl.size, h.bl.block⟩⟩

set_option maxHeartbeats 800000 in
theorem sum_any (p : Option Addr) (g off c : Nat) (xs : List Nat) (w : World) (hs : Src w p g off xs) (hf : FitU xs) (hn : xs.length ≤ 500) :
    Calls Try.prog 14 #[.slice p xs.length c] w fun e w' => e = .returned (.float .f64 (valSt (sumS xs))) ∧ Below w.heap.size w w' := by
  have HS := hideS hs
  have HF := hideS hf
  have HNw := hideS (new_any w w.heap.size (Nat.le_refl _))
  obtain ⟨n, hN⟩ : ∃ n, xs.length = n := ⟨_, rfl⟩
  have HN := hideS hN
  rw [hN] at hn ⊢
  clear hs hf hN
  obtain ⟨res, hres⟩ : ∃ res, valSt (sumS xs) = res := ⟨_, rfl⟩
  rw [hres]
  have HRes := hideS hres
  clear hres
  go_enter Try.func14, Try.ntmps14
  go_wp2_with fail
  refine HNw.out.mono ?_
  rintro e w0 ⟨rfl, a0, b0⟩
  have R0 : Hid (Run w w0 w.heap.size (.slice none 0 0) (72 * 0) ((xs.take 0).foldl addS ⟨0, 0⟩)) := ⟨a0, b0⟩
  clear a0 b0 HNw
  go_wp2_with fail
  go_loopw [5, 9] (fun _ i wr => ∃ k : Nat, k ≤ n ∧ i = .int .i64 k ∧ Hid (∃ v, Run w wr w.heap.size v (72 * k) ((xs.take k).foldl addS ⟨0, 0⟩))) (fun _ i _ => n - (intOf i).toNat)
  case atStart => exact ⟨0, Nat.zero_le _, rfl, ⟨_, R0.out⟩⟩
  case round =>
    clear R0
    obtain ⟨k, hk, rfl, HR⟩ := hrel
    obtain ⟨v, hr⟩ := HR.out
    by_cases hlt : k < n
    · have hx : k < xs.length := by rw [HN.out]; exact hlt
      obtain rfl := HS.out.at_ (by omega)
      have hcx : wr.cell? ⟨g, off + k, none⟩ = some (.float .f64 (xs.getD k 0)) := (hr.bl.cell (p := ⟨g, off + k, none⟩) (HS.out.lt (by omega))).trans (HS.out.cell k hx)
      have HU := HF.out.get hx
      have HNx := hideS (foldl_next addS ⟨0, 0⟩ xs hx)
      clear hx
      generalize xs.getD k 0 = x at hcx HU HNx
      have HAd := hideS (add_any w.heap.size w.heap.size v (72 * k) _ x x wr hr.acc hr.bl.size rfl HU (by omega))
      have H1 := hideS hr
      clear hr HU HR
      go_wp2_with fail
      refine HAd.out.mono ?_
      rintro e w1 ⟨rfl, v1, hd⟩
      have H2 : Hid (∃ v, Run w w1 w.heap.size v (72 * (k + 1)) ((xs.take (k + 1)).foldl addS ⟨0, 0⟩)) := ⟨v1, by rw [HNx.out]; exact (H1.out.did hd).mono (by omega)⟩
      clear hd HAd H1
      go_wp2_with fail
      go_roundw
      case rel => exact ⟨k + 1, by omega, by simp, H2⟩
      case measure => simp [intOf]; omega
    · obtain rfl : k = n := by omega
      have HV := hideS (value_any w.heap.size w.heap.size v (72 * k) _ wr hr.acc hr.bl.size (by omega))
      have H1 := hideS hr.bl
      have e1 : xs.take k = xs := List.take_of_length_le (by rw [HN.out]; exact Nat.le_refl _)
      rw [e1] at HV
      have e2 : valSt (xs.foldl addS ⟨0, 0⟩) = res := HRes.out
      rw [e2] at HV
      clear hr HR e1 e2
      go_wp2_with fail
      refine HV.out.mono ?_
      rintro e w2 ⟨rfl, hb⟩
      have H3 := hideS (H1.out.trans (hb.mono H1.out.size))
      clear hb
      go_wp2_with fail
      go_ret
      exact ⟨rfl, H3.out⟩

/-- The numbers of a list. -/
def AllNum (l : List Nat) : Prop := ∀ x ∈ l, splOk (x : Int) = true
theorem AllNum.get {l : List Nat} (h : AllNum l) {i : Nat} (hi : i < l.length) : splOk ((l.getD i 0 : Nat) : Int) = true := by
  have e : l.getD i 0 = l[i] := by simp [List.getD, List.getElem?_eq_getElem hi]
  rw [e]
  exact h _ (List.getElem_mem hi)
def dotS (xs ys : List Nat) : Nat → St
  | 0 => ⟨0, 0⟩
  | k + 1 => (dotS xs ys k).merge (prodS (xs.getD k 0 : Nat) (ys.getD k 0 : Nat))

set_option maxHeartbeats 1600000 in
theorem dot_any (p p' : Option Addr) (g off c g' off' c' n : Nat) (xs ys : List Nat) (w : World) (hs : Src w p g off xs) (hs' : Src w p' g' off' ys) (hf : FitU xs) (hf' : FitU ys) (hnum : AllNum xs) (hnum' : AllNum ys) (hx : xs.length = n) (hy : ys.length = n) (hn : n ≤ 500) :
    Calls Try.prog 29 #[.slice p n c, .slice p' n c'] w fun e w' => e = .returned (.tuple #[.float .f64 (valSt (dotS xs ys n)), .bool true]) ∧ Below w.heap.size w w' := by
  have HS := hideS (And.intro hs (And.intro hf (And.intro hnum hx)))
  have HS' := hideS (And.intro hs' (And.intro hf' (And.intro hnum' hy)))
  have HNw := hideS (new_any w w.heap.size (Nat.le_refl _))
  clear hs hf hs' hf' hnum hnum' hx hy
  obtain ⟨res, hres⟩ : ∃ res, valSt (dotS xs ys n) = res := ⟨_, rfl⟩
  rw [hres]
  have HRes := hideS hres
  clear hres
  go_enter Try.func29, Try.ntmps29
  go_wp2_with fail
  refine HNw.out.mono ?_
  rintro e w0 ⟨rfl, a0, b0⟩
  have R0 : Hid (Run w w0 w.heap.size (.slice none 0 0) (72 * 0) (dotS xs ys 0)) := ⟨a0, b0⟩
  clear a0 b0 HNw
  go_wp2_with fail
  go_loopw [7, 16] (fun _ i wr => ∃ k : Nat, k ≤ n ∧ i = .int .i64 k ∧ Hid (∃ v, Run w wr w.heap.size v (72 * k) (dotS xs ys k))) (fun _ i _ => n - (intOf i).toNat)
  case atStart => exact ⟨0, Nat.zero_le _, rfl, ⟨_, R0.out⟩⟩
  case round =>
    clear R0
    obtain ⟨k, hk, rfl, HR⟩ := hrel
    obtain ⟨v, hr⟩ := HR.out
    by_cases hlt : k < n
    · have hx : k < xs.length := by rw [HS.out.2.2.2]; exact hlt
      have hy : k < ys.length := by rw [HS'.out.2.2.2]; exact hlt
      obtain rfl := HS.out.1.at_ (by omega)
      obtain rfl := HS'.out.1.at_ (by omega)
      have hcx : wr.cell? ⟨g, off + k, none⟩ = some (.float .f64 (xs.getD k 0)) := (hr.bl.cell (p := ⟨g, off + k, none⟩) (HS.out.1.lt (by omega))).trans (HS.out.1.cell k hx)
      have hcy : wr.cell? ⟨g', off' + k, none⟩ = some (.float .f64 (ys.getD k 0)) := (hr.bl.cell (p := ⟨g', off' + k, none⟩) (HS'.out.1.lt (by omega))).trans (HS'.out.1.cell k hy)
      have HU := HS.out.2.1.get hx
      have HU' := HS'.out.2.1.get hy
      have HM := HS.out.2.2.1.get hx
      have HM' := HS'.out.2.2.1.get hy
      have HNx := hideS (show dotS xs ys (k + 1) = (dotS xs ys k).merge (prodS (xs.getD k 0 : Nat) (ys.getD k 0 : Nat)) from rfl)
      clear hx hy
      generalize xs.getD k 0 = x at hcx HU HNx HM
      generalize ys.getD k 0 = y at hcy HU' HNx HM'
      have HAd := hideS (prod_any w.heap.size w.heap.size v (72 * k) _ x y x y (wr.drewN 1) (hr.acc.drewN 1) hr.bl.size rfl HU rfl HU' HM HM' (by omega))
      have H1 := hideS hr
      clear hr HU HR HU' HM HM'
      go_wp2_with fail
      go_region_with ((go_at_call 16; refine HAd.out.mono ?_; rintro e w1 ⟨rfl, v1, hd⟩))
      all_goals
        have H2 : Hid (∃ v, Run w w1 w.heap.size v (72 * (k + 1)) (dotS xs ys (k + 1))) := ⟨v1, by rw [HNx.out]; exact ((H1.out.drewN 1).did hd).mono (by omega)⟩
        clear hd
        go_wp2_with fail
        go_roundw
        case rel => exact ⟨k + 1, by omega, by simp, H2⟩
        case measure => simp [intOf]; omega
    · obtain rfl : k = n := by omega
      have HV := hideS (value_any w.heap.size w.heap.size v (72 * k) _ wr hr.acc hr.bl.size (by omega))
      have H1 := hideS hr.bl
      rw [HRes.out] at HV
      clear hr HR
      go_wp2_with fail
      refine HV.out.mono ?_
      rintro e w2 ⟨rfl, hb⟩
      have H3 := hideS (H1.out.trans (hb.mono H1.out.size))
      clear hb
      go_wp2_with fail
      go_ret2
      exact ⟨rfl, H3.out⟩
end Go.Proofs.Ytejpplcccbiplaa
