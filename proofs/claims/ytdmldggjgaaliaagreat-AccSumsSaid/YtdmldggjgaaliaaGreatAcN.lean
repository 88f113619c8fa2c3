/- The contracts of package acc's Sum and Dot (of numbers). The contracts of package acc's Left, Pair and Kahan, of whole numbers. -/
import Derived.Test.YtdmldggjgaaliaaGreatAccM
import Derived.Test.YtdmldggjgaaliaaGreatFlo
namespace Go.Proofs.YtdmldggjgaaliaaGreat.A
open Go.RowKit

def addS (a : St) (x : Nat) : St := a.merge (oneS (x : Int))
def sumS (l : List Nat) : St := l.foldl addS ⟨0, 0⟩
theorem foldl_next {α : Type} (f : α → Nat → α) (a : α) (l : List Nat) {k : Nat} (hk : k < l.length) : (l.take (k + 1)).foldl f a = f ((l.take k).foldl f a) (l.getD k 0) := by
  rw [List.take_add_one, getD_some hk, List.foldl_append]; rfl
def FitU (l : List Nat) : Prop := ∀ x ∈ l, x < 18446744073709551616
theorem FitU.get {l : List Nat} (h : FitU l) {i : Nat} (hi : i < l.length) : U64 ((l.getD i 0 : Nat) : Int) := by
  have e : l.getD i 0 = l[i] := by simp [List.getD, List.getElem?_eq_getElem hi]
  rw [e]
  exact u64_of_nat (h _ (List.getElem_mem hi))

/-- An Acc that is all of what was made since, with words in step with a count. -/
structure Run (w wr : World) (b : Nat) (v : Value) (L : Nat) (a : St) : Prop where
  acc : AccAt wr w.heap.size b v L a
  bl : Below w.heap.size w wr
theorem Run.did {w wr w' : World} {b : Nat} {v v' : Value} {L L' : Nat} {a a' : St} (h : Run w wr b v L a) (hd : Did wr w' w.heap.size b v L' a' v') : Run w w' b v' L' a' :=
  ⟨hd.acc, h.bl.trans (hd.wrote.below (fun k hk => (h.acc.base k hk).1) h.bl.size)⟩
theorem Run.mono {w wr : World} {b : Nat} {v : Value} {L L' : Nat} {a : St} (h : Run w wr b v L a) (hl : L ≤ L') : Run w wr b v L' a := ⟨h.acc.mono hl, h.bl⟩
theorem Run.drewN {w wr : World} {b : Nat} {v : Value} {L : Nat} {a : St} (h : Run w wr b v L a) (n : Nat) : Run w (wr.drewN n) b v L a :=
  ⟨h.acc.drewN n, ⟨h.bl.os, h.bl.tape, h.bl.output, h.bl.size, h.bl.block⟩⟩

set_option maxHeartbeats 800000 in
theorem sum_any (p : Option Addr) (g off c : Nat) (xs : List Nat) (w : World) (hs : Src w p g off xs) (hf : FitU xs) (hn : xs.length ≤ 500) :
    Calls Tryz.prog 9 #[.slice p xs.length c] w fun e w' => e = .returned (.float .f64 (valSt (sumS xs))) ∧ Below w.heap.size w w' := by
  have HS := hideS hs
  have HF := hideS hf
  have HNw := hideS (new_any w w.heap.size (Nat.le_refl _))
  obtain ⟨n, hN⟩ : ∃ n, xs.length = n := ⟨_, rfl⟩
  have HN := hideS hN
  rw [hN] at hn ⊢
  clear hs hf hN
  obtain ⟨res, hres⟩ : ∃ res, valSt (sumS xs) = res := ⟨_, rfl⟩
  rw [hres]
  have HRes := hideS hres
  clear hres
  go_enter Tryz.func9, Tryz.ntmps9
  go_wp2_with fail
  refine HNw.out.mono ?_
  rintro e w0 ⟨rfl, a0, b0⟩
  have R0 : Hid (Run w w0 w.heap.size (.slice none 0 0) (72 * 0) ((xs.take 0).foldl addS ⟨0, 0⟩)) := ⟨a0, b0⟩
  clear a0 b0 HNw
  go_wp2_with fail
  go_loopw [5, 9] (fun _ i wr => ∃ k : Nat, k ≤ n ∧ i = .int .i64 k ∧ Hid (∃ v, Run w wr w.heap.size v (72 * k) ((xs.take k).foldl addS ⟨0, 0⟩))) (fun _ i _ => n - (intOf i).toNat)
  case atStart => exact ⟨0, Nat.zero_le _, rfl, ⟨_, R0.out⟩⟩
  case round =>
    clear R0
    obtain ⟨k, hk, rfl, HR⟩ := hrel
    obtain ⟨v, hr⟩ := HR.out
    by_cases hlt : k < n
    · have hx : k < xs.length := by rw [HN.out]; exact hlt
      obtain rfl := HS.out.at_ (by omega)
      have hcx : wr.cell? ⟨g, off + k, none⟩ = some (.float .f64 (xs.getD k 0)) := (hr.bl.cell (p := ⟨g, off + k, none⟩) (HS.out.lt (by omega))).trans (HS.out.cell k hx)
      have HU := HF.out.get hx
      have HNx := hideS (foldl_next addS ⟨0, 0⟩ xs hx)
      clear hx
      generalize xs.getD k 0 = x at hcx HU HNx
      have HAd := hideS (add_any w.heap.size w.heap.size v (72 * k) _ x x wr hr.acc hr.bl.size rfl HU (by omega))
      have H1 := hideS hr
      clear hr HU HR
      go_wp2_with fail
      refine HAd.out.mono ?_
      rintro e w1 ⟨rfl, v1, hd⟩
      have H2 : Hid (∃ v, Run w w1 w.heap.size v (72 * (k + 1)) ((xs.take (k + 1)).foldl addS ⟨0, 0⟩)) := ⟨v1, by rw [HNx.out]; exact (H1.out.did hd).mono (by omega)⟩
      clear hd HAd H1
      go_wp2_with fail
      go_roundw
      case rel => exact ⟨k + 1, by omega, by simp, H2⟩
      case measure => simp [intOf]; omega
    · obtain rfl : k = n := by omega
      have HV := hideS (value_any w.heap.size w.heap.size v (72 * k) _ wr hr.acc hr.bl.size (by omega))
      have H1 := hideS hr.bl
      have e1 : xs.take k = xs := List.take_of_length_le (by rw [HN.out]; exact Nat.le_refl _)
      rw [e1] at HV
      have e2 : valSt (xs.foldl addS ⟨0, 0⟩) = res := HRes.out
      rw [e2] at HV
      clear hr HR e1 e2
      go_wp2_with fail
      refine HV.out.mono ?_
      rintro e w2 ⟨rfl, hb⟩
      have H3 := hideS (H1.out.trans (hb.mono H1.out.size))
      clear hb
      go_wp2_with fail
      go_ret
      exact ⟨rfl, H3.out⟩

/-- The numbers of a list. -/
def AllNum (l : List Nat) : Prop := ∀ x ∈ l, splOk (x : Int) = true
theorem AllNum.get {l : List Nat} (h : AllNum l) {i : Nat} (hi : i < l.length) : splOk ((l.getD i 0 : Nat) : Int) = true := by
  have e : l.getD i 0 = l[i] := by simp [List.getD, List.getElem?_eq_getElem hi]
  rw [e]
  exact h _ (List.getElem_mem hi)
def dotS (xs ys : List Nat) : Nat → St
  | 0 => ⟨0, 0⟩
  | k + 1 => (dotS xs ys k).merge (prodS (xs.getD k 0 : Nat) (ys.getD k 0 : Nat))

set_option maxHeartbeats 1600000 in
theorem dot_any (p p' : Option Addr) (g off c g' off' c' n : Nat) (xs ys : List Nat) (w : World) (hs : Src w p g off xs) (hs' : Src w p' g' off' ys) (hf : FitU xs) (hf' : FitU ys) (hnum : AllNum xs) (hnum' : AllNum ys) (hx : xs.length = n) (hy : ys.length = n) (hn : n ≤ 500) :
    Calls Tryz.prog 6 #[.slice p n c, .slice p' n c'] w fun e w' => e = .returned (.tuple #[.float .f64 (valSt (dotS xs ys n)), .bool true]) ∧ Below w.heap.size w w' := by
  have HS := hideS (And.intro hs (And.intro hf (And.intro hnum hx)))
  have HS' := hideS (And.intro hs' (And.intro hf' (And.intro hnum' hy)))
  have HNw := hideS (new_any w w.heap.size (Nat.le_refl _))
  clear hs hf hs' hf' hnum hnum' hx hy
  obtain ⟨res, hres⟩ : ∃ res, valSt (dotS xs ys n) = res := ⟨_, rfl⟩
  rw [hres]
  have HRes := hideS hres
  clear hres
  go_enter Tryz.func6, Tryz.ntmps6
  go_wp2_with fail
  refine HNw.out.mono ?_
  rintro e w0 ⟨rfl, a0, b0⟩
  have R0 : Hid (Run w w0 w.heap.size (.slice none 0 0) (72 * 0) (dotS xs ys 0)) := ⟨a0, b0⟩
  clear a0 b0 HNw
  go_wp2_with fail
  go_loopw [7, 16] (fun _ i wr => ∃ k : Nat, k ≤ n ∧ i = .int .i64 k ∧ Hid (∃ v, Run w wr w.heap.size v (72 * k) (dotS xs ys k))) (fun _ i _ => n - (intOf i).toNat)
  case atStart => exact ⟨0, Nat.zero_le _, rfl, ⟨_, R0.out⟩⟩
  case round =>
    clear R0
    obtain ⟨k, hk, rfl, HR⟩ := hrel
    obtain ⟨v, hr⟩ := HR.out
    by_cases hlt : k < n
    · have hx : k < xs.length := by rw [HS.out.2.2.2]; exact hlt
      have hy : k < ys.length := by rw [HS'.out.2.2.2]; exact hlt
      obtain rfl := HS.out.1.at_ (by omega)
      obtain rfl := HS'.out.1.at_ (by omega)
      have hcx : wr.cell? ⟨g, off + k, none⟩ = some (.float .f64 (xs.getD k 0)) := (hr.bl.cell (p := ⟨g, off + k, none⟩) (HS.out.1.lt (by omega))).trans (HS.out.1.cell k hx)
      have hcy : wr.cell? ⟨g', off' + k, none⟩ = some (.float .f64 (ys.getD k 0)) := (hr.bl.cell (p := ⟨g', off' + k, none⟩) (HS'.out.1.lt (by omega))).trans (HS'.out.1.cell k hy)
      have HU := HS.out.2.1.get hx
      have HU' := HS'.out.2.1.get hy
      have HM := HS.out.2.2.1.get hx
      have HM' := HS'.out.2.2.1.get hy
      have HNx := hideS (show dotS xs ys (k + 1) = (dotS xs ys k).merge (prodS (xs.getD k 0 : Nat) (ys.getD k 0 : Nat)) from rfl)
      clear hx hy
      generalize xs.getD k 0 = x at hcx HU HNx HM
      generalize ys.getD k 0 = y at hcy HU' HNx HM'
      have HAd := hideS (prod_any w.heap.size w.heap.size v (72 * k) _ x y x y (wr.drewN 1) (hr.acc.drewN 1) hr.bl.size rfl HU rfl HU' HM HM' (by omega))
      have H1 := hideS hr
      clear hr HU HR HU' HM HM'
      go_wp2_with fail
      go_region_with ((go_at_call 22; refine HAd.out.mono ?_; rintro e w1 ⟨rfl, v1, hd⟩))
      all_goals
        have H2 : Hid (∃ v, Run w w1 w.heap.size v (72 * (k + 1)) (dotS xs ys (k + 1))) := ⟨v1, by rw [HNx.out]; exact ((H1.out.drewN 1).did hd).mono (by omega)⟩
        clear hd
        go_wp2_with fail
        go_roundw
        case rel => exact ⟨k + 1, by omega, by simp, H2⟩
        case measure => simp [intOf]; omega
    · obtain rfl : k = n := by omega
      have HV := hideS (value_any w.heap.size w.heap.size v (72 * k) _ wr hr.acc hr.bl.size (by omega))
      have H1 := hideS hr.bl
      rw [HRes.out] at HV
      clear hr HR
      go_wp2_with fail
      refine HV.out.mono ?_
      rintro e w2 ⟨rfl, hb⟩
      have H3 := hideS (H1.out.trans (hb.mono H1.out.size))
      clear hb
      go_wp2_with fail
      go_ret2
      exact ⟨rfl, H3.out⟩
end Go.Proofs.YtdmldggjgaaliaaGreat.A
namespace Go.Proofs.YtdmldggjgaaliaaGreat.A
open Go.RowKit

def isum : List Int → Int
  | [] => 0
  | m :: l => m + isum l
def asum : List Int → Nat
  | [] => 0
  | m :: l => m.natAbs + asum l
theorem isum_append : ∀ a b : List Int, isum (a ++ b) = isum a + isum b
  | [], b => by simp [isum]
  | m :: a, b => by simp only [List.cons_append, isum, isum_append a b]; omega
theorem asum_append : ∀ a b : List Int, asum (a ++ b) = asum a + asum b
  | [], b => by simp [asum]
  | m :: a, b => by simp only [List.cons_append, asum, asum_append a b]; omega
theorem isum_le : ∀ a : List Int, -(asum a : Int) ≤ isum a ∧ isum a ≤ (asum a : Int)
  | [] => by simp [isum, asum]
  | m :: a => by have := isum_le a; simp only [isum, asum]; omega
theorem isum_cut (k : Nat) (a : List Int) : isum a = isum (a.take k) + isum (a.drop k) := by rw [← isum_append, List.take_append_drop]
theorem asum_cut (k : Nat) (a : List Int) : asum a = asum (a.take k) + asum (a.drop k) := by rw [← asum_append, List.take_append_drop]
theorem getD_someI {l : List Int} {i : Nat} (hi : i < l.length) : l[i]? = some (l.getD i 0) := by simp [List.getD, List.getElem?_eq_getElem hi]
theorem isum_next {l : List Int} {k : Nat} (hk : k < l.length) : isum (l.take (k + 1)) = isum (l.take k) + l.getD k 0 := by
  rw [List.take_add_one, getD_someI hk, isum_append]; simp [isum]
theorem asum_get {l : List Int} {k : Nat} (hk : k < l.length) : asum (l.take k) + (l.getD k 0).natAbs ≤ asum l := by
  have h1 := asum_cut (k + 1) l
  have h2 : asum (some (l.getD k 0)).toList = (l.getD k 0).natAbs := rfl
  rw [List.take_add_one, getD_someI hk, asum_append, h2] at h1
  omega
theorem getD_fi {ms : List Int} {k : Nat} (hk : k < ms.length) : (ms.map fi).getD k 0 = fi (ms.getD k 0) := by
  simp [List.getD, List.getElem?_eq_getElem hk]

set_option maxHeartbeats 400000 in
theorem left_whole (p : Option Addr) (g off c : Nat) (ms : List Int) (w : World) (hs : Src w p g off (ms.map fi)) (hb : asum ms ≤ 9007199254740992) (hn : ms.length ≤ 1000000) :
    Calls Tryz.prog 11 #[.slice p ms.length c] w fun e w' => e = .returned (.float .f64 (fi (isum ms))) ∧ w' = w := by
  have HS := hideS hs
  have HB := hideS hb
  obtain ⟨n, hN⟩ : ∃ n, ms.length = n := ⟨_, rfl⟩
  have HN := hideS hN
  rw [hN] at hn ⊢
  obtain ⟨res, hres⟩ : ∃ res, fi (isum ms) = res := ⟨_, rfl⟩
  rw [hres]
  have HRes := hideS hres
  clear hs hb hN hres
  go_enter Tryz.func11, Tryz.ntmps11
  go_wp2_with fail
  go_loop [3, 5, 8] (fun s _ i => ∃ k a : Nat, k ≤ n ∧ i = .int .i64 k ∧ s = .float .f64 a ∧ Hid (a = fi (isum (ms.take k)))) (fun _ _ i => n - (intOf i).toNat)
  case atStart => exact ⟨0, 0, Nat.zero_le _, rfl, rfl, rfl⟩
  case round =>
    obtain ⟨k, a, hk, rfl, rfl, HA⟩ := hrel
    by_cases hlt : k < n
    · have hx : k < ms.length := by rw [HN.out]; exact hlt
      obtain rfl := HS.out.at_ (by simp; omega)
      have hcx := HS.out.cell k (by simp; omega)
      rw [getD_fi hx] at hcx
      have h1 := asum_get hx
      have h2 := isum_le (ms.take k)
      have h3 := HB.out
      have hadd : floatBits .add .f64 a (fi (ms.getD k 0)) = some (fi (isum (ms.take (k + 1)))) := by
        rw [HA.out, isum_next hx]
        exact add_fi (by omega) (by omega) (by omega) (by omega)
      clear hx h1 h2 h3
      generalize fi (ms.getD k 0) = x at hcx hadd
      obtain ⟨r, hr⟩ : ∃ r, fi (isum (ms.take (k + 1))) = r := ⟨_, rfl⟩
      rw [hr] at hadd
      have HR := hideS hr
      have hrun := fun w => run_float_arith (P := Tryz.prog) w .add 26 .f64 a x r hadd
      clear hr hadd
      go_wp2
      go_round
      case rel => exact ⟨k + 1, r, by omega, by simp, rfl, HR.out.symm⟩
      case measure => simp [intOf]; omega
    · obtain rfl : k = n := by omega
      go_wp2
      go_ret
      refine ⟨ret_f64 ?_, rfl⟩
      rw [HA.out, ← HRes.out, List.take_of_length_le (by rw [HN.out]; exact Nat.le_refl _)]

set_option maxHeartbeats 400000 in
theorem abs_any (b : Nat) (w : World) (h : U64 b) :
    Calls Tryz.prog 29 #[.float .f64 b] w fun e w' => e = .returned (.float .f64 (szI b).toNat) ∧ w' = w := by
  have h1 := call_bits
  have h2 := call_frombits
  have h3 := andNot_sz h
  go_enter Tryz.func29, Tryz.ntmps29
  go_wp2
  go_ret
  exact ⟨rfl, rfl⟩

set_option maxHeartbeats 800000 in
theorem kahan_whole (p : Option Addr) (g off c : Nat) (ms : List Int) (w : World) (hs : Src w p g off (ms.map fi)) (hb : asum ms ≤ 9007199254740992) (hn : ms.length ≤ 1000000) :
    Calls Tryz.prog 15 #[.slice p ms.length c] w fun e w' => e = .returned (.float .f64 (fi (isum ms))) ∧ w' = w := by
  have HS := hideS hs
  have HB := hideS hb
  obtain ⟨n, hN⟩ : ∃ n, ms.length = n := ⟨_, rfl⟩
  have HN := hideS hN
  rw [hN] at hn ⊢
  obtain ⟨res, hres⟩ : ∃ res, fi (isum ms) = res := ⟨_, rfl⟩
  rw [hres]
  have HRes := hideS hres
  clear hs hb hN hres
  go_enter Tryz.func15, Tryz.ntmps15
  go_wp2_with fail
  go_loop [3, 4, 6, 7, 10] (fun s e _ _ i => ∃ k a : Nat, k ≤ n ∧ i = .int .i64 k ∧ s = .float .f64 a ∧ e = .float .f64 0 ∧ Hid (a = fi (isum (ms.take k)))) (fun _ _ _ _ i => n - (intOf i).toNat)
  case atStart => exact ⟨0, 0, Nat.zero_le _, rfl, rfl, rfl, rfl⟩
  case round =>
    obtain ⟨k, a, hk, rfl, rfl, rfl, HA⟩ := hrel
    by_cases hlt : k < n
    · have hx : k < ms.length := by rw [HN.out]; exact hlt
      obtain rfl := HS.out.at_ (by simp; omega)
      have hcx := HS.out.cell k (by simp; omega)
      rw [getD_fi hx] at hcx
      have h1 := asum_get hx
      have h2 := isum_le (ms.take k)
      have h3 := HB.out
      have hnx := isum_next hx
      obtain ⟨S, hS⟩ : ∃ S, isum (ms.take k) = S := ⟨_, rfl⟩
      obtain ⟨m, hm⟩ : ∃ m, ms.getD k 0 = m := ⟨_, rfl⟩
      rw [hS] at hnx h2
      rw [hm] at hnx hcx h1
      have ha : a = fi S := by rw [HA.out, hS]
      have q1 : floatBits .add .f64 a (fi m) = some (fi (S + m)) := by rw [ha]; exact add_fi (by omega) (by omega) (by omega) (by omega)
      have q2 : floatBits .sub .f64 a (fi (S + m)) = some (fi (-m)) := by rw [ha, sub_fi (by omega) (by omega) (by omega) (by omega)]; congr 2; omega
      have q3 : floatBits .add .f64 (fi (-m)) (fi m) = some 0 := by rw [add_fi (by omega) (by omega) (by omega) (by omega), show -m + m = 0 by omega]; rfl
      have q4 : floatBits .sub .f64 (fi m) (fi (S + m)) = some (fi (-S)) := by rw [sub_fi (by omega) (by omega) (by omega) (by omega)]; congr 2; omega
      have q5 : floatBits .add .f64 (fi (-S)) a = some 0 := by rw [ha, add_fi (by omega) (by omega) (by omega) (by omega), show -S + S = 0 by omega]; rfl
      have q6 : floatBits .add .f64 0 0 = some 0 := rfl
      have ua : U64 a := by rw [ha]; exact u64_of_nat (vI_fi (m := S) rfl (by omega) (by omega)).2.2.2
      have ux : U64 (fi m) := u64_of_nat (vI_fi (m := m) rfl (by omega) (by omega)).2.2.2
      have HAb := hideS (abs_any a w ua)
      have HAc := hideS (abs_any (fi m) w ux)
      have HR : Hid (fi (S + m) = fi (isum (ms.take (k + 1)))) := by show _ = _; rw [hnx]
      clear hx h1 h2 h3 hnx hS hm ha ua ux HA
      generalize fi (S + m) = r at *
      generalize fi (-m) = d1 at *
      generalize fi (-S) = d2 at *
      generalize fi m = x at *
      have r1 := fun w => run_float_arith (P := Tryz.prog) w .add 26 .f64 a x r q1
      have r2 := fun w => run_float_arith (P := Tryz.prog) w .sub 26 .f64 a r d1 q2
      have r3 := fun w => run_float_arith (P := Tryz.prog) w .add 26 .f64 d1 x 0 q3
      have r4 := fun w => run_float_arith (P := Tryz.prog) w .sub 26 .f64 x r d2 q4
      have r5 := fun w => run_float_arith (P := Tryz.prog) w .add 26 .f64 d2 a 0 q5
      have r6 := fun w => run_float_arith (P := Tryz.prog) w .add 26 .f64 0 0 0 q6
      clear q1 q2 q3 q4 q5 q6
      generalize (szI a).toNat = a' at HAb
      generalize (szI x).toNat = x' at HAc
      go_wp2_with fail
      refine (turned HAb.out).mono ?_
      rintro e w' ⟨rfl, rfl⟩
      go_wp2_with fail
      refine (turned HAc.out).mono ?_
      rintro e w' ⟨rfl, rfl⟩
      go_wp2_with fail
      all_goals
        go_round
        case rel => exact ⟨k + 1, r, by omega, by simp, rfl, rfl, HR⟩
        case measure => simp [intOf]; omega
    · obtain rfl : k = n := by omega
      have h2 := isum_le ms
      have h3 := HB.out
      have ha : a = fi (isum ms) := by rw [HA.out, List.take_of_length_le (by rw [HN.out]; exact Nat.le_refl _)]
      have q : floatBits .add .f64 a 0 = some res := by
        rw [ha, ← HRes.out]
        have := add_fi (m := isum ms) (n := 0) (by omega) (by omega) (by omega) (by omega)
        rw [fi_zero, Int.add_zero] at this; exact this
      have r1 := fun w => run_float_arith (P := Tryz.prog) w .add 26 .f64 a 0 res q
      clear q h2 h3 ha HA
      go_wp2
      go_ret
      exact ⟨rfl, rfl⟩

theorem Src.part {w : World} {g off : Nat} {xs : List Nat} {p : Option Addr} (h : Src w p g off xs) (k : Nat) : Src w p g off (xs.take k) :=
  ⟨fun h0 => h.at_ (by simp at h0; omega), fun h0 => h.lt (by simp at h0; omega), fun j hj => by
    simp at hj
    rw [h.cell j (by omega)]
    simp [List.getD, List.getElem?_take_of_lt (show j < k by omega)]⟩
theorem Src.rest {w : World} {g off : Nat} {xs : List Nat} {p : Option Addr} (h : Src w p g off xs) (k : Nat) : Src w (some ⟨g, off + k, none⟩) g (off + k) (xs.drop k) :=
  ⟨fun _ => rfl, fun h0 => h.lt (by simp at h0; omega), fun j hj => by
    simp at hj
    have := h.cell (k + j) (by omega)
    rw [← Nat.add_assoc] at this
    rw [this]
    simp [List.getD]⟩
theorem Src.drewN {w : World} {g off : Nat} {xs : List Nat} {p : Option Addr} (h : Src w p g off xs) (n : Nat) : Src (w.drewN n) p g off xs := ⟨h.at_, h.lt, h.cell⟩

theorem run_cut_low (g off n c h : Nat) (w : World) (hh : h ≤ c) : (Instr.slice 22 (.slice (some ⟨g, off, none⟩) n c) none (some (.int .i64 (h : Int))) none).run Tryz.prog w = .ok (.slice (some ⟨g, off, none⟩) h c) w := by
  simp [Instr.slice, Instr.sliceBounds, Instr.sliceBound, asIntOf, run_underlying Tryz.underlying22, Tryz.sizeOf26, hh, Addr.add_lit]
theorem drewN_two (w : World) (a b : Nat) : (w.drewN a).drewN b = w.drewN (a + b) := by simp [World.drewN, Nat.add_assoc]
theorem run_cut_high (g off n c h : Nat) (w : World) (hh : h < n) (hc : n ≤ c) : (Instr.slice 22 (.slice (some ⟨g, off, none⟩) n c) (some (.int .i64 (h : Int))) none none).run Tryz.prog w = .ok (.slice (some ⟨g, off + h, none⟩) (n - h) (c - h)) w := by
  have h1 : h ≤ n := by omega
  have h2 : ¬ c = h := by omega
  simp [Instr.slice, Instr.sliceBounds, Instr.sliceBound, asIntOf, run_underlying Tryz.underlying22, Tryz.sizeOf26, h1, h2, Addr.add_lit]

set_option maxHeartbeats 800000 in
theorem pair_whole (n : Nat) : ∀ (p : Option Addr) (g off c : Nat) (ms : List Int) (w : World), ms.length = n → Src w p g off (ms.map fi) → asum ms ≤ 9007199254740992 → n ≤ c → c ≤ 9223372036854775807 →
    Calls Tryz.prog 13 #[.slice p n c] w fun e w' => e = .returned (.float .f64 (fi (isum ms))) ∧ ∃ q, w' = w.drewN q := by
  induction n using Nat.strongRecOn with
  | _ n ih =>
    intro p g off c ms w hN hs hb hc hc63
    obtain ⟨res, hres⟩ : ∃ res, fi (isum ms) = res := ⟨_, rfl⟩
    rw [hres]
    by_cases h0 : n = 0
    · subst h0
      have : ms = [] := List.length_eq_zero_iff.1 hN
      subst this
      have hr0 : res = 0 := hres.symm
      subst hr0
      clear hres ih hs
      go_enter Tryz.func13, Tryz.ntmps13
      go_wp2
      go_ret
      exact ⟨rfl, 0, rfl⟩
    by_cases h1 : n = 1
    · subst h1
      obtain ⟨m, rfl⟩ : ∃ m, ms = [m] := List.length_eq_one_iff.1 hN
      have hcx := hs.cell 0 (by simp)
      obtain rfl := hs.at_ (by simp)
      have hr0 : fi m = res := by rw [← hres]; simp [isum]
      have e : (List.map fi [m]).getD 0 0 = res := hr0
      rw [e, Nat.add_zero] at hcx
      clear hres ih hs hr0 e
      go_enter Tryz.func13, Tryz.ntmps13
      go_wp2
      go_ret
      exact ⟨rfl, 0, rfl⟩
    obtain ⟨h, hh⟩ : ∃ h, n / 2 = h := ⟨_, rfl⟩
    have hq : (n : Int) / 2 = (h : Int) := by omega
    have hh1 : 1 ≤ h := by omega
    have hh2 : h < n := by omega
    obtain rfl := hs.at_ (by simp; omega)
    have hA := asum_cut h ms
    have hI := isum_cut h ms
    have HL : Hid (∀ (pp : Option Addr) (nn cc k : Nat), pp = some ⟨g, off, none⟩ ∧ nn = h ∧ cc = c → Calls Tryz.prog 13 #[.slice pp nn cc] (w.drewN k) fun e w' => e = .returned (.float .f64 (fi (isum (ms.take h)))) ∧ ∃ q, w' = (w.drewN k).drewN q) := fun pp nn cc k ⟨a1, a2, a3⟩ => by
      subst a1 a2 a3
      exact ih nn hh2 (some ⟨g, off, none⟩) g off cc (ms.take nn) (w.drewN k) (by simp; omega) (by rw [List.map_take]; exact (hs.part nn).drewN k) (by omega) (by omega) hc63
    have HR : Hid (∀ (pp : Option Addr) (nn cc k : Nat), pp = some ⟨g, off + h, none⟩ ∧ nn = n - h ∧ cc = c - h → Calls Tryz.prog 13 #[.slice pp nn cc] (w.drewN k) fun e w' => e = .returned (.float .f64 (fi (isum (ms.drop h)))) ∧ ∃ q, w' = (w.drewN k).drewN q) := fun pp nn cc k ⟨a1, a2, a3⟩ => by
      subst a1 a2 a3
      exact ih (n - h) (by omega) (some ⟨g, off + h, none⟩) g (off + h) (c - h) (ms.drop h) (w.drewN k) (by simp; omega) (by rw [List.map_drop]; exact (hs.rest h).drewN k) (by omega) (by omega) (by omega)
    have b1 := isum_le (ms.take h)
    have b2 := isum_le (ms.drop h)
    have q : floatBits .add .f64 (fi (isum (ms.take h))) (fi (isum (ms.drop h))) = some res := by
      rw [← hres, hI]
      exact add_fi (by omega) (by omega) (by omega) (by omega)
    clear hs hb hN ih hA hI b1 b2 hres
    generalize fi (isum (ms.take h)) = x1 at *
    generalize fi (isum (ms.drop h)) = x2 at *
    have r1 := fun w => run_float_arith (P := Tryz.prog) w .add 26 .f64 x1 x2 res q
    clear q
    have c1 := fun w => run_cut_low g off n c h w (by omega)
    have c2 := fun w => run_cut_high g off n c h w hh2 hc
    go_enter Tryz.func13, Tryz.ntmps13
    go_wp2_with fail
    go_quiet (first | (go_at_call 13; refine (HL.out _ _ _ _ ?_).mono ?_; (with_reducible exact ⟨rfl, rfl, rfl⟩); exact fun _ _ ⟨a, q, b⟩ => ⟨a, _, b.trans (drewN_two _ _ _)⟩) | (go_at_call 13; refine (HR.out _ _ _ _ ?_).mono ?_; (with_reducible exact ⟨rfl, rfl, rfl⟩); exact fun _ _ ⟨a, q, b⟩ => ⟨a, _, b.trans (drewN_two _ _ _)⟩))
    go_wp2
    go_ret
    exact ⟨rfl, _, rfl⟩
end Go.Proofs.YtdmldggjgaaliaaGreat.A
