/- The contracts of package acc's Prod and Dot at any floats. -/
import Derived.Test.YtdmldggjgaaliaaGreatAcN
import Derived.Test.YtdmldggjgaaliaaGreatOpO
import Derived.Test.YtdmldggjgaaliaaGreatRefHorner
namespace Go.Proofs.YtdmldggjgaaliaaGreat.A
open Go.RowKit

theorem ones_ag {o : Option Nat} {r : Nat} (h : Ag o r) : oneS (r : Int) = oneS (cn o : Int) := by
  cases o with
  | some q => rw [ag_some h, cn_some]
  | none =>
    have f : ∀ {b : Nat}, nanB (b : Int) = true → oneS (b : Int) = ⟨3, 0⟩ := fun {b} hb => by
      have h1 : splOk (b : Int) = false := by
        unfold splOk; unfold nanB at hb
        rw [decide_eq_true_eq] at hb
        rw [decide_eq_false_iff_not]; omega
      unfold oneS endN
      rw [h1, hb]; rfl
    rw [f (ag_none h).1, cn_none, f cn_nan]
/-- What a product brings. -/
def prodG (x y : Nat) : St := if splOk (x : Int) && splOk (y : Int) then prodS (x : Int) (y : Int) else oneS (cn (floatBits .mul .f64 x y) : Int)

set_option maxHeartbeats 800000 in
theorem prod_odd (B b : Nat) (v : Value) (L : Nat) (a : St) (x y : Nat) (w : World) (h : AccAt w B b v L a) (hB : B ≤ w.heap.size) (hx : U64 (x : Int)) (hy : U64 (y : Int)) (hno : (splOk (x : Int) && splOk (y : Int)) = false) (hL : L ≤ 40000) :
    Calls Tryz.prog 22 #[.pointer (some ⟨b, 0, none⟩), .float .f64 x, .float .f64 y] w fun r w' => r = .returned (.tuple #[]) ∧ ∃ q v', Did (w.drewN q) w' B b v (max L 70 + 1) (a.merge (prodG x y)) v' := by
  have HS := hideS (split_as x x w rfl hx)
  have HS' := hideS (split_as y y w rfl hy)
  obtain ⟨r, ⟨q, r1⟩, g⟩ := run_op_ag .mul (by simp) 26 x y w
  have hr64 : r < 18446744073709551616 := by
    cases hf : floatBits .mul .f64 x y with
    | none => rw [hf] at g; exact (ag_none g).2
    | some z => rw [hf] at g; rw [ag_some g]; exact float_lt (by simp) hf
  have HAd := hideS (add_any B b v L a r r (w.drewN q) (h.drewN q) hB rfl (u64_of_nat hr64) hL)
  have HR : Hid (a.merge (oneS (r : Int)) = a.merge (prodG x y)) := by
    show _ = _
    unfold prodG
    rw [hno, if_neg (by decide), ones_ag g]
  rw [HR.out] at HAd
  clear h hx hy g hr64 HR
  cases h1 : splOk (x : Int)
  · rw [h1] at HS
    clear hno h1
    go_enter Tryz.func22, Tryz.ntmps22
    go_wp2_with fail
    refine (turned HS.out).mono ?_
    rintro e w' ⟨rfl, rfl⟩
    go_wp2_with fail
    refine (turned HS'.out).mono ?_
    rintro e w' ⟨rfl, rfl⟩
    go_wp2_with fail
    refine HAd.out.mono ?_
    rintro e w1 ⟨rfl, v1, hd⟩
    have HD := hideS hd
    clear hd
    go_wp2_with fail
    first | go_end0 | refine bodyPost_ret (results_none rfl _ _ _) rfl ?_
    exact ⟨rfl, q, v1, HD.out⟩
  · rw [h1, Bool.true_and] at hno
    rw [h1] at HS
    rw [hno] at HS'
    clear hno h1
    go_enter Tryz.func22, Tryz.ntmps22
    go_wp2_with fail
    refine (turned HS.out).mono ?_
    rintro e w' ⟨rfl, rfl⟩
    go_wp2_with fail
    refine (turned HS'.out).mono ?_
    rintro e w' ⟨rfl, rfl⟩
    go_wp2_with fail
    refine HAd.out.mono ?_
    rintro e w1 ⟨rfl, v1, hd⟩
    have HD := hideS hd
    clear hd
    go_wp2_with fail
    first | go_end0 | refine bodyPost_ret (results_none rfl _ _ _) rfl ?_
    exact ⟨rfl, q, v1, HD.out⟩

theorem prod_gen (B b : Nat) (v : Value) (L : Nat) (a : St) (x y : Nat) (w : World) (h : AccAt w B b v L a) (hB : B ≤ w.heap.size) (hx : U64 (x : Int)) (hy : U64 (y : Int)) (hL : L ≤ 40000) :
    Calls Tryz.prog 22 #[.pointer (some ⟨b, 0, none⟩), .float .f64 x, .float .f64 y] w fun r w' => r = .returned (.tuple #[]) ∧ ∃ q v', Did (w.drewN q) w' B b v (max L 70 + 1) (a.merge (prodG x y)) v' := by
  cases hno : (splOk (x : Int) && splOk (y : Int)) with
  | false => exact prod_odd B b v L a x y w h hB hx hy hno hL
  | true =>
    rw [Bool.and_eq_true] at hno
    have e : prodG x y = prodS (x : Int) (y : Int) := by unfold prodG; rw [hno.1, hno.2]; rfl
    rw [e]
    exact (prod_any B b v L a x y x y w h hB rfl hx rfl hy hno.1 hno.2 hL).mono fun _ _ ⟨a1, v', hd⟩ => ⟨a1, 0, v', hd⟩

def dotG (xs ys : List Nat) : Nat → St
  | 0 => ⟨0, 0⟩
  | k + 1 => (dotG xs ys k).merge (prodG (xs.getD k 0) (ys.getD k 0))

set_option maxHeartbeats 1600000 in
theorem dot_gen (p p' : Option Addr) (g off c g' off' c' n : Nat) (xs ys : List Nat) (w : World) (hs : Src w p g off xs) (hs' : Src w p' g' off' ys) (hf : FitU xs) (hf' : FitU ys) (hx : xs.length = n) (hy : ys.length = n) (hn : n ≤ 500) :
    Calls Tryz.prog 6 #[.slice p n c, .slice p' n c'] w fun e w' => e = .returned (.tuple #[.float .f64 (valSt (dotG xs ys n)), .bool true]) ∧ Below w.heap.size w w' := by
  have HS := hideS (And.intro hs (And.intro hf hx))
  have HS' := hideS (And.intro hs' (And.intro hf' hy))
  have HNw := hideS (new_any w w.heap.size (Nat.le_refl _))
  clear hs hf hs' hf' hx hy
  obtain ⟨res, hres⟩ : ∃ res, valSt (dotG xs ys n) = res := ⟨_, rfl⟩
  rw [hres]
  have HRes := hideS hres
  clear hres
  go_enter Tryz.func6, Tryz.ntmps6
  go_wp2_with fail
  refine HNw.out.mono ?_
  rintro e w0 ⟨rfl, a0, b0⟩
  have R0 : Hid (Run w w0 w.heap.size (.slice none 0 0) (72 * 0) (dotG xs ys 0)) := ⟨a0, b0⟩
  clear a0 b0 HNw
  go_wp2_with fail
  go_loopw [7, 16] (fun _ i wr => ∃ k : Nat, k ≤ n ∧ i = .int .i64 k ∧ Hid (∃ v, Run w wr w.heap.size v (72 * k) (dotG xs ys k))) (fun _ i _ => n - (intOf i).toNat)
  case atStart => exact ⟨0, Nat.zero_le _, rfl, ⟨_, R0.out⟩⟩
  case round =>
    clear R0
    obtain ⟨k, hk, rfl, HR⟩ := hrel
    obtain ⟨v, hr⟩ := HR.out
    by_cases hlt : k < n
    · have hx : k < xs.length := by rw [HS.out.2.2]; exact hlt
      have hy : k < ys.length := by rw [HS'.out.2.2]; exact hlt
      obtain rfl := HS.out.1.at_ (by omega)
      obtain rfl := HS'.out.1.at_ (by omega)
      have hcx : wr.cell? ⟨g, off + k, none⟩ = some (.float .f64 (xs.getD k 0)) := (hr.bl.cell (p := ⟨g, off + k, none⟩) (HS.out.1.lt (by omega))).trans (HS.out.1.cell k hx)
      have hcy : wr.cell? ⟨g', off' + k, none⟩ = some (.float .f64 (ys.getD k 0)) := (hr.bl.cell (p := ⟨g', off' + k, none⟩) (HS'.out.1.lt (by omega))).trans (HS'.out.1.cell k hy)
      have HU := HS.out.2.1.get hx
      have HU' := HS'.out.2.1.get hy
      have HNx := hideS (show dotG xs ys (k + 1) = (dotG xs ys k).merge (prodG (xs.getD k 0) (ys.getD k 0)) from rfl)
      clear hx hy
      generalize xs.getD k 0 = x at hcx HU HNx
      generalize ys.getD k 0 = y at hcy HU' HNx
      have HAd := hideS (prod_gen w.heap.size w.heap.size v (72 * k) _ x y (wr.drewN 1) (hr.acc.drewN 1) hr.bl.size HU HU' (by omega))
      have H1 := hideS hr
      clear hr HU HR HU'
      go_wp2_with fail
      go_region_with ((go_at_call 22; refine HAd.out.mono ?_; rintro e w1 ⟨rfl, q1, v1, hd⟩))
      all_goals
        have H2 : Hid (∃ v, Run w w1 w.heap.size v (72 * (k + 1)) (dotG xs ys (k + 1))) := ⟨v1, by rw [HNx.out]; exact (((H1.out.drewN 1).drewN q1).did hd).mono (by omega)⟩
        clear hd
        go_wp2_with fail
        go_roundw
        case rel => exact ⟨k + 1, by omega, by simp, H2⟩
        case measure => simp [intOf]; omega
    · obtain rfl : k = n := by omega
      have HV := hideS (value_any w.heap.size w.heap.size v (72 * k) _ wr hr.acc hr.bl.size (by omega))
      have H1 := hideS hr.bl
      rw [HRes.out] at HV
      clear hr HR
      go_wp2_with fail
      refine HV.out.mono ?_
      rintro e w2 ⟨rfl, hb⟩
      have H3 := hideS (H1.out.trans (hb.mono H1.out.size))
      clear hb
      go_wp2_with fail
      go_ret2
      exact ⟨rfl, H3.out⟩

set_option maxHeartbeats 400000 in
theorem dot_apart (p p' : Option Addr) (c c' n m : Nat) (w : World) (hne : n ≠ m) :
    Calls Tryz.prog 6 #[.slice p n c, .slice p' m c'] w fun e w' => e = .returned (.tuple #[.float .f64 0, .bool false]) ∧ w' = w := by
  have h1 : ((n : Int) == (m : Int)) = false := by simp; omega
  have h2 : ((n : Int) != (m : Int)) = true := by rw [bne, h1]; rfl
  go_enter Tryz.func6, Tryz.ntmps6
  go_wp2
  go_ret2
  exact ⟨rfl, rfl⟩
end Go.Proofs.YtdmldggjgaaliaaGreat.A
