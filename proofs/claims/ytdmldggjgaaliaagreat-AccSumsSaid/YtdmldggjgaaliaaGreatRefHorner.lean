/- What floats tell fits 64 bits; the contracts of tenorlaw1.Bits, tenorlaw1.Are and of the document's Horner. -/
import Derived.Test.YtdmldggjgaaliaaGreatRefAdd
namespace Go.Proofs.YtdmldggjgaaliaaGreat
open Go.RowKit

theorem wrd_lt {s : Bool} {r : Nat} (h : r ≤ 9218868437227405312) : wrd s r < 18446744073709551616 := by unfold wrd; split <;> omega
theorem write_lt (d : Ieee.Datum) (h : ∀ s f, d ≠ .nan s f) : Ieee.double.write d < 18446744073709551616 := by
  cases d with
  | nan s f => exact absurd rfl (h s f)
  | infinity s => rw [write_inf]; exact wrd_lt (Nat.le_refl _)
  | number s m i =>
    show Ieee.double.nearest s m i < _
    by_cases h0 : m = 0
    · rw [h0, nearest_zero, word_eq]; exact wrd_lt (Nat.zero_le _)
    · rw [nearest_eq s h0, word_eq]; exact wrd_lt (Nat.min_le_right _ _)
theorem sum_ok {a b d : Ieee.Datum} (h : a.sum b = some d) : ∀ s f, d ≠ .nan s f := by
  intro s f e
  subst e
  cases a <;> cases b <;> simp [Ieee.Datum.sum] at h
theorem product_ok {a b d : Ieee.Datum} (h : a.product b = some d) : ∀ s f, d ≠ .nan s f := by
  intro s f e
  subst e
  cases a <;> cases b <;> simp [Ieee.Datum.product] at h
theorem quotient_ok {a b d : Ieee.Datum} {k : Nat} (h : a.quotient k b = some d) : ∀ s f, d ≠ .nan s f := by
  intro s f e
  subst e
  cases a <;> cases b <;> simp [Ieee.Datum.quotient] at h
  split at h
  · split at h <;> cases h
  · cases h
theorem map_lt {o : Option Ieee.Datum} {r : Nat} (ho : ∀ d, o = some d → ∀ s f, d ≠ .nan s f) (h : o.map Ieee.double.write = some r) : r < 18446744073709551616 := by
  cases o with
  | none => cases h
  | some d =>
    have : Ieee.double.write d = r := Option.some.inj h
    rw [← this]; exact write_lt d (ho d rfl)
theorem float_lt {op : BinOp} (ho : op = .add ∨ op = .sub ∨ op = .mul ∨ op = .quo) {x y r : Nat} (h : floatBits op .f64 x y = some r) : r < 18446744073709551616 := by
  rcases ho with rfl | rfl | rfl | rfl
  · exact map_lt (o := (Ieee.double.read x).sum (Ieee.double.read y)) (fun d hd => sum_ok hd) h
  · exact map_lt (o := (Ieee.double.read x).sum (Ieee.double.read y).opposite) (fun d hd => sum_ok hd) h
  · exact map_lt (o := (Ieee.double.read x).product (Ieee.double.read y)) (fun d hd => product_ok hd) h
  · exact map_lt (o := (Ieee.double.read x).quotient 54 (Ieee.double.read y)) (fun d hd => quotient_ok hd) h
theorem cn_lt {op : BinOp} (ho : op = .add ∨ op = .sub ∨ op = .mul ∨ op = .quo) (x y : Nat) : cn (floatBits op .f64 x y) < 18446744073709551616 := by
  cases h : floatBits op .f64 x y with
  | none => decide
  | some r => exact float_lt ho h
theorem cn_nan : nanB ((9221120237041090561 : Nat) : Int) = true := by decide
theorem ag_cn (o : Option Nat) : Ag o (cn o) := by
  cases o with
  | none => exact ⟨cn_nan, by decide⟩
  | some r => rfl
/-- What both tell is the same float. -/
theorem ag_same {o : Option Nat} {r : Nat} (h : Ag o r) : sameB (r : Int) (cn o : Int) = true := by
  cases o with
  | none => exact sameB_nan (ag_none h).1 cn_nan
  | some q => rw [ag_some h, cn_some]; exact sameB_refl _

def FitL (l : List Nat) : Prop := ∀ x ∈ l, x < 18446744073709551616
theorem FitL.get {l : List Nat} (h : FitL l) (i : Nat) : l.getD i 0 < 18446744073709551616 := by
  by_cases hi : i < l.length
  · have e : l.getD i 0 = l[i] := by simp [List.getD, List.getElem?_eq_getElem hi]
    rw [e]; exact h _ (List.getElem_mem hi)
  · have e : l.getD i 0 = 0 := by simp [List.getD, List.getElem?_eq_none (show l.length ≤ i by omega)]
    rw [e]; decide

set_option maxHeartbeats 800000 in
theorem bitsL_any (p : Option Addr) (b off c n : Nat) (xs : List Nat) (w : World) (hs : Src w p b off xs) (hN : xs.length = n) (hn : n ≤ 200) :
    Calls Tryz.prog 5 #[.slice p n c] w fun e w' => ∃ v, e = .returned v ∧ OwnF w' w.heap.size 29 uV v xs ∧ Below w.heap.size w w' := by
  obtain ⟨i0, hi, hz0, hz1, hz2⟩ := info_parts infoU
  have HS := hideS hs
  have HN := hideS hN.symm
  clear hs hN
  go_enter Tryz.func5, Tryz.ntmps5
  go_wp2
  go_loopw [3, 4] (fun v i wr => ∃ k : Nat, k ≤ n ∧ i = .int .i64 k ∧ Hid (wr.ownsRow w.heap.size 29 1 v k (rowOf uV xs k)) ∧ Below w.heap.size w wr) (fun _ i _ => n - (intOf i).toNat)
  case atStart => exact ⟨0, Nat.zero_le _, rfl, World.ownsRow_nil _ _ _ _, Below.refl _ _⟩
  case round =>
    obtain ⟨k, hk, rfl, hown, hbl⟩ := hrel
    by_cases hlt : k < n
    · have hx : k < xs.length := by rw [← HN.out]; exact hlt
      obtain rfl := HS.out.at_ (by omega)
      have hcx : wr.cell? ⟨b, off + k, none⟩ = some (.float .f64 (xs.getD k 0)) := (hbl.cell (p := ⟨b, off + k, none⟩) (HS.out.lt (by omega))).trans (HS.out.cell k hx)
      have HT := hideS (take_next (f := uV) hx)
      clear hx
      generalize xs.getD k 0 = x at hcx HT
      have hsz := hbl.size
      go_wp2_with (first
        | (go_at_call 21; refine (turned (bits_any _ _)).mono ?_; rintro e w' ⟨rfl, rfl⟩)
        | (at_builtin; refine wpList_append_own _ rfl _ _ 24 rfl w.heap.size 29 i0 (.int .u64 0) 1 8 Tryz.underlying24 hi hz0 hz1 hz2 rfl (by decide) _ _ _ rfl (hown.out.alloc _) ⟨wr.heap.size, 0, none⟩ 1 1 [uV x] rfl rfl ?c1 ?c2 ?c3 ?c4 ?c5 ?_))
      case c1 =>
        intro j u hj
        match j, hj with
        | 0, hj => simp at hj; subst hj; simp [Addr.add, uV]
      case c2 => intro u hu; simp at hu; subst hu; rfl
      case c3 => unfold maxLen; omega
      case c4 => omega
      case c5 => simp; omega
      · intro v' w1 hown' hgrow _
        have hlow := hown.out.lt
        have hb1 : Below w.heap.size w w1 := (hbl.alloc hsz _).grown hgrow (by simp; omega) (fun j hj => (hlow j hj).1)
        rw [← HT.out] at hown'
        have HO := hideS hown'
        clear hown' hown hgrow hlow
        go_wp2
        go_roundw
        case rel => exact ⟨k + 1, by omega, by simp, HO, hb1⟩
        case measure => simp [intOf]; omega
    · obtain rfl : k = n := by omega
      go_wp2
      go_ret
      have h1 := hown.out
      rw [HN.out, rowOf_all] at h1
      exact ⟨_, rfl, ⟨h1⟩, hbl⟩

theorem isS (a : Nat) (u : Int) (w : World) (hu : Hid (u = (a : Int))) (h : Hid (U64 a)) :
    Calls Tryz.prog 8 #[.float .f64 a, .int .u64 u] w fun e w' => e = .returned (.bool true) ∧ w' = w := by
  have := is_any a u w h.out (by rw [hu.out]; exact h.out)
  rw [hu.out, sameB_refl] at this
  rw [hu.out]; exact this

set_option maxHeartbeats 800000 in
theorem areS_any (B2 b off c n : Nat) (p : Option Addr) (v2 : Value) (xs : List Nat) (w : World) (h1 : Src w p b off xs) (h2 : OwnF w B2 29 uV v2 xs) (f1 : FitL xs) (hN : xs.length = n) (hn : n ≤ 200) :
    Calls Tryz.prog 17 #[.slice p n c, v2] w fun e w' => e = .returned (.bool true) ∧ ∃ q, w' = w.drewN q := by
  obtain ⟨p2, g2, c2, rfl, a2, r2⟩ := h2.shape
  have HF1 := hideS f1
  have H1 := hideS h1
  have H2 := hideS a2
  have HR2 := hideS r2
  rw [hN]
  have HN := hideS hN.symm
  clear h1 h2 f1 a2 r2 hN
  go_enter Tryz.func17, Tryz.ntmps17
  go_wp2
  go_loopw [5] (fun i wr => ∃ k : Nat, k ≤ n ∧ i = .int .i64 k ∧ Hid (∃ q, wr = w.drewN q)) (fun i _ => n - (intOf i).toNat)
  case atStart => exact ⟨0, Nat.zero_le _, rfl, ⟨0, rfl⟩⟩
  case round =>
    obtain ⟨k, hk, rfl, HQ⟩ := hrel
    by_cases hlt : k < n
    · have hx : k < xs.length := by rw [← HN.out]; exact hlt
      obtain rfl := H1.out.at_ (by omega)
      obtain rfl := (H2.out (by omega)).1
      have hc1 : wr.cell? ⟨b, off + k, none⟩ = some (.float .f64 (xs.getD k 0)) := by obtain ⟨q, e⟩ := HQ.out; rw [e]; exact H1.out.cell k hx
      have hc2 : wr.cell? ⟨g2, k, none⟩ = some (.int .u64 ((xs.getD k 0 : Nat) : Int)) := by obtain ⟨q, e⟩ := HQ.out; rw [e]; exact HR2.out k hx
      have U1 := hideS (u64_of_nat (HF1.out.get k))
      clear hx
      generalize xs.getD k 0 = x at hc1 hc2 U1
      obtain ⟨u, hu⟩ : ∃ u : Int, u = (x : Int) := ⟨_, rfl⟩
      rw [← hu] at hc2
      have HU := hideS hu
      clear hu
      go_wp2
      go_quiet ((go_at_call 8; exact Calls.quiet_of_same (isS x u _ HU U1)))
      go_wp2
      go_roundw
      case rel => exact ⟨k + 1, by omega, by simp, by obtain ⟨q, e⟩ := HQ.out; exact ⟨q + nq, by rw [e, World.drewN_drewN]⟩⟩
      case measure => simp [intOf]; omega
    · obtain rfl : k = n := by omega
      go_wp2
      go_ret
      exact ⟨rfl, HQ.out⟩

theorem cn_bind_mul (o : Option Nat) (x : Nat) : floatBits .mul .f64 (cn o) x = o.bind fun p => floatBits .mul .f64 p x := by
  cases o with
  | none => rw [cn_none, nan_left cn_nan]; rfl
  | some r => rfl
theorem cn_bind_add (o : Option Nat) (x : Nat) : floatBits .add .f64 (cn o) x = o.bind fun p => floatBits .add .f64 p x := by
  cases o with
  | none => rw [cn_none, nan_left cn_nan]; rfl
  | some r => rfl
theorem stepO_cn (x c : Nat) (o : Option Nat) : floatBits .add .f64 (cn (floatBits .mul .f64 (cn o) x)) c = stepO x o c := by
  rw [cn_bind_mul, cn_bind_add]; rfl
