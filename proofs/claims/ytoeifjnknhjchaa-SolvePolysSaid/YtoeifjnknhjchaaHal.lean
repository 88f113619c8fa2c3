/- What floats tell fits 64 bits; the contracts of tenorlaw1.Bits, tenorlaw1.Are and of the document's Horner. The walk of FnHorners: any coefficients, any float. -/
import Derived.Test.YtoeifjnknhjchaaHak
import Derived.Test.YtoeifjnknhjchaaHag
namespace Go.Proofs.Ytoeifjnknhjchaa
open Go.RowKit

theorem wrd_lt {s : Bool} {r : Nat} (h : r ≤ 9218868437227405312) : wrd s r < 18446744073709551616 := by unfold wrd; split <;> omega
theorem write_lt (d : Ieee.Datum) (h : ∀ s f, d ≠ .nan s f) : Ieee.double.write d < 18446744073709551616 := by
  cases d with
  | nan s f => exact absurd rfl (h s f)
  | infinity s => rw [write_inf]; exact wrd_lt (Nat.le_refl _)
  | number s m i =>
    show Ieee.double.nearest s m i < _
    by_cases h0 : m = 0
    · rw [h0, nearest_zero, word_eq]; exact wrd_lt (Nat.zero_le _)
    · rw [nearest_eq s h0, word_eq]; exact wrd_lt (Nat.min_le_right _ _)
theorem sum_ok {a b d : Ieee.Datum} (h : a.sum b = some d) : ∀ s f, d ≠ .nan s f := by
  intro s f e
  subst e
  cases a <;> cases b <;> simp [Ieee.Datum.sum] at h
theorem product_ok {a b d : Ieee.Datum} (h : a.product b = some d) : ∀ s f, d ≠ .nan s f := by
  intro s f e
  subst e
  cases a <;> cases b <;> simp [Ieee.Datum.product] at h
theorem quotient_ok {a b d : Ieee.Datum} {k : Nat} (h : a.quotient k b = some d) : ∀ s f, d ≠ .nan s f := by
  intro s f e
  subst e
  cases a <;> cases b <;> simp [Ieee.Datum.quotient] at h
  split at h
  · split at h <;> cases h
  · cases h
theorem map_lt {o : Option Ieee.Datum} {r : Nat} (ho : ∀ d, o = some d → ∀ s f, d ≠ .nan s f) (h : o.map Ieee.double.write = some r) : r < 18446744073709551616 := by
  cases o with
  | none => cases h
  | some d =>
    have : Ieee.double.write d = r := Option.some.inj h
    rw [← this]; exact write_lt d (ho d rfl)
theorem float_lt {op : BinOp} (ho : op = .add ∨ op = .sub ∨ op = .mul ∨ op = .quo) {x y r : Nat} (h : floatBits op .f64 x y = some r) : r < 18446744073709551616 := by
  rcases ho with rfl | rfl | rfl | rfl
  · exact map_lt (o := (Ieee.double.read x).sum (Ieee.double.read y)) (fun d hd => sum_ok hd) h
  · exact map_lt (o := (Ieee.double.read x).sum (Ieee.double.read y).opposite) (fun d hd => sum_ok hd) h
  · exact map_lt (o := (Ieee.double.read x).product (Ieee.double.read y)) (fun d hd => product_ok hd) h
  · exact map_lt (o := (Ieee.double.read x).quotient 54 (Ieee.double.read y)) (fun d hd => quotient_ok hd) h
theorem cn_lt {op : BinOp} (ho : op = .add ∨ op = .sub ∨ op = .mul ∨ op = .quo) (x y : Nat) : cn (floatBits op .f64 x y) < 18446744073709551616 := by
  cases h : floatBits op .f64 x y with
  | none => decide
  | some r => exact float_lt ho h
theorem cn_nan : nanB ((9221120237041090561 : Nat) : Int) = true := by decide
def FitL (l : List Nat) : Prop := ∀ x ∈ l, x < 18446744073709551616
theorem FitL.get {l : List Nat} (h : FitL l) (i : Nat) : l.getD i 0 < 18446744073709551616 := by
  by_cases hi : i < l.length
  · have e : l.getD i 0 = l[i] := by simp [List.getD, List.getElem?_eq_getElem hi]
    rw [e]; exact h _ (List.getElem_mem hi)
  · have e : l.getD i 0 = 0 := by simp [List.getD, List.getElem?_eq_none (show l.length ≤ i by omega)]
    rw [e]; decide

set_option maxHeartbeats 800000 in
theorem bitsL_any (p : Option Addr) (b off c n : Nat) (xs : List Nat) (w : World) (hs : Src w p b off xs) (hN : xs.length = n) (hn : n ≤ 200) :
    Calls Try.prog 11 #[.slice p n c] w fun e w' => ∃ v, e = .returned v ∧ OwnF w' w.heap.size 28 uV v xs ∧ Below w.heap.size w w' := by
  obtain ⟨i0, hi, hz0, hz1, hz2⟩ := info_parts infoU
  have HS := hideS hs
  have HN := hideS hN.symm
  clear hs hN
  go_enter Try.func11, Try.ntmps11
  go_wp2
  go_loopw [3, 4] (fun v i wr => ∃ k : Nat, k ≤ n ∧ i = .int .i64 k ∧ Hid (wr.ownsRow w.heap.size 28 1 v k (rowOf uV xs k)) ∧ Below w.heap.size w wr) (fun _ i _ => n - (intOf i).toNat)
  case atStart => exact ⟨0, Nat.zero_le _, rfl, World.ownsRow_nil _ _ _ _, Below.refl _ _⟩
  case round =>
    obtain ⟨k, hk, rfl, hown, hbl⟩ := hrel
    by_cases hlt : k < n
    · have hx : k < xs.length := by rw [← HN.out]; exact hlt
      obtain rfl := HS.out.at_ (by omega)
      have hcx : wr.cell? ⟨b, off + k, none⟩ = some (.float .f64 (xs.getD k 0)) := (hbl.cell (p := ⟨b, off + k, none⟩) (HS.out.lt (by omega))).trans (HS.out.cell k hx)
      have HT := hideS (take_next (f := uV) hx)
      clear hx
      generalize xs.getD k 0 = x at hcx HT
      have hsz := hbl.size
      go_wp2_with (first
        | (go_at_call 12; refine (turned (bits_any _ _)).mono ?_; rintro e w' ⟨rfl, rfl⟩)
        | (at_builtin; refine wpList_append_own _ rfl _ _ 32 rfl w.heap.size 28 i0 (.int .u64 0) 1 8 Try.underlying32 hi hz0 hz1 hz2 rfl (by decide) _ _ _ rfl (hown.out.alloc _) ⟨wr.heap.size, 0, none⟩ 1 1 [uV x] rfl rfl ?c1 ?c2 ?c3 ?c4 ?c5 ?_))
      case c1 =>
        intro j u hj
        match j, hj with
        | 0, hj => simp at hj; subst hj; simp [Addr.add, uV]
      case c2 => intro u hu; simp at hu; subst hu; rfl
      case c3 => unfold maxLen; omega
      case c4 => omega
      case c5 => simp; omega
      · intro v' w1 hown' hgrow _
        have hlow := hown.out.lt
        have hb1 : Below w.heap.size w w1 := (hbl.alloc hsz _).grown hgrow (by simp; omega) (fun j hj => (hlow j hj).1)
        rw [← HT.out] at hown'
        have HO := hideS hown'
        clear hown' hown hgrow hlow
        go_wp2
        go_roundw
        case rel => exact ⟨k + 1, by omega, by simp, HO, hb1⟩
        case measure => simp [intOf]; omega
    · obtain rfl : k = n := by omega
      go_wp2
      go_ret
      have h1 := hown.out
      rw [HN.out, rowOf_all] at h1
      exact ⟨_, rfl, ⟨h1⟩, hbl⟩

theorem cn_bind_mul (o : Option Nat) (x : Nat) : floatBits .mul .f64 (cn o) x = o.bind fun p => floatBits .mul .f64 p x := by
  cases o with
  | none => rw [cn_none, nan_left cn_nan]; rfl
  | some r => rfl
theorem cn_bind_add (o : Option Nat) (x : Nat) : floatBits .add .f64 (cn o) x = o.bind fun p => floatBits .add .f64 p x := by
  cases o with
  | none => rw [cn_none, nan_left cn_nan]; rfl
  | some r => rfl
theorem stepO_cn (x c : Nat) (o : Option Nat) : floatBits .add .f64 (cn (floatBits .mul .f64 (cn o) x)) c = stepO x o c := by
  rw [cn_bind_mul, cn_bind_add]; rfl

set_option maxHeartbeats 1600000 in
theorem refHorner_any (B n x : Nat) (v : Value) (u : Int) (cs : List Nat) (w : World) (hO : OwnF w B 28 uV v cs) (hf : FitL cs) (hu : Hid (u = (x : Int))) (h : Hid (U64 u)) (hN : cs.length = n) (hn : n ≤ 1000000) :
    Calls Try.prog 23 #[v, .int .u64 u] w fun e w' => e = .returned (.int .u64 (cn (hornO cs x) : Int)) ∧ Below w.heap.size w w' := by
  obtain ⟨p, g, c, rfl, ha, hr⟩ := hO.shape
  rw [hN]
  have HF := hideS hf
  have HN := hideS hN
  have HR := hideS hr
  by_cases h0 : n = 0
  · subst h0
    have HRes : Hid (hornO cs x = some 0) := by show _ = _; unfold hornO; rw [if_pos hN]
    rw [HRes.out]
    clear hO hf hN ha hr HR HF HN
    go_enter Try.func23, Try.ntmps23
    go_wp2
    go_ret
    exact ⟨rfl, Below.refl _ _⟩
  obtain ⟨m, rfl⟩ : ∃ m, n = m + 1 := ⟨n - 1, by omega⟩
  obtain ⟨rfl, _, hg⟩ := ha (by omega)
  have hc0 : w.cell? ⟨g, m, none⟩ = some (.int .u64 ((cs.getD m 0 : Nat) : Int)) := hr m (by omega)
  have HRes : Hid (hornO cs x = hornAt cs x m) := by show _ = _; unfold hornO; rw [if_neg (by omega), hN]; rfl
  have HA0 : Hid (((cs.getD m 0 : Nat) : Int) = (cn (hornAt cs x 0) : Int)) := by show _ = _; unfold hornAt; rw [hN]; rfl
  have HA1 : Hid (∀ i, hornAt cs x (i + 1) = stepO x (hornAt cs x i) (cs.getD (m - 1 - i) 0)) := fun i => by
    show stepO x (hornAt cs x i) (cs.getD (cs.length - 2 - i) 0) = _
    rw [hN]; rfl
  have HU0 := hideS (u64_of_nat (hf.get m))
  generalize ((cs.getD m 0 : Nat) : Int) = p0 at hc0 HA0 HU0
  rw [HRes.out]
  obtain ⟨res, hres⟩ : ∃ res : Int, (cn (hornAt cs x m) : Int) = res := ⟨_, rfl⟩
  rw [hres]
  have HRs := hideS hres
  have hm0 : ((m : Int) + 1 == 0) = false := by simp; omega
  clear hO hf hN ha hr h0 HRes hres
  go_enter Try.func23, Try.ntmps23
  go_wp2_with fail
  go_loopw [5, 6] (fun s i wr => ∃ (t a : Int), -1 ≤ t ∧ t < (m : Int) ∧ i = .int .i64 t ∧ s = .int .u64 a ∧ Hid (∃ k : Nat, (k : Int) = (m : Int) - 1 - t ∧ a = (cn (hornAt cs x k) : Int)) ∧ Hid (U64 a) ∧ Hid (Below w.heap.size w wr)) (fun _ i _ => (intOf i + 1).toNat)
  case atStart => exact ⟨(m : Int) - 1, p0, by omega, by omega, by congr 1; omega, rfl, ⟨0, by omega, HA0.out⟩, HU0, Below.refl _ _⟩
  case round =>
    obtain ⟨t, a, ht1, ht2, rfl, rfl, HK, HU, HB⟩ := hrel
    by_cases hlt : 0 ≤ t
    · obtain ⟨j, rfl⟩ := Int.eq_ofNat_of_zero_le hlt
      obtain ⟨k, hk, ha⟩ := HK.out
      have HA := hideS ha
      have hj : m - 1 - k = j := by omega
      have hjn : j < cs.length := by rw [HN.out]; omega
      have hcx : wr.cell? ⟨g, j, none⟩ = some (.int .u64 ((cs.getD j 0 : Nat) : Int)) := (HB.out.cell (p := ⟨g, j, none⟩) hg).trans (HR.out j hjn)
      have HA2 := hideS (HA1.out k)
      rw [hj] at HA2
      have HUy := hideS (u64_of_nat (HF.out.get j))
      obtain ⟨y, hy⟩ : ∃ y : Nat, cs.getD j 0 = y := ⟨_, rfl⟩
      rw [hy] at hcx HA2 HUy
      obtain ⟨yi, hyi⟩ : ∃ yi : Int, yi = (y : Int) := ⟨_, rfl⟩
      rw [← hyi] at hcx HUy
      have HYI := hideS hyi
      have hgz : g < wr.heap.size := Nat.lt_of_lt_of_le hg HB.out.size
      obtain ⟨q, hq⟩ : ∃ q : Int, q = (cn (floatBits .mul .f64 (cn (hornAt cs x k)) x) : Int) := ⟨_, rfl⟩
      obtain ⟨z, hz⟩ : ∃ z : Int, z = (cn (hornAt cs x (k + 1)) : Int) := ⟨_, rfl⟩
      have HM : Hid (∀ w, Calls Try.prog 39 #[.int .u64 a, .int .u64 u] w fun e w' => e = .returned (.int .u64 q) ∧ Below w.heap.size w w') := fun w => by rw [hq]; exact refMul_any _ x a u w HA hu HU.out h.out
      have HD : Hid (∀ w, Calls Try.prog 38 #[.int .u64 q, .int .u64 yi] w fun e w' => e = .returned (.int .u64 z) ∧ Below w.heap.size w w') := fun w => by
        have := refAdd_any (cn (floatBits .mul .f64 (cn (hornAt cs x k)) x)) y q yi w hq HYI (by rw [hq]; exact u64_of_nat (cn_lt (by simp) _ _)) HUy.out
        rw [stepO_cn, ← HA2.out, ← hz] at this
        exact this
      have HZ : Hid (z = (cn (hornAt cs x (k + 1)) : Int)) := hz
      have HUz : Hid (U64 z) := by rw [HZ.out, HA2.out, ← stepO_cn]; exact u64_of_nat (cn_lt (by simp) _ _)
      have HK2 : Hid (∃ k : Nat, (k : Int) = (m : Int) - 1 - ((j : Int) - 1) ∧ z = (cn (hornAt cs x k) : Int)) := ⟨k + 1, by omega, HZ.out⟩
      have hjm : (j : Int) < (m : Int) + 1 := by omega
      clear hq hz hyi hy hj HA2 HA hk ha hjn HK ht1
      go_wp2_with fail
      go_region_held3 (fun w' => w'.cell? ⟨g, j, none⟩ = some (.int .u64 yi)) (first | exact hcx | exact (hb3.cell (p := ⟨g, j, none⟩) hgz).trans hcx | exact (hb4.cell (p := ⟨g, j, none⟩) (Nat.lt_of_lt_of_le hgz hb3.size)).trans ((hb3.cell (p := ⟨g, j, none⟩) hgz).trans hcx) | go_keep) (first | ((go_at_call 39; refine (HM.out _).mono ?_; rintro e w3 ⟨rfl, hb3⟩)) | ((go_at_call 38; refine (HD.out _).mono ?_; rintro e w4 ⟨rfl, hb4⟩)))
      have HB3 := hideS (HB.out.drew.trans (hb3.mono (show w.heap.size ≤ wr.heap.size from HB.out.size)))
      have HB4 := hideS (HB3.out.trans (hb4.mono HB3.out.size))
      clear hb3 hb4 HB3 HM HD
      go_wp2_with fail
      go_roundw
      case rel => exact ⟨(j : Int) - 1, z, by omega, by omega, rfl, rfl, HK2, HUz, HB4⟩
      case measure => simp [intOf]
    · obtain rfl : t = -1 := by omega
      have HE : Hid (a = res) := by
        obtain ⟨k, hk, ha⟩ := HK.out
        have : k = m := by omega
        rw [← HRs.out, ← this]; exact ha
      clear HK
      go_wp2
      go_ret
      exact ⟨ret_int HE.out, HB.out⟩
end Go.Proofs.Ytoeifjnknhjchaa
namespace Go.Proofs.Ytoeifjnknhjchaa
open Go.RowKit

theorem isA (a : Nat) (u : Int) (w : World) (h : Hid (U64 a)) (h' : Hid (U64 u)) (hs : Hid (sameB (a : Int) u = true)) :
    Calls Try.prog 13 #[.float .f64 a, .int .u64 u] w fun e w' => e = .returned (.bool true) ∧ w = w' := by
  have := is_any a u w h.out h'.out
  rw [hs.out] at this
  exact this.mono fun _ _ ⟨a, b⟩ => ⟨a, b.symm⟩
theorem horn_lt {cs : List Nat} {x : Nat} (hf : FitL cs) : ∀ k q, hornAt cs x k = some q → q < 18446744073709551616
  | 0, q, h => by
    have : cs.getD (cs.length - 1) 0 = q := Option.some.inj h
    rw [← this]; exact hf.get _
  | k + 1, q, h => by
    have h2 : stepO x (hornAt cs x k) (cs.getD (cs.length - 2 - k) 0) = some q := h
    rw [← stepO_cn] at h2
    exact float_lt (by simp) h2
theorem hornO_lt {cs : List Nat} {x : Nat} (hf : FitL cs) (q : Nat) (h : hornO cs x = some q) : q < 18446744073709551616 := by
  unfold hornO at h
  split at h
  · have : 0 = q := Option.some.inj h
    omega
  · exact horn_lt hf _ q h
theorem cn_hornO_lt {cs : List Nat} {x : Nat} (hf : FitL cs) : cn (hornO cs x) < 18446744073709551616 := by
  cases h : hornO cs x with
  | none => decide
  | some q => exact hornO_lt hf q h

end Go.Proofs.Ytoeifjnknhjchaa
