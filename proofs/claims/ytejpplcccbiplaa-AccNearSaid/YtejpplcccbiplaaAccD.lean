/- Contracts of package acc's words: inverse, turned, size, same. -/
import Derived.Test.YtejpplcccbiplaaAccC
namespace Go.Proofs.Ytejpplcccbiplaa
open Go.RowKit

theorem made_zeros (n : Nat) : (madeCells #[.int .u64 0] n).toList = (List.replicate n 0).map uV := by
  apply List.ext_getElem
  · simp [size_madeCells]
  · intro i h1 h2
    simp [madeCells, uV, Nat.mod_one]
theorem OwnW.made (w : World) (n : Nat) (hn : n ≤ 1000000) : OwnW (w.alloc (.cells (madeCells #[.int .u64 0] n) 38)) w.heap.size (.slice (some ⟨w.heap.size, 0, none⟩) n n) (List.replicate n 0) := by
  refine ⟨?_, fun i => ?_⟩
  · have := World.ownsRow_lit (base := w.heap.size) (e := 38) (size := 1) w (madeCells #[.int .u64 0] n) n (Nat.le_refl _) (by unfold maxLen; omega) (by simp [size_madeCells])
    rw [made_zeros] at this
    simpa using this
  · show (List.replicate n 0).getD i 0 < _
    rw [List.getD, List.getElem?_replicate]
    split <;> decide
/-- One word more of a difference. -/
theorem rel_set {s : Int} {ys : List Nat} {x f : Nat → Nat} {c c' k z : Nat} (h : Rel s (fun i => ys.getD i 0) x f c k) (hk : k < ys.length) (hz : (z : Int) + s * ((c' : Int) * 18446744073709551616) = (x k : Int) + s * ((f k : Int) + c)) : Rel s (fun i => (ys.set k z).getD i 0) x f c' (k + 1) := by
  have h2 : Rel s (fun i => (ys.set k z).getD i 0) x f c k := h.congr (fun i hi => by show ys.getD i 0 = (ys.set k z).getD i 0; rw [getD_set hk, if_neg (by omega)]) (fun _ _ => rfl) (fun _ _ => rfl)
  refine h2.step ?_
  show (((ys.set k z).getD k 0 : Nat) : Int) + _ = _
  rw [getD_set hk, if_pos rfl]; exact hz

set_option maxHeartbeats 800000 in
theorem inverse_any (B : Nat) (v : Value) (xs : List Nat) (w : World) (h : OwnW w B v xs) (hn : xs.length ≤ 100000) :
    Calls Try.prog 64 #[v] w fun e w' => ∃ v' ys c, e = .returned v' ∧ OwnW w' w.heap.size v' ys ∧ ys.length = xs.length ∧ Rel (-1) (fun i => ys.getD i 0) (fun _ => 0) (fun i => xs.getD i 0) c xs.length ∧ Below w.heap.size w w' := by
  obtain ⟨p, g, c, rfl, hc1, hc2, hp, hc⟩ := h.shape
  have HC := hideS hc
  have HF := hideS h.fit
  clear h hc
  have HM := hideS (OwnW.made w xs.length (by omega))
  have HB := hideS ((Below.refl w.heap.size w).alloc (Nat.le_refl _) (.cells (madeCells #[.int .u64 0] xs.length) 38))
  have hmk := fun w => run_make_row' (P := Try.prog) 54 38 (.int .u64 0) 8 Try.underlying54 infoU rfl .i64 .i64 xs.length (by omega) (by omega) w
  generalize xs.length = n at *
  go_enter Try.func64, Try.ntmps64
  go_wp2
  clear hmk
  go_loopw [4, 5, 11] (fun b _ i wr => ∃ (k c : Nat) (ys : List Nat), k ≤ n ∧ c ≤ 1 ∧ b = .int .u64 c ∧ i = .int .i64 k ∧ Hid (OwnW wr w.heap.size (.slice (some ⟨w.heap.size, 0, none⟩) n n) ys ∧ ys.length = n ∧ Rel (-1) (fun i => ys.getD i 0) (fun _ => 0) (fun i => xs.getD i 0) c k ∧ Below w.heap.size w wr)) (fun _ _ i _ => n - (intOf i).toNat)
  case atStart => exact ⟨0, 0, List.replicate n 0, Nat.zero_le _, by omega, rfl, rfl, HM.out, by simp, Rel.start _ _ _ _, HB.out⟩
  case round =>
    clear HM HB
    obtain ⟨k, cy, ys, hk, hcy, rfl, rfl, HR⟩ := hrel
    by_cases hlt : k < n
    · obtain ⟨rfl, hg1, hg2⟩ := hp (by omega)
      have hcl : wr.cell? ⟨g, k, none⟩ = some (.int .u64 (xs.getD k 0 : Nat)) := (HR.out.2.2.2.cell (p := ⟨g, k, none⟩) hg2).trans (HC.out k hlt)
      have hd : wr.cell? ⟨w.heap.size, k, none⟩ = some (.int .u64 (ys.getD k 0 : Nat)) := HR.out.1.cell1 HR.out.2.1 k (by rw [HR.out.2.1]; exact hlt)
      have hfz : wr.frozen? ⟨w.heap.size, k, none⟩ = false := HR.out.1.frozen1 HR.out.2.1 k
      have hxf : xs.getD k 0 < 18446744073709551616 := HF.out k
      obtain ⟨x, hx⟩ : ∃ x, xs.getD k 0 = x := ⟨_, rfl⟩
      have HX := hideS hx
      rw [hx] at hcl hxf
      generalize ys.getD k 0 = d at hd
      obtain ⟨z, c', e1, e2, h1, h2, h3⟩ := sub64_parts 0 x cy hcy (by decide) hxf
      have ha := call_sub64 0 x cy hcy
      rw [e1, e2] at ha
      have H3 := hideS h3
      have hst := (HR.out.1.set HR.out.2.1 k z h1)
      have HST := hideS hst
      clear hst e1 e2 h3 hx hxf
      have ha0 : ∀ w, (callFunc 72 #[.int .u64 0, .int .u64 x, .int .u64 cy]).run Try.prog w = .ok (.value (.tuple #[.int .u64 z, .int .u64 c'])) w := ha
      clear ha
      go_wp2
      go_roundw
      case rel =>
        refine ⟨k + 1, c', ys.set k z, by omega, h2, rfl, by simp, HST.out.1, by rw [List.length_set]; exact HR.out.2.1, ?_, HR.out.2.2.2.setCell (Nat.le_refl _) _⟩
        refine rel_set HR.out.2.2.1 (by rw [HR.out.2.1]; exact hlt) ?_
        rw [HX.out]; exact H3.out
      case measure => simp [intOf]; omega
    · obtain rfl : k = n := by omega
      go_wp2
      go_ret
      exact ⟨_, ys, cy, rfl, HR.out.1, HR.out.2.1, HR.out.2.2.1, HR.out.2.2.2⟩

theorem settle_len (xs : List Nat) : (settle xs).length ≤ xs.length + 1 := by unfold settle; split <;> simp
set_option maxHeartbeats 400000 in
theorem turned_any (B : Nat) (v : Value) (xs : List Nat) (N : Int) (w : World) (h : OwnW w B v xs) (hs : Sg xs N) (hn : xs.length ≤ 100000) :
    Calls Try.prog 43 #[v] w fun e w' => ∃ v' ys, e = .returned v' ∧ OwnW w' w.heap.size v' ys ∧ ys.length ≤ xs.length + 1 ∧ Sg ys (-N) ∧ Below w.heap.size w w' := by
  have HI := hideS (inverse_any B v xs w h hn)
  have HS := hideS hs
  clear hs h
  go_enter Try.func43, Try.ntmps43
  go_wp2_with fail
  refine HI.out.mono ?_
  rintro e w1 ⟨v1, ys, c, rfl, ho, hl, hr, hb⟩
  have HT := hideS (settled_any w.heap.size v1 ys w1 ho (by omega) hb.size)
  have R := hideS (And.intro ho (And.intro hl (And.intro hr hb)))
  clear ho hl hr hb
  go_wp2_with fail
  refine HT.out.mono ?_
  rintro e w2 ⟨v2, rfl, ho2, hw2, hn2⟩
  have R2 := hideS (And.intro ho2 hw2)
  clear ho2 hw2 hn2
  go_wp2_with fail
  go_ret
  refine ⟨v2, settle ys, rfl, R2.out.1, ?_, sg_turned HS.out R.out.2.1 R.out.1.fit R.out.2.2.1, ?_⟩
  · have := settle_len ys; have := R.out.2.1; omega
  · exact R.out.2.2.2.trans (R2.out.2.below (fun k hk => (R.out.1.lt k hk).1) R.out.2.2.2.size)

set_option maxHeartbeats 400000 in
theorem size_any' (B : Nat) (v : Value) (xs : List Nat) (N : Int) (w : World) (h : OwnW w B v xs) (hs : Sg xs N) (hn : xs.length ≤ 100000) (hB : B ≤ w.heap.size) :
    Calls Try.prog 39 #[v] w fun e w' => ∃ v' ys, e = .returned (.tuple #[v', .bool (decide (N < 0))]) ∧ OwnW w' B v' ys ∧ ys.length = xs.length ∧ ps (fun i => ys.getD i 0) ys.length = N.natAbs ∧ Below w.heap.size w w' := by
  have HE := hideS (ends_any B v xs w h (by omega))
  have HI := hideS (inverse_any B v xs w h hn)
  have HS := hideS hs
  have HO := hideS h
  by_cases h0 : endW xs = 0
  · have hr := (hs.range (n := xs.length) (by omega)).1 h0
    have he := hs.eq
    rw [if_pos h0, wd_in (Nat.le_refl _)] at he
    have hd : decide (N < 0) = false := by simp; omega
    rw [hd]
    have HP : Hid (ps (fun i => xs.getD i 0) xs.length = N.natAbs) := by show _ = _; omega
    rw [h0] at HE
    clear hs h he hr hd h0 HI
    go_enter Try.func39, Try.ntmps39
    go_wp2_with (go_at_call 63; refine HE.out.mono ?_; rintro e w' ⟨rfl, rfl⟩)
    go_ret2
    exact ⟨v, xs, rfl, HO.out, rfl, HP.out, Below.refl _ _⟩
  · have hr := (hs.range (n := xs.length) (by omega)).2 h0
    have hd : decide (N < 0) = true := by simp; omega
    rw [hd]
    have h1 : ((endW xs : Int) == 0) = false := by simpa using h0
    have H0 := hideS h0
    clear hs h hr hd h0
    generalize (endW xs : Int) = q at *
    go_enter Try.func39, Try.ntmps39
    go_wp2_with (first | (go_at_call 63; refine (turned HE.out).mono ?_; rintro e w' ⟨rfl, rfl⟩) | (go_at_call 64; refine HI.out.mono ?_; rintro e w1 ⟨v1, ys, c, rfl, ho, hl, hr, hb⟩))
    have R := hideS (And.intro ho (And.intro hl (And.intro hr hb)))
    clear ho hl hr hb
    go_wp2
    go_ret2
    have h5 := inv_size HS.out H0.out R.out.2.1 R.out.1.fit R.out.2.2.1
    refine ⟨v1, ys, rfl, ⟨?_, R.out.1.fit⟩, R.out.2.1, by omega, R.out.2.2.2⟩
    refine ⟨R.out.1.own.1, ?_⟩
    rcases R.out.1.own.2 with h6 | ⟨g, cap, cur, h6, h7, rest⟩
    · exact .inl h6
    · exact .inr ⟨g, cap, cur, h6, Nat.le_trans hB h7, rest⟩

set_option maxHeartbeats 800000 in
theorem sameW_any (B B' : Nat) (v u : Value) (xs ys : List Nat) (N M : Int) (w : World) (h : OwnW w B v xs) (h' : OwnW w B' u ys) (hs : Sg xs N) (hs' : Sg ys M) (hn : xs.length ≤ 100000) (hn' : ys.length ≤ 100000) :
    Calls Try.prog 36 #[v, u] w fun e w' => e = .returned (.bool (decide (N = M))) ∧ w' = w := by
  have HI := hideS (hs.same hs')
  have HX := hideS (fun i (hi : i ≤ 100000) => word_any B v xs i w h (by omega) (by omega))
  have HY := hideS (fun i (hi : i ≤ 100000) => word_any B' u ys i w h' (by omega) (by omega))
  obtain ⟨p, g, c, rfl, _⟩ := h.shape
  obtain ⟨p', g', c', rfl, _⟩ := h'.shape
  obtain ⟨r, hr⟩ : ∃ r, decide (N = M) = r := ⟨_, rfl⟩
  rw [hr]
  have HR := hideS hr
  clear h h' hs hs' hr
  generalize xs.length = n at *
  generalize ys.length = m at *
  have hmax : max (n : Int) (m : Int) = ((max n m : Nat) : Int) := by omega
  obtain ⟨t, ht⟩ : ∃ t, max n m = t := ⟨_, rfl⟩
  rw [ht] at hmax HI
  have ht2 : t ≤ 100000 := by omega
  clear ht
  go_enter Try.func36, Try.ntmps36
  go_wp2
  go_loop [5, 11] (fun _ i => ∃ k : Nat, k ≤ t ∧ i = .int .i64 k ∧ Hid (∀ i, i < k → wd xs i = wd ys i)) (fun _ i => t - (intOf i).toNat)
  case atStart => exact ⟨0, Nat.zero_le _, rfl, fun i hi => absurd hi (Nat.not_lt_zero _)⟩
  case round =>
    obtain ⟨k, hk, rfl, HP⟩ := hrel
    by_cases hlt : k < t
    · have HA := hideS (HX.out k (by omega))
      have HB := hideS (HY.out k (by omega))
      by_cases he : wd xs k = wd ys k
      · have HN : Hid (∀ i, i < k + 1 → wd xs i = wd ys i) := fun i hi => by
          by_cases e : i = k
          · subst e; exact he
          · exact HP.out i (by omega)
        rw [he] at HA
        clear he
        generalize (wd ys k : Int) = q at HA HB
        go_wp2_with fail
        refine (turned HA.out).mono ?_
        rintro e w' ⟨rfl, rfl⟩
        go_wp2_with fail
        refine (turned HB.out).mono ?_
        rintro e w' ⟨rfl, rfl⟩
        go_wp2_with fail
        go_round
        case rel => exact ⟨k + 1, by omega, by simp, HN⟩
        case measure => simp [intOf]; omega
      · have HN : Hid (r = false) := by
          show _ = _
          rw [← HR.out, decide_eq_false_iff_not]
          intro e
          exact he (HI.out.1 e k hlt)
        have h1 : ((wd xs k : Int) == (wd ys k : Int)) = false := by simp; omega
        clear he
        generalize (wd xs k : Int) = q at HA h1
        generalize (wd ys k : Int) = q2 at HB h1
        go_wp2_with fail
        refine (turned HA.out).mono ?_
        rintro e w' ⟨rfl, rfl⟩
        go_wp2_with fail
        refine (turned HB.out).mono ?_
        rintro e w' ⟨rfl, rfl⟩
        go_wp2_with fail
        go_ret
        exact ⟨ret_bool HN.out.symm, rfl⟩
    · obtain rfl : k = t := by omega
      have HN : Hid (r = true) := by
        show _ = _
        rw [← HR.out, decide_eq_true_eq]
        exact HI.out.2 HP.out
      go_wp2
      go_ret
      exact ⟨ret_bool HN.out.symm, rfl⟩
end Go.Proofs.Ytejpplcccbiplaa
