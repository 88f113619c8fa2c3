/- The contract of the document's Sort: by putting in one behind the other. -/
import Derived.Test.YtkmhfjklldhfjaaSAre
import Derived.Deep.LoopGhost
import Derived.Deep.AppendLies
namespace Go.Proofs.Ytkmhfjklldhfjaa
open Go.RowKit

/-- Behind place j the list is moved on by one. -/
structure Sh (os ys : List Nat) (j k : Nat) : Prop where
  len : ys.length = k + 1
  lo : ∀ i, i < j → ys.getD i 0 = os.getD i 0
  hi : ∀ i, j ≤ i → i < k → ys.getD (i + 1) 0 = os.getD i 0
theorem getD_set_ne {l : List Nat} {i j x : Nat} (h : i ≠ j) : (l.set i x).getD j 0 = l.getD j 0 := by simp [List.getD, List.getElem?_set_ne h]
theorem getD_set_eq {l : List Nat} {i x : Nat} (h : i < l.length) : (l.set i x).getD i 0 = x := by simp [List.getD, List.getElem?_set_self h]
theorem Sh.start {os : List Nat} {x k : Nat} (h : os.length = k) : Sh os (os ++ [x]) k k := by
  refine ⟨by simp [h], fun i hi => ?_, fun i h1 h2 => by omega⟩
  simp [List.getD, List.getElem?_append_left (show i < os.length by omega)]
theorem Sh.step {os ys : List Nat} {j k : Nat} (h : Sh os ys (j + 1) k) (hk : j < k) : Sh os (ys.set (j + 1) (os.getD j 0)) j k := by
  have hl := h.len
  refine ⟨by simpa using hl, fun i hi => ?_, fun i h1 h2 => ?_⟩
  · rw [getD_set_ne (by omega)]; exact h.lo i (by omega)
  · by_cases e : i = j
    · subst e; rw [getD_set_eq (by omega)]
    · rw [getD_set_ne (by omega)]; exact h.hi i (by omega) h2
theorem Sh.done {os ys : List Nat} {j k x : Nat} (h : Sh os ys j k) (ho : os.length = k) (hj : j ≤ k) : ys.set j x = os.take j ++ x :: os.drop j := by
  have hl := h.len
  apply List.ext_getElem
  · simp; omega
  · intro i h1 h2
    have h3 : i < k + 1 := by simpa [hl] using h1
    have e1 : (ys.set j x)[i] = (ys.set j x).getD i 0 := by simp [List.getD, List.getElem?_eq_getElem h1]
    have e2 : (os.take j ++ x :: os.drop j)[i] = (os.take j ++ x :: os.drop j).getD i 0 := by simp [List.getD, List.getElem?_eq_getElem h2]
    have hlen : (os.take j).length = j := by simp; omega
    rw [e1, e2]
    by_cases c1 : i < j
    · rw [getD_set_ne (by omega), h.lo i c1]
      simp [List.getD, List.getElem?_append_left (show i < (os.take j).length by omega), c1]
    · by_cases c2 : i = j
      · subst c2
        rw [getD_set_eq (by omega)]
        simp [List.getD, hlen]
      · obtain ⟨m, rfl⟩ : ∃ m, i = m + 1 := ⟨i - 1, by omega⟩
        rw [getD_set_ne (by omega), h.hi m (by omega) (by omega)]
        have e3 : m + 1 - j = (m - j) + 1 := by omega
        simp [List.getD, List.getElem?_append_right (show (os.take j).length ≤ m + 1 by omega), hlen, e3, List.getElem?_drop, show j + (m - j) = m by omega]

/-- The row that is being built. -/
def RW (w : World) (N g cap k : Nat) (ys : List Nat) : Prop := w.ownsRow N 31 1 (.slice (some ⟨g, 0, none⟩) (k + 1) cap) (k + 1) (ys.map uV)
theorem RW.cell {w : World} {N g cap k : Nat} {ys : List Nat} (h : RW w N g cap k ys) {j : Nat} (hj : j < k + 1) (hl : ys.length = k + 1) : w.cell? ⟨g, j, none⟩ = some (.int .u64 ((ys.getD j 0 : Nat) : Int)) := by
  rw [World.ownsRow.cellAt h j (by omega), List.getElem?_map, getD_some (by omega)]; rfl
theorem RW.free {w : World} {N g cap k : Nat} {ys : List Nat} (h : RW w N g cap k ys) (j : Nat) : w.frozen? ⟨g, j, none⟩ = false := World.ownsRow.frozenAt h j
theorem RW.put {w : World} {N g cap k : Nat} {ys : List Nat} (h : RW w N g cap k ys) (j x : Nat) : RW (w.setCell ⟨g, j, none⟩ (.int .u64 (x : Int))) N g cap k (ys.set j x) ∧ w.grownBy (w.setCell ⟨g, j, none⟩ (.int .u64 (x : Int))) (some g) := by
  have h2 := World.ownsRow.stored h j (.int .u64 (x : Int))
  refine ⟨?_, h2.2⟩
  unfold RW
  rw [List.map_set]
  exact h2.1
theorem RW.drewN {w : World} {N g cap k : Nat} {ys : List Nat} (h : RW w N g cap k ys) (n : Nat) : RW (w.drewN n) N g cap k ys := h
theorem RW.ge {w : World} {N g cap k : Nat} {ys : List Nat} (h : RW w N g cap k ys) : N ≤ g ∧ g < w.heap.size := World.ownsRow.lt h g rfl

theorem below_drewS {B : Nat} {w w' : World} (h : Below B w w') (n : Nat) : Below B w (w'.drewN n) := ⟨h.1, h.2, h.3, h.4, h.5⟩

/-- What holds when the first k have been put in. -/
structure Put (N : Nat) (w wr : World) (xs os : List Nat) (v : Value) (k : Nat) : Prop where
  perm : os.Perm (xs.take k)
  up : Rising os
  len : os.length = k
  own : wr.ownsRow N 31 1 v k (os.map uV)
  bl : Below N w wr
/-- What holds while one is put in. -/
structure Mid (N : Nat) (w wr : World) (os : List Nat) (x g cap j k : Nat) : Prop where
  ex : ∃ ys, Sh os ys j k ∧ RW wr N g cap k ys
  up : ∀ i, j ≤ i → i < k → lessB x (os.getD i 0 : Nat) = true
  bl : Below N w wr

theorem Mid.drewN {N : Nat} {w wr : World} {os : List Nat} {x g cap j k : Nat} (h : Mid N w wr os x g cap j k) (n : Nat) : Mid N w (wr.drewN n) os x g cap j k := ⟨h.ex, h.up, below_drewS h.bl n⟩
theorem Mid.step {N : Nat} {w wr : World} {os : List Nat} {x y g cap j k : Nat} (h : Mid N w wr os x g cap (j + 1) k) (hk : j < k) (hy : y = os.getD j 0) (hl : lessB x (y : Nat) = true) :
    Mid N w (wr.setCell ⟨g, j + 1, none⟩ (.int .u64 (y : Int))) os x g cap j k := by
  obtain ⟨ys, hs, hr⟩ := h.ex
  have h2 := hr.put (j + 1) y
  rw [hy] at h2
  subst hy
  refine ⟨⟨_, hs.step hk, h2.1⟩, fun i h1 h3 => ?_, h.bl.grown h2.2 (by have := hr.ge; omega) (fun i hi => by cases hi; exact hr.ge.1)⟩
  by_cases e : i = j
  · rw [e]; exact hl
  · exact h.up i (by omega) h3
theorem Mid.cell {N : Nat} {w wr : World} {os : List Nat} {x g cap j k : Nat} (h : Mid N w wr os x g cap (j + 1) k) (hk : j < k) : wr.cell? ⟨g, j, none⟩ = some (.int .u64 ((os.getD j 0 : Nat) : Int)) := by
  obtain ⟨ys, hs, hr⟩ := h.ex
  rw [hr.cell (by omega) hs.len, hs.lo j (by omega)]
theorem Mid.here {N : Nat} {w wr : World} {os : List Nat} {x g cap j k : Nat} (h : Mid N w wr os x g cap j k) (hk : j ≤ k) : ∃ z : Value, wr.cell? ⟨g, j, none⟩ = some z ∧ wr.frozen? ⟨g, j, none⟩ = false := by
  obtain ⟨ys, hs, hr⟩ := h.ex
  exact ⟨_, hr.cell (by omega) hs.len, hr.free j⟩

theorem Mid.done {N : Nat} {w wr : World} {xs os : List Nat} {x g cap j k : Nat} (h : Mid N w wr os x g cap j k) (hj : j ≤ k) (hp : os.Perm (xs.take k)) (hu : Rising os) (hl : os.length = k) (hx : x = xs.getD k 0) (hk : k < xs.length)
    (hlo : j = 0 ∨ lessB x (os.getD (j - 1) 0 : Nat) = false) : ∃ os', Put N w (wr.setCell ⟨g, j, none⟩ (.int .u64 (x : Int))) xs os' (.slice (some ⟨g, 0, none⟩) (k + 1) cap) (k + 1) := by
  obtain ⟨ys, hs, hr⟩ := h.ex
  have h2 := hr.put j x
  rw [hs.done hl hj] at h2
  refine ⟨os.take j ++ x :: os.drop j, ?_, rising_insert hu (by omega) hlo (fun i h1 h3 => h.up i h1 (by omega)), by simp; omega, h2.1, h.bl.grown h2.2 (by have := hr.ge; omega) (fun i hi => by cases hi; exact hr.ge.1)⟩
  refine (perm_insert os x j).trans ?_
  rw [List.take_add_one, getD_some hk, ← hx]
  exact hp.append_right _

theorem news_one (w : World) (x : Nat) (t : Nat) : ∀ j u, [uV x][j]? = some u → (w.alloc (.cells #[.int .u64 (x : Int)] t)).cell? ((⟨w.heap.size, 0, none⟩ : Addr).add j) = some u := by
  intro j u hj
  match j, hj with
  | 0, hj => simp at hj; subst hj; simp [Addr.add, uV]

set_option maxHeartbeats 1600000 in
theorem refSort_any (B : Nat) (v0 : Value) (xs : List Nat) (w : World) (h1 : OwnF w B 31 uV v0 xs) (hf : Fit xs) (hn : xs.length ≤ 200) :
    Calls Try.prog 6 #[v0] w fun e w' => ∃ v os, e = .returned v ∧ os.Perm xs ∧ Rising os ∧ OwnF w' w.heap.size 31 uV v os ∧ Below w.heap.size w w' := by
  obtain ⟨i0, hi, hz0, hz1, hz2⟩ := info_parts infoU
  obtain ⟨p, gs, c, rfl, a1, r1⟩ := h1.shape
  have HF := hideS hf
  have H1 := hideS a1
  have HR := hideS r1
  clear h1 hf a1 r1
  obtain ⟨n, hN⟩ : ∃ n, n = xs.length := ⟨_, rfl⟩
  have HN := hideS hN
  rw [← hN] at hn ⊢
  clear hN
  go_enter Try.func6, Try.ntmps6
  go_wp2
  go_loopg [3, 4] n (fun m v i wr => ∃ k : Nat, k ≤ n ∧ m = n - k ∧ i = .int .i64 k ∧ Hid (∃ os, Put w.heap.size w wr xs os v k))
  case atStart => exact ⟨0, Nat.zero_le _, by omega, rfl, ⟨[], by simp, List.Pairwise.nil, rfl, World.ownsRow_nil _ _ _ _, Below.refl _ _⟩⟩
  case round =>
    obtain ⟨k, hk, rfl, rfl, HO⟩ := hrel
    obtain ⟨os, hP⟩ := HO.out
    by_cases hlt : k < n
    · have hx : k < xs.length := by rw [← HN.out]; exact hlt
      obtain ⟨hp, hgs, hgw⟩ := H1.out (by omega)
      subst hp
      have HX : Hid (k < xs.length) := hx
      have hc0 : w.cell? ⟨gs, k, none⟩ = some (.int .u64 ((xs.getD k 0 : Nat) : Int)) := HR.out k hx
      have HU := hideS (HF.out.get hx)
      have hown := hP.own
      have hlen := hP.len
      have hbl := hP.bl
      have HP := hideS (And.intro hP.perm hP.up)
      obtain ⟨pv, gv, cv, hv, _, _⟩ := (OwnF.mk (w := wr) (B := w.heap.size) (t := 31) (f := uV) (v := u3) (xs := os) (by rw [hlen]; exact hown)).shape
      rw [hlen] at hv
      subst hv
      have hcx : wr.cell? ⟨gs, k, none⟩ = some (.int .u64 ((xs.getD k 0 : Nat) : Int)) := (hbl.cell (p := ⟨gs, k, none⟩) hgw).trans hc0
      have hsz := hbl.size
      clear hx
      generalize hxe : xs.getD k 0 = x at hcx hc0 HU
      have HXE := hideS hxe.symm
      have HL := hideS hlen
      have HC0 := hideS hc0
      have HOW := hideS hown
      clear hxe hlen hc0 hown hP HO
      go_wp2_with (at_builtin; refine wpList_append_lies _ rfl _ _ 24 rfl w.heap.size 31 i0 (.int .u64 0) 1 8 Try.underlying24 hi hz0 hz1 hz2 rfl (by decide) _ k (os.map uV) rfl (HOW.out.alloc _) ⟨wr.heap.size, 0, none⟩ 1 1 [uV x] rfl rfl (news_one _ _ _) (by intro u hu; simp at hu; subst hu; rfl) (by decide) (by unfold maxLen; omega) (by omega) (by simp; omega) (wr.heap.size + 1) (by simp) ?_; intro g cap w1 hown1 hgrow hat hlt1)
      have hlow := HOW.out.lt
      have hb1 : Below w.heap.size w w1 := (hbl.alloc hsz _).grown hgrow (by simp; omega) (fun j hj => (hlow j hj).1)
      have HM : Hid (Mid w.heap.size w w1 os x g cap k k) := ⟨⟨os ++ [x], Sh.start HL.out, by unfold RW; rw [List.map_append]; exact hown1⟩, fun i h3 h4 => by omega, hb1⟩
      clear hown1 hgrow hlow hb1 hlt1 hcx hat
      go_wp2
      go_loopg [5] k (fun m kk wr2 => ∃ j : Nat, m = j ∧ j ≤ k ∧ kk = .int .i64 j ∧ Hid (Mid w.heap.size w wr2 os x g cap j k))
      case atStart => exact ⟨k, rfl, Nat.le_refl _, rfl, HM⟩
      case round =>
        clear HM
        obtain ⟨j, hgj, hj, rfl, HM⟩ := hrel
        have HG := hideS hgj
        clear hgj
        have hcs : wr.cell? ⟨gs, k, none⟩ = some (.int .u64 (x : Int)) := (HM.out.bl.cell (p := ⟨gs, k, none⟩) hgw).trans HC0.out
        obtain ⟨z, hcz, hfz⟩ := HM.out.here hj
        cases j with
        | zero =>
          go_wp2
          go_quiet (fail)
          go_wp2
          go_roundg (n - (k + 1))
          case measure => omega
          case rel =>
            refine ⟨k + 1, by omega, rfl, by simp, ?_⟩
            exact (HM.out.drewN nq).done (Nat.zero_le _) HP.out.1 HP.out.2 HL.out HXE.out HX.out (Or.inl rfl)
        | succ j =>
          have hcy := HM.out.cell (by omega)
          have HUY : Hid (U64 ((os.getD j 0 : Nat) : Int)) := Fit.get (l := os) (Fit.perm (fun z hz => HF.out z (List.mem_of_mem_take hz)) HP.out.1) (by rw [HL.out]; omega)
          generalize hye : os.getD j 0 = y at hcy HUY
          have HYE := hideS hye.symm
          clear hye
          cases hls : lessB x y
          · have HLS := hideS hls
            have cL := fun w => refLess_any x y w HU.out HUY.out
            rw [hls] at cL
            clear hls
            go_wp2
            go_quiet ((go_at_call 9; exact Calls.quiet_of_same (cL _)))
            go_wp2
            go_roundg (n - (k + 1))
            case measure => omega
            case rel =>
              refine ⟨k + 1, by omega, rfl, by simp, ?_⟩
              exact (HM.out.drewN nq).done hj HP.out.1 HP.out.2 HL.out HXE.out HX.out (Or.inr (by rw [show j + 1 - 1 = j from rfl, ← HYE.out]; exact HLS.out))
          · have HLS := hideS hls
            have cL := fun w => refLess_any x y w HU.out HUY.out
            rw [hls] at cL
            clear hls
            go_wp2
            go_quiet ((go_at_call 9; exact Calls.quiet_of_same (cL _)))
            go_wp2
            go_roundg j
            case measure => rw [HG.out]; omega
            case rel => exact ⟨j, rfl, by omega, by simp, (HM.out.drewN nq).step (by omega) HYE.out HLS.out⟩
    · obtain rfl : k = n := by omega
      go_wp2
      go_ret
      exact ⟨_, os, rfl, by have := hP.perm; rw [HN.out, List.take_length] at this; exact this, hP.up, ⟨by have := hP.own; rw [← hP.len] at this; exact this⟩, hP.bl⟩

end Go.Proofs.Ytkmhfjklldhfjaa
