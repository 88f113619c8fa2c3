/- Package deal: the fields of a kind, as they are made. -/
import Derived.Test.YtiiajhomdpfafaaGreatDoorProg
import Derived.Handy
import Derived.WalkMore
import Derived.Below
import Derived.BigFrame
import Derived.BigQuiet
import Derived.WalkSpells
import Derived.WalkLawsBesides
import Derived.Laws.Rows
import Derived.Laws.EntriesVeiled
namespace Go.Proofs.YtiiajhomdpfafaaGreatDoor
open Go.RowKit

theorem hidD {p : Prop} (h : p) : Hid p := h
theorem make_fnD (fn : Fn) (first cap : Array Value) (w : World) : (Instr.makeFunc fn first cap).run Tryz.prog w = .ok (.func fn first cap) w := rfl
theorem enterD {f : FuncId} {fn : Func} {c : Code} (hf : Tryz.prog.funcs[f]? = some fn) (hname : (fn.name == "runtime.NumGoroutine") = false) (hb : fn.body = some c) (args : Array Value) (w : World) :
    (callFunc f args).run Tryz.prog w = .ok (.enter f args) w := by
  have h1 : fn.name ≠ "runtime.NumGoroutine" := by simpa using hname
  simp [callFunc, hf, h1, hb]
def ptB (b : Nat) : Value := .pointer (some ⟨b, 0, none⟩)
def fnB (f : Nat) : Value := .func (.func f) #[] #[]
def numV (b : Nat) : Value := .agg #[.func (.func 69) #[] #[ptB b], .func (.func 72) #[] #[ptB b], .func (.func 74) #[] #[ptB b], .func (.func 76) #[] #[ptB b]]
theorem al_at (w : World) (o : Obj) (k : Nat) : (w.alloc o).heap[k]? = if k = w.heap.size then some o else w.heap[k]? := by
  show (w.heap.push o)[k]? = _
  rw [Array.getElem?_push]
theorem sz_al (w : World) (o : Obj) : (w.alloc o).heap.size = w.heap.size + 1 := by simp
theorem al_new {w : World} (o : Obj) (w' : World) (hb : Below (w.alloc o).heap.size (w.alloc o) w') : w'.heap[w.heap.size]? = some o := by
  rw [hb.block w.heap.size (by simp)]
  exact heap_alloc_new w o
set_option maxHeartbeats 800000 in
theorem dNumber_any (f : Nat) (w : World) :
    Calls Tryz.prog 34 #[.func (.func f) #[] #[]] w fun e w' => e = .returned (numV w.heap.size) ∧ w'.heap[w.heap.size]? = some (.cells #[fnB f] 101) ∧ Below w.heap.size w w' := by
  have hmf := make_fnD
  go_enter Tryz.func34, Tryz.ntmps34
  go_wp2_with fail
  refine bodyPost_ret (v := numV w.heap.size) (by simp [results, Tryz.results34, go_sem, numV, ptB]) rfl ⟨rfl, ?_, ?_⟩
  · exact al_new _ _ ((Below.refl _ _).alloc (Nat.le_refl _) _)
  · exact ((Below.refl _ _).alloc (Nat.le_refl _) _).alloc (by simp) _
def whoV (b : Nat) : Value := .agg #[.func (.func 113) #[] #[ptB (b + 3), ptB b], .func (.func 114) #[] #[ptB (b + 1), ptB b, ptB (b + 2)], .func (.func 115) #[] #[ptB (b + 4), ptB b], .func (.func 116) #[] #[ptB b]]
structure WhoB (b f : Nat) (lo hi : Int) (rd wr : Nat) (w : World) : Prop where
  at_ : w.heap[b]? = some (.cells #[fnB f] 93)
  lo : w.heap[b + 1]? = some (.cells #[.int .i64 lo] 3)
  hi : w.heap[b + 2]? = some (.cells #[.int .i64 hi] 3)
  rd : w.heap[b + 3]? = some (.cells #[fnB rd] 130)
  wr : w.heap[b + 4]? = some (.cells #[fnB wr] 119)
theorem lt_of_blk {w : World} {b : Nat} {o : Obj} (h : w.heap[b]? = some o) : b < w.heap.size := (Array.getElem?_eq_some_iff.1 h).1
theorem WhoB.below {b f : Nat} {lo hi : Int} {rd wr : Nat} {w w' : World} (h : WhoB b f lo hi rd wr w) (hb : Below w.heap.size w w') : WhoB b f lo hi rd wr w' :=
  ⟨(hb.block _ (lt_of_blk h.at_)).trans h.at_, (hb.block _ (lt_of_blk h.lo)).trans h.lo, (hb.block _ (lt_of_blk h.hi)).trans h.hi, (hb.block _ (lt_of_blk h.rd)).trans h.rd, (hb.block _ (lt_of_blk h.wr)).trans h.wr⟩
set_option maxHeartbeats 1600000 in
theorem dWhole_any (f : Nat) (lo hi : Int) (rd wr : Nat) (w : World) :
    Calls Tryz.prog 77 #[.func (.func f) #[] #[], .int .i64 lo, .int .i64 hi, .func (.func rd) #[] #[], .func (.func wr) #[] #[]] w fun e w' => e = .returned (whoV w.heap.size) ∧ WhoB w.heap.size f lo hi rd wr w' ∧ Below w.heap.size w w' := by
  have hmf := make_fnD
  go_enter Tryz.func77, Tryz.ntmps77
  go_wp2_with fail
  refine bodyPost_ret (v := whoV w.heap.size) (by simp [results, Tryz.results77, go_sem, whoV, ptB]) rfl ⟨rfl, ⟨?_, ?_, ?_, ?_, ?_⟩, ?_⟩
  · simp only [al_at, sz_al]; repeat rw [if_neg (by omega)]
    exact if_pos trivial
  · simp only [al_at, sz_al]; repeat rw [if_neg (by omega)]
    exact if_pos trivial
  · simp only [al_at, sz_al]; repeat rw [if_neg (by omega)]
    exact if_pos trivial
  · simp only [al_at, sz_al]; repeat rw [if_neg (by omega)]
    exact if_pos trivial
  · simp only [al_at, sz_al]; repeat rw [if_neg (by omega)]
    exact if_pos trivial
  · exact ((((((Below.refl _ _).alloc (Nat.le_refl _) _).alloc (by simp) _).alloc (by simp; omega) _).alloc (by simp; omega) _).alloc (by simp; omega) _).alloc (by simp; omega) _
def zeroF : Obj := .cells #[.nilFunc, .nilFunc, .nilFunc, .nilFunc] 98
structure ZF (g : Nat) (w : World) : Prop where
  c0 : w.cell? ⟨g, 0, none⟩ = some .nilFunc
  c1 : w.cell? ⟨g, 1, none⟩ = some .nilFunc
  c2 : w.cell? ⟨g, 2, none⟩ = some .nilFunc
  c3 : w.cell? ⟨g, 3, none⟩ = some .nilFunc
  fz : ∀ i, w.frozen? ⟨g, i, none⟩ = false
theorem zf_of {g : Nat} {w : World} (h : w.heap[g]? = some zeroF) : ZF g w := by
  unfold zeroF at h
  refine ⟨?_, ?_, ?_, ?_, fun i => by simp [World.frozen?, h]⟩ <;>
  · simp only [World.cell?, h, Option.isSome_none, Bool.false_eq_true, if_false]; rfl
def put4F (w : World) (g : Nat) (a b c d : Value) : World := (((w.setCell ⟨g, 0, none⟩ a).setCell ⟨g, 1, none⟩ b).setCell ⟨g, 2, none⟩ c).setCell ⟨g, 3, none⟩ d
theorem put4F_blk {w : World} {g : Nat} (h : w.heap[g]? = some zeroF) (a b c d : Value) : (put4F w g a b c d).heap[g]? = some (.cells #[a, b, c, d] 98) := by
  unfold zeroF at h
  have h1 : (w.setCell ⟨g, 0, none⟩ a).heap[g]? = some (.cells #[a, .nilFunc, .nilFunc, .nilFunc] 98) := (heap_setCell_same w g 0 _ _ _ h).trans rfl
  have h2 : ((w.setCell ⟨g, 0, none⟩ a).setCell ⟨g, 1, none⟩ b).heap[g]? = some (.cells #[a, b, .nilFunc, .nilFunc] 98) := (heap_setCell_same _ g 1 _ _ _ h1).trans rfl
  have h3 : (((w.setCell ⟨g, 0, none⟩ a).setCell ⟨g, 1, none⟩ b).setCell ⟨g, 2, none⟩ c).heap[g]? = some (.cells #[a, b, c, .nilFunc] 98) := (heap_setCell_same _ g 2 _ _ _ h2).trans rfl
  exact (heap_setCell_same _ g 3 _ _ _ h3).trans rfl
theorem blkF_far (w : World) (a : Addr) (u : Value) (k : Nat) (h : k ≠ a.block) : (w.setCell a u).heap[k]? = w.heap[k]? := by
  simp only [World.setCell, Array.getElem?_modify]
  rw [if_neg (by omega)]
theorem put4F_far {w : World} {g k : Nat} (a b c d : Value) (h : k ≠ g) : (put4F w g a b c d).heap[k]? = w.heap[k]? := by
  unfold put4F
  rw [blkF_far _ _ _ _ h, blkF_far _ _ _ _ h, blkF_far _ _ _ _ h, blkF_far _ _ _ _ h]
theorem put4F_bel {w : World} {g B : Nat} (a b c d : Value) (h : B ≤ g) : Below B w (put4F w g a b c d) := ((((Below.refl B w).setCell (p := ⟨g, 0, none⟩) h _).setCell (p := ⟨g, 1, none⟩) h _).setCell (p := ⟨g, 2, none⟩) h _).setCell (p := ⟨g, 3, none⟩) h _
theorem cellF_of {w : World} {g : Nat} {a b c d : Value} (h : w.heap[g]? = some (.cells #[a, b, c, d] 98)) : w.cell? ⟨g, 0, none⟩ = some a ∧ w.cell? ⟨g, 1, none⟩ = some b ∧ w.cell? ⟨g, 2, none⟩ = some c ∧ w.cell? ⟨g, 3, none⟩ = some d := by
  refine ⟨?_, ?_, ?_, ?_⟩ <;>
  · simp only [World.cell?, h, Option.isSome_none, Bool.false_eq_true, if_false]; rfl
theorem WhoB.blk {b f : Nat} {lo hi : Int} {rd wr : Nat} {w w' : World} (h : WhoB b f lo hi rd wr w) (e : ∀ k, b ≤ k → w'.heap[k]? = w.heap[k]?) : WhoB b f lo hi rd wr w' :=
  ⟨(e _ (by omega)).trans h.at_, (e _ (by omega)).trans h.lo, (e _ (by omega)).trans h.hi, (e _ (by omega)).trans h.rd, (e _ (by omega)).trans h.wr⟩
set_option maxHeartbeats 1600000 in
theorem dUpTo_any (hi : Int) (f : Nat) (w : World) :
    Calls Tryz.prog 42 #[.int .i64 hi, .func (.func f) #[] #[]] w fun e w' => e = .returned (whoV (w.heap.size + 1)) ∧ WhoB (w.heap.size + 1) f 1 hi 82 83 w' ∧ Below w.heap.size w w' := by
  go_enter Tryz.func42, Tryz.ntmps42
  go_wp2_with fail
  refine (dWhole_any f 1 hi 82 83 _).mono ?_
  rintro e w1 ⟨rfl, hw, hb⟩
  have hs : (w.alloc (.cells #[.nilFunc, .nilFunc, .nilFunc, .nilFunc] 98)).heap.size = w.heap.size + 1 := by simp
  have hz : w1.heap[w.heap.size]? = some zeroF := al_new _ _ hb
  have HZ := hidD hz
  have HW := hidD hw
  have HB := hidD (((Below.refl w.heap.size w).alloc (Nat.le_refl _) _).trans (hb.mono (by simp)))
  obtain ⟨z0, z1, z2, z3, zf⟩ := zf_of hz
  have y0 := zf 0
  have y1 := zf 1
  have y2 := zf 2
  have y3 := zf 3
  rw [hs] at HW
  clear hz hw hb zf
  rw [hs]
  unfold whoV ptB
  obtain ⟨w2, hw2⟩ : ∃ w2, put4F w1 w.heap.size (.func (.func 113) #[] #[ptB (w.heap.size + 1 + 3), ptB (w.heap.size + 1)]) (.func (.func 114) #[] #[ptB (w.heap.size + 1 + 1), ptB (w.heap.size + 1), ptB (w.heap.size + 1 + 2)]) (.func (.func 115) #[] #[ptB (w.heap.size + 1 + 4), ptB (w.heap.size + 1)]) (.func (.func 116) #[] #[ptB (w.heap.size + 1)]) = w2 := ⟨_, rfl⟩
  have hr := put4F_blk HZ.out (.func (.func 113) #[] #[ptB (w.heap.size + 1 + 3), ptB (w.heap.size + 1)]) (.func (.func 114) #[] #[ptB (w.heap.size + 1 + 1), ptB (w.heap.size + 1), ptB (w.heap.size + 1 + 2)]) (.func (.func 115) #[] #[ptB (w.heap.size + 1 + 4), ptB (w.heap.size + 1)]) (.func (.func 116) #[] #[ptB (w.heap.size + 1)])
  have HX : Hid (WhoB (w.heap.size + 1) f 1 hi 82 83 w2 ∧ Below w.heap.size w w2) := by
    rw [← hw2]
    exact ⟨HW.out.blk fun k hk => put4F_far _ _ _ _ (by omega), HB.out.trans (put4F_bel _ _ _ _ (Nat.le_refl _))⟩
  rw [hw2] at hr
  obtain ⟨q0, q1, q2, q3⟩ := cellF_of hr
  unfold put4F ptB at hw2
  unfold ptB at q0 q1 q2 q3
  go_wp2_with fail
  refine bodyPost_ret (v := whoV (w.heap.size + 1)) (by simp [results, Tryz.results42, go_sem, whoV, ptB, *]) rfl ⟨rfl, HX.out⟩
set_option maxHeartbeats 1600000 in
theorem dDay_any (f : Nat) (w : World) :
    Calls Tryz.prog 39 #[.func (.func f) #[] #[]] w fun e w' => e = .returned (whoV (w.heap.size + 1)) ∧ WhoB (w.heap.size + 1) f 0 109572 80 81 w' ∧ Below w.heap.size w w' := by
  go_enter Tryz.func39, Tryz.ntmps39
  go_wp2_with fail
  refine (dWhole_any f 0 109572 80 81 _).mono ?_
  rintro e w1 ⟨rfl, hw, hb⟩
  have hs : (w.alloc (.cells #[.nilFunc, .nilFunc, .nilFunc, .nilFunc] 98)).heap.size = w.heap.size + 1 := by simp
  have hz : w1.heap[w.heap.size]? = some zeroF := al_new _ _ hb
  have HZ := hidD hz
  have HW := hidD hw
  have HB := hidD (((Below.refl w.heap.size w).alloc (Nat.le_refl _) _).trans (hb.mono (by simp)))
  obtain ⟨z0, z1, z2, z3, zf⟩ := zf_of hz
  have y0 := zf 0
  have y1 := zf 1
  have y2 := zf 2
  have y3 := zf 3
  rw [hs] at HW
  clear hz hw hb zf
  rw [hs]
  unfold whoV ptB
  obtain ⟨w2, hw2⟩ : ∃ w2, put4F w1 w.heap.size (.func (.func 113) #[] #[ptB (w.heap.size + 1 + 3), ptB (w.heap.size + 1)]) (.func (.func 114) #[] #[ptB (w.heap.size + 1 + 1), ptB (w.heap.size + 1), ptB (w.heap.size + 1 + 2)]) (.func (.func 115) #[] #[ptB (w.heap.size + 1 + 4), ptB (w.heap.size + 1)]) (.func (.func 116) #[] #[ptB (w.heap.size + 1)]) = w2 := ⟨_, rfl⟩
  have hr := put4F_blk HZ.out (.func (.func 113) #[] #[ptB (w.heap.size + 1 + 3), ptB (w.heap.size + 1)]) (.func (.func 114) #[] #[ptB (w.heap.size + 1 + 1), ptB (w.heap.size + 1), ptB (w.heap.size + 1 + 2)]) (.func (.func 115) #[] #[ptB (w.heap.size + 1 + 4), ptB (w.heap.size + 1)]) (.func (.func 116) #[] #[ptB (w.heap.size + 1)])
  have HX : Hid (WhoB (w.heap.size + 1) f 0 109572 80 81 w2 ∧ Below w.heap.size w w2) := by
    rw [← hw2]
    exact ⟨HW.out.blk fun k hk => put4F_far _ _ _ _ (by omega), HB.out.trans (put4F_bel _ _ _ _ (Nat.le_refl _))⟩
  rw [hw2] at hr
  obtain ⟨q0, q1, q2, q3⟩ := cellF_of hr
  unfold put4F ptB at hw2
  unfold ptB at q0 q1 q2 q3
  go_wp2_with fail
  refine bodyPost_ret (v := whoV (w.heap.size + 1)) (by simp [results, Tryz.results39, go_sem, whoV, ptB, *]) rfl ⟨rfl, HX.out⟩
set_option maxHeartbeats 1600000 in
theorem dCounted_any (f : Nat) (w : World) :
    Calls Tryz.prog 37 #[.func (.func f) #[] #[]] w fun e w' => e = .returned (whoV (w.heap.size + 1)) ∧ WhoB (w.heap.size + 1) f 1 5 78 79 w' ∧ Below w.heap.size w w' := by
  go_enter Tryz.func37, Tryz.ntmps37
  go_wp2_with fail
  refine (dWhole_any f 1 5 78 79 _).mono ?_
  rintro e w1 ⟨rfl, hw, hb⟩
  have hs : (w.alloc (.cells #[.nilFunc, .nilFunc, .nilFunc, .nilFunc] 98)).heap.size = w.heap.size + 1 := by simp
  have hz : w1.heap[w.heap.size]? = some zeroF := al_new _ _ hb
  have HZ := hidD hz
  have HW := hidD hw
  have HB := hidD (((Below.refl w.heap.size w).alloc (Nat.le_refl _) _).trans (hb.mono (by simp)))
  obtain ⟨z0, z1, z2, z3, zf⟩ := zf_of hz
  have y0 := zf 0
  have y1 := zf 1
  have y2 := zf 2
  have y3 := zf 3
  rw [hs] at HW
  clear hz hw hb zf
  rw [hs]
  unfold whoV ptB
  obtain ⟨w2, hw2⟩ : ∃ w2, put4F w1 w.heap.size (.func (.func 113) #[] #[ptB (w.heap.size + 1 + 3), ptB (w.heap.size + 1)]) (.func (.func 114) #[] #[ptB (w.heap.size + 1 + 1), ptB (w.heap.size + 1), ptB (w.heap.size + 1 + 2)]) (.func (.func 115) #[] #[ptB (w.heap.size + 1 + 4), ptB (w.heap.size + 1)]) (.func (.func 116) #[] #[ptB (w.heap.size + 1)]) = w2 := ⟨_, rfl⟩
  have hr := put4F_blk HZ.out (.func (.func 113) #[] #[ptB (w.heap.size + 1 + 3), ptB (w.heap.size + 1)]) (.func (.func 114) #[] #[ptB (w.heap.size + 1 + 1), ptB (w.heap.size + 1), ptB (w.heap.size + 1 + 2)]) (.func (.func 115) #[] #[ptB (w.heap.size + 1 + 4), ptB (w.heap.size + 1)]) (.func (.func 116) #[] #[ptB (w.heap.size + 1)])
  have HX : Hid (WhoB (w.heap.size + 1) f 1 5 78 79 w2 ∧ Below w.heap.size w w2) := by
    rw [← hw2]
    exact ⟨HW.out.blk fun k hk => put4F_far _ _ _ _ (by omega), HB.out.trans (put4F_bel _ _ _ _ (Nat.le_refl _))⟩
  rw [hw2] at hr
  obtain ⟨q0, q1, q2, q3⟩ := cellF_of hr
  unfold put4F ptB at hw2
  unfold ptB at q0 q1 q2 q3
  go_wp2_with fail
  refine bodyPost_ret (v := whoV (w.heap.size + 1)) (by simp [results, Tryz.results37, go_sem, whoV, ptB, *]) rfl ⟨rfl, HX.out⟩
def behV (b d : Nat) : Value := .agg #[.func (.func 113) #[] #[ptB (b + 3), ptB b], .func (.func 86) #[] #[ptB d], .func (.func 115) #[] #[ptB (b + 4), ptB b], .func (.func 116) #[] #[ptB b]]
set_option maxHeartbeats 1600000 in
theorem dBehind_any (b : Nat) (w : World) :
    Calls Tryz.prog 47 #[whoV b] w fun e w' => e = .returned (behV b (w.heap.size + 2)) ∧ w'.heap[w.heap.size + 2]? = some (.cells #[.func (.func 114) #[] #[ptB (b + 1), ptB b, ptB (b + 2)]] 85) ∧ Below w.heap.size w w' := by
  have hmf := make_fnD
  unfold whoV ptB
  go_enter Tryz.func47, Tryz.ntmps47
  go_wp2_with fail
  refine bodyPost_ret (v := behV b (w.heap.size + 2)) (by simp [results, Tryz.results47, go_sem, behV, ptB]) rfl ⟨rfl, ?_, ?_⟩
  · simp only [al_at, sz_al]; exact if_pos trivial
  · exact (((Below.refl _ _).alloc (Nat.le_refl _) _).alloc (by simp) _).alloc (by simp; omega) _
end Go.Proofs.YtiiajhomdpfafaaGreatDoor
