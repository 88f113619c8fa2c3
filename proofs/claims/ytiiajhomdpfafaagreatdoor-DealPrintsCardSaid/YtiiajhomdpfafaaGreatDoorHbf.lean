/- Package deal: what is read of awake17's first text, word by word. Package deal: the first text of awake17 is read. Package deal: the deal of awake18 is read. Package deal: Parse of the deal of awake18. Package deal: Parse of the first text of awake17. Package deal: where the last term's flows begin; one flow more; pay. Package deal: pay and both. Package deal: flows are put in the stead of the last term's. Package deal: a word that is refused. -/
import Derived.Test.YtiiajhomdpfafaaGreatDoorHbe
import Derived.Test.YtiiajhomdpfafaaGreatDoorHay
import Derived.Test.YtiiajhomdpfafaaGreatDoorHbc
import Derived.Recover
import Derived.Tactics
import Derived.Tactics2
import Derived.Defers
import Derived.Laws.Pointers
import Derived.Test.YtiiajhomdpfafaaGreatDoorRwJ
import Derived.Test.YtiiajhomdpfafaaGreatDoorHau
namespace Go.Proofs.YtiiajhomdpfafaaGreatDoor
open Go.RowKit

def txt17 : ByteArray := ⟨#[115, 99, 97, 108, 101, 32, 48, 46, 53, 32, 98, 111, 116, 104, 32, 112, 97, 121, 32, 49, 32, 49, 32, 50, 48, 51, 48, 45, 48, 49, 45, 48, 49, 32, 103, 105, 118, 101, 32, 112, 97, 121, 32, 51, 32, 50, 32, 50, 48, 51, 49, 45, 48, 49, 45, 48, 49]⟩
theorem wr17_0 : WordR txt17 0 0 5 := ⟨by decide, by decide, by decide, by decide, by decide, by decide, by decide⟩
theorem wr17_1 : WordR txt17 5 6 9 := ⟨by decide, by decide, by decide, by decide, by decide, by decide, by decide⟩
theorem wr17_2 : WordR txt17 9 10 14 := ⟨by decide, by decide, by decide, by decide, by decide, by decide, by decide⟩
theorem wr17_3 : WordR txt17 14 15 18 := ⟨by decide, by decide, by decide, by decide, by decide, by decide, by decide⟩
theorem wr17_4 : WordR txt17 18 19 20 := ⟨by decide, by decide, by decide, by decide, by decide, by decide, by decide⟩
theorem wr17_5 : WordR txt17 20 21 22 := ⟨by decide, by decide, by decide, by decide, by decide, by decide, by decide⟩
theorem wr17_6 : WordR txt17 22 23 33 := ⟨by decide, by decide, by decide, by decide, by decide, by decide, by decide⟩
theorem wr17_7 : WordR txt17 33 34 38 := ⟨by decide, by decide, by decide, by decide, by decide, by decide, by decide⟩
theorem wr17_8 : WordR txt17 38 39 42 := ⟨by decide, by decide, by decide, by decide, by decide, by decide, by decide⟩
theorem wr17_9 : WordR txt17 42 43 44 := ⟨by decide, by decide, by decide, by decide, by decide, by decide, by decide⟩
theorem wr17_10 : WordR txt17 44 45 46 := ⟨by decide, by decide, by decide, by decide, by decide, by decide, by decide⟩
theorem wr17_11 : WordR txt17 46 47 57 := ⟨by decide, by decide, by decide, by decide, by decide, by decide, by decide⟩
def atP1 (k : Nat) : Nat := if k = 0 then 15 else if k = 1 then 19 else if k = 2 then 21 else 23
def poP1 (k : Nat) : Nat := if k = 0 then 18 else if k = 1 then 20 else if k = 2 then 22 else 33
def wdP1 (k : Nat) : ByteArray := if k = 0 then ⟨#[49]⟩ else if k = 1 then ⟨#[49]⟩ else day20
def vlP1 (k : Nat) : Value := if k = 0 then .float .f64 4607182418800017408 else if k = 1 then .int .i64 1 else .int .i64 47482
def tmP1 (k : Nat) : Trm := if k = 0 then ⟨2, 0, 0, 0, 0, 0, 0, 0, 0, 0, 0⟩ else if k = 1 then ⟨2, 0, 0, 4607182418800017408, 0, 0, 0, 0, 0, 0, 0⟩ else if k = 2 then ⟨2, 0, 0, 4607182418800017408, 0, 0, 0, 1, 0, 0, 0⟩ else ⟨2, 0, 0, 4607182418800017408, 0, 47482, 0, 1, 0, 0, 0⟩
def plP1 : RPlan := ⟨1, atP1, poP1, wdP1, ixP, vlP1, tmP1⟩
theorem okP1 (w0 : World) {bp op cp : Nat} (hp : PfT 7 6 10 bp op cp w0) : plP1.Ok txt17 14 w0 where
  lt := by decide
  first := by decide +kernel
  kw := wr17_3
  kx := by decide
  wr := fun k hk => by
    rcases (show k = 0 ∨ k = 1 ∨ k = 2 by have : k < 3 := hk; omega) with rfl | rfl | rfl
    · exact wr17_4
    · exact wr17_5
    · exact wr17_6
  ex := fun k hk => by
    rcases (show k = 0 ∨ k = 1 ∨ k = 2 by have : k < 3 := hk; omega) with rfl | rfl | rfl <;> decide
  tm0 := rfl
  put := fun k hk w g h => by
    rcases (show k = 0 ∨ k = 1 ∨ k = 2 by have : k < 3 := hk; omega) with rfl | rfl | rfl
    · exact h.setX 4607182418800017408
    · exact h.setI (i := 7) (by omega) (by omega) 1
    · exact h.setI (i := 5) (by omega) (by omega) 47482
  tru := fun k => by
    show TrU (tmP1 k)
    unfold tmP1
    split
    · exact ⟨by constructor <;> decide, by constructor <;> decide⟩
    split
    · exact ⟨by constructor <;> decide, by constructor <;> decide⟩
    split <;> exact ⟨by constructor <;> decide, by constructor <;> decide⟩
  fdi := fun k hk => by
    rcases (show k = 0 ∨ k = 1 ∨ k = 2 by have : k < 3 := hk; omega) with rfl | rfl | rfl
    · exact fdI_X
    · exact fdI_Cur
    · exact fdI_From
  fit := fun k hk => by
    rcases (show k = 0 ∨ k = 1 ∨ k = 2 by have : k < 3 := hk; omega) with rfl | rfl | rfl
    · exact (by decide : fdFit fdX 3 (tmP1 1) = true)
    · exact (by decide : fdFit fdCur 7 (tmP1 2) = true)
    · exact (by decide : fdFit fdFrom 5 (tmP1 3) = true)
  read := fun k hk x0 x1 x2 x3 h => by
    rcases (show k = 0 ∨ k = 1 ∨ k = 2 by have : k < 3 := hk; omega) with rfl | rfl | rfl
    · obtain ⟨b, e, hb⟩ : FdAt fdX _ _ := h
      injection e with e
      obtain ⟨rfl, _, _, _⟩ : x0 = _ ∧ x1 = _ ∧ x2 = _ ∧ x3 = _ := by simpa [numV] using e
      refine ⟨_, _, rfl, fun xs w => enterD Tryz.func69 (by kernel_rfl) rfl xs w, fun g wx hx ht => ?_⟩
      exact (readX_1 _ b g bp op cp acF2 _ wx ((hx.block _ (lt_of_blk hb)).trans hb) ht (hp.below hx)).mono fun e w' hh => ⟨hh.1, wx, Below.refl _ _, hh.2⟩
    · obtain ⟨b, e, hb⟩ : FdAt fdCur _ _ := h
      injection e with e
      obtain ⟨rfl, _, _, _⟩ : x0 = _ ∧ x1 = _ ∧ x2 = _ ∧ x3 = _ := by simpa [whoV] using e
      refine ⟨_, _, rfl, fun xs w => enterD Tryz.func113 (by kernel_rfl) rfl xs w, fun g wx hx ht => ?_⟩
      exact readWho _ b 7 _ _ g 1 8 1 true ⟨#[49]⟩ acF7 _ wx (hb.below hx) ht (by omega) (by omega) (fun xs w => enterD Tryz.func82 (by kernel_rfl) rfl xs w) (fun wy _ => int_1 wy)
    · obtain ⟨b, e, hb⟩ : FdAt fdFrom _ _ := h
      injection e with e
      obtain ⟨rfl, _, _, _⟩ : x0 = _ ∧ x1 = _ ∧ x2 = _ ∧ x3 = _ := by simpa [whoV] using e
      refine ⟨_, _, rfl, fun xs w => enterD Tryz.func113 (by kernel_rfl) rfl xs w, fun g wx hx ht => ?_⟩
      exact readWho _ b 5 _ _ g 0 109572 47482 true day20 acF5 _ wx (hb.below hx) ht (by omega) (by omega) (fun xs w => enterD Tryz.func80 (by kernel_rfl) rfl xs w) (fun wy _ => readDay_20 wy)
  sz := by decide
def atP2 (k : Nat) : Nat := if k = 0 then 39 else if k = 1 then 43 else if k = 2 then 45 else 47
def poP2 (k : Nat) : Nat := if k = 0 then 42 else if k = 1 then 44 else if k = 2 then 46 else 57
def wdP2 (k : Nat) : ByteArray := if k = 0 then ⟨#[51]⟩ else if k = 1 then ⟨#[50]⟩ else day31
def vlP2 (k : Nat) : Value := if k = 0 then .float .f64 4613937818241073152 else if k = 1 then .int .i64 2 else .int .i64 47847
def tmP2 (k : Nat) : Trm := if k = 0 then ⟨2, 0, 0, 0, 0, 0, 0, 0, 0, 0, 0⟩ else if k = 1 then ⟨2, 0, 0, 4613937818241073152, 0, 0, 0, 0, 0, 0, 0⟩ else if k = 2 then ⟨2, 0, 0, 4613937818241073152, 0, 0, 0, 2, 0, 0, 0⟩ else ⟨2, 0, 0, 4613937818241073152, 0, 47847, 0, 2, 0, 0, 0⟩
def plP2 : RPlan := ⟨1, atP2, poP2, wdP2, ixP, vlP2, tmP2⟩
theorem okP2 (w0 : World) {bp op cp : Nat} (hp : PfT 7 6 10 bp op cp w0) : plP2.Ok txt17 38 w0 where
  lt := by decide
  first := by decide +kernel
  kw := wr17_8
  kx := by decide
  wr := fun k hk => by
    rcases (show k = 0 ∨ k = 1 ∨ k = 2 by have : k < 3 := hk; omega) with rfl | rfl | rfl
    · exact wr17_9
    · exact wr17_10
    · exact wr17_11
  ex := fun k hk => by
    rcases (show k = 0 ∨ k = 1 ∨ k = 2 by have : k < 3 := hk; omega) with rfl | rfl | rfl <;> decide
  tm0 := rfl
  put := fun k hk w g h => by
    rcases (show k = 0 ∨ k = 1 ∨ k = 2 by have : k < 3 := hk; omega) with rfl | rfl | rfl
    · exact h.setX 4613937818241073152
    · exact h.setI (i := 7) (by omega) (by omega) 2
    · exact h.setI (i := 5) (by omega) (by omega) 47847
  tru := fun k => by
    show TrU (tmP2 k)
    unfold tmP2
    split
    · exact ⟨by constructor <;> decide, by constructor <;> decide⟩
    split
    · exact ⟨by constructor <;> decide, by constructor <;> decide⟩
    split <;> exact ⟨by constructor <;> decide, by constructor <;> decide⟩
  fdi := fun k hk => by
    rcases (show k = 0 ∨ k = 1 ∨ k = 2 by have : k < 3 := hk; omega) with rfl | rfl | rfl
    · exact fdI_X
    · exact fdI_Cur
    · exact fdI_From
  fit := fun k hk => by
    rcases (show k = 0 ∨ k = 1 ∨ k = 2 by have : k < 3 := hk; omega) with rfl | rfl | rfl
    · exact (by decide : fdFit fdX 3 (tmP2 1) = true)
    · exact (by decide : fdFit fdCur 7 (tmP2 2) = true)
    · exact (by decide : fdFit fdFrom 5 (tmP2 3) = true)
  read := fun k hk x0 x1 x2 x3 h => by
    rcases (show k = 0 ∨ k = 1 ∨ k = 2 by have : k < 3 := hk; omega) with rfl | rfl | rfl
    · obtain ⟨b, e, hb⟩ : FdAt fdX _ _ := h
      injection e with e
      obtain ⟨rfl, _, _, _⟩ : x0 = _ ∧ x1 = _ ∧ x2 = _ ∧ x3 = _ := by simpa [numV] using e
      refine ⟨_, _, rfl, fun xs w => enterD Tryz.func69 (by kernel_rfl) rfl xs w, fun g wx hx ht => ?_⟩
      exact (readX_3 _ b g bp op cp acF2 _ wx ((hx.block _ (lt_of_blk hb)).trans hb) ht (hp.below hx)).mono fun e w' hh => ⟨hh.1, wx, Below.refl _ _, hh.2⟩
    · obtain ⟨b, e, hb⟩ : FdAt fdCur _ _ := h
      injection e with e
      obtain ⟨rfl, _, _, _⟩ : x0 = _ ∧ x1 = _ ∧ x2 = _ ∧ x3 = _ := by simpa [whoV] using e
      refine ⟨_, _, rfl, fun xs w => enterD Tryz.func113 (by kernel_rfl) rfl xs w, fun g wx hx ht => ?_⟩
      exact readWho _ b 7 _ _ g 1 8 2 true ⟨#[50]⟩ acF7 _ wx (hb.below hx) ht (by omega) (by omega) (fun xs w => enterD Tryz.func82 (by kernel_rfl) rfl xs w) (fun wy _ => int_2 wy)
    · obtain ⟨b, e, hb⟩ : FdAt fdFrom _ _ := h
      injection e with e
      obtain ⟨rfl, _, _, _⟩ : x0 = _ ∧ x1 = _ ∧ x2 = _ ∧ x3 = _ := by simpa [whoV] using e
      refine ⟨_, _, rfl, fun xs w => enterD Tryz.func113 (by kernel_rfl) rfl xs w, fun g wx hx ht => ?_⟩
      exact readWho _ b 5 _ _ g 0 109572 47847 true day31 acF5 _ wx (hb.below hx) ht (by omega) (by omega) (fun xs w => enterD Tryz.func80 (by kernel_rfl) rfl xs w) (fun wy _ => readDay_31 wy)
  sz := by decide
def plB17 : RPlan := ⟨4, fun _ => 10, fun _ => 14, fun _ => ⟨#[]⟩, fun _ => 0, fun _ => .nilFunc, fun _ => ⟨5, 0, 0, 0, 0, 0, 0, 0, 0, 0, 0⟩⟩
theorem okB17 (w0 : World) : plB17.Ok txt17 9 w0 where
  lt := by decide
  first := by decide +kernel
  kw := wr17_2
  kx := by decide
  wr := fun k hk => absurd hk (Nat.not_lt_zero k)
  ex := fun k hk => absurd hk (Nat.not_lt_zero k)
  tm0 := rfl
  put := fun k hk => absurd hk (Nat.not_lt_zero k)
  tru := fun _ => by
    show TrU ⟨5, 0, 0, 0, 0, 0, 0, 0, 0, 0, 0⟩
    exact ⟨by constructor <;> decide, by constructor <;> decide⟩
  fdi := fun k hk => absurd hk (Nat.not_lt_zero k)
  fit := fun k hk => absurd hk (Nat.not_lt_zero k)
  read := fun k hk => absurd hk (Nat.not_lt_zero k)
  sz := by decide
def plG17 : RPlan := ⟨3, fun _ => 34, fun _ => 38, fun _ => ⟨#[]⟩, fun _ => 0, fun _ => .nilFunc, fun _ => ⟨4, 0, 0, 0, 0, 0, 0, 0, 0, 0, 0⟩⟩
theorem okG17 (w0 : World) : plG17.Ok txt17 33 w0 where
  lt := by decide
  first := by decide +kernel
  kw := wr17_7
  kx := by decide
  wr := fun k hk => absurd hk (Nat.not_lt_zero k)
  ex := fun k hk => absurd hk (Nat.not_lt_zero k)
  tm0 := rfl
  put := fun k hk => absurd hk (Nat.not_lt_zero k)
  tru := fun _ => by
    show TrU ⟨4, 0, 0, 0, 0, 0, 0, 0, 0, 0, 0⟩
    exact ⟨by constructor <;> decide, by constructor <;> decide⟩
  fdi := fun k hk => absurd hk (Nat.not_lt_zero k)
  fit := fun k hk => absurd hk (Nat.not_lt_zero k)
  read := fun k hk => absurd hk (Nat.not_lt_zero k)
  sz := by decide
def plS17 : RPlan := ⟨5, fun k => if k = 0 then 0 else 6, fun k => if k = 0 then 5 else 9, fun _ => ⟨#[48, 46, 53]⟩, fun _ => 3, fun _ => .float .f64 4602678819172646912, fun k => if k = 0 then ⟨6, 0, 0, 0, 0, 0, 0, 0, 0, 0, 0⟩ else ⟨6, 0, 0, 4602678819172646912, 0, 0, 0, 0, 0, 0, 0⟩⟩
theorem okS17 (w0 : World) {bp op cp : Nat} (hp : PfT 7 6 10 bp op cp w0) : plS17.Ok txt17 0 w0 where
  lt := by decide
  first := by decide +kernel
  kw := wr17_0
  kx := by decide
  wr := fun k hk => by
    obtain rfl : k = 0 := by have : k < 1 := hk; omega
    exact wr17_1
  ex := fun k hk => by
    obtain rfl : k = 0 := by have : k < 1 := hk; omega
    decide
  tm0 := rfl
  put := fun k hk w g h => by
    obtain rfl : k = 0 := by have : k < 1 := hk; omega
    exact h.setX 4602678819172646912
  tru := fun k => by
    show TrU (if k = 0 then _ else _)
    split <;> exact ⟨by constructor <;> decide, by constructor <;> decide⟩
  fdi := fun k hk => by
    obtain rfl : k = 0 := by have : k < 1 := hk; omega
    exact fdI_X
  fit := fun k hk => by
    obtain rfl : k = 0 := by have : k < 1 := hk; omega
    exact (by decide : fdFit fdX 3 (plS17.tm 1) = true)
  read := fun k hk x0 x1 x2 x3 h => by
    obtain rfl : k = 0 := by have : k < 1 := hk; omega
    obtain ⟨b, e, hb⟩ : FdAt fdX _ _ := h
    injection e with e
    obtain ⟨rfl, _, _, _⟩ : x0 = _ ∧ x1 = _ ∧ x2 = _ ∧ x3 = _ := by simpa [numV] using e
    refine ⟨_, _, rfl, fun xs w => enterD Tryz.func69 (by kernel_rfl) rfl xs w, fun g wx hx ht => ?_⟩
    exact (readX_05 _ b g bp op cp acF2 _ wx ((hx.block _ (lt_of_blk hb)).trans hb) ht (hp.below hx)).mono fun e w' hh => ⟨hh.1, wx, Below.refl _ _, hh.2⟩
  sz := by decide
end Go.Proofs.YtiiajhomdpfafaaGreatDoor
namespace Go.Proofs.YtiiajhomdpfafaaGreatDoor
open Go.RowKit

def ts17 : List Trm := [tmP1 3, tmP2 3, ⟨4, 1, 0, 0, 0, 0, 0, 0, 0, 0, 0⟩, ⟨5, 0, 2, 0, 0, 0, 0, 0, 0, 0, 0⟩, ⟨6, 3, 0, 4602678819172646912, 0, 0, 0, 0, 0, 0, 0⟩]
theorem term17 (b h : Nat) (u : Nat → Value) (w0 w : World) (ht : TabC h u w0) (hb0 : Below w0.heap.size w0 w) (hlb : w0.heap.size ≤ b) (hR : RdB w b txt17 (.slice (some ⟨h, 0, none⟩) 8 8) 0 0 0 (.slice none 0 0)) {bp op cp : Nat} (hp : PfT 7 6 10 bp op cp w0) :
    RdT b txt17 (.slice (some ⟨h, 0, none⟩) 8 8) w.heap.size (.slice none 0 0) 1 4 47 57 5 ts17 w :=
  termOne plS17 (i := 0) b h u 0 1 w0 w 0 (.slice none 0 0) [] w.heap.size (okS17 w0 hp) rfl ht hb0 hlb hR (ownT_nil _ _) (Nat.le_refl _) (by decide) (by decide) (by decide) (by decide) (by decide) 3 47 57 5 [tmP1 3, tmP2 3, ⟨4, 1, 0, 0, 0, 0, 0, 0, 0, 0, 0⟩, ⟨5, 0, 2, 0, 0, 0, 0, 0, 0, 0, 0⟩] (by decide) fun wx hx hr ho hB =>
    termTwo plB17 (i := 9) b h u 1 2 w0 wx 6 (.slice none 0 0) [] w.heap.size (okB17 w0) rfl ht hx hlb hr ho hB (fun j hj => by cases hj) (by decide) (by decide) (by decide) (by decide) (by decide) 0 23 33 3 [tmP1 3] (fun wy hy hr1 ho1 hB1 =>
      termLeaf plP1 (i := 14) b h u 2 3 w0 wy 10 (.slice none 0 0) [] w.heap.size (okP1 w0 hp) rfl ht hy hlb hr1 ho1 hB1 (by decide) (by decide) (by decide) (by decide)) 2 47 57 5 [tmP1 3, tmP2 3, ⟨4, 1, 0, 0, 0, 0, 0, 0, 0, 0, 0⟩] (by decide) fun v1 wy hy hr1 ho1 hB1 =>
      termOne plG17 (i := 33) b h u 3 3 w0 wy 23 v1 [tmP1 3] w.heap.size (okG17 w0) rfl ht hy hlb hr1 ho1 hB1 (by decide) (by decide) (by decide) (by decide) (by decide) 1 47 57 5 [tmP1 3, tmP2 3] (by decide) fun wz hz hr2 ho2 hB2 =>
        termLeaf plP2 (i := 38) b h u 4 4 w0 wz 34 v1 [tmP1 3] w.heap.size (okP2 w0 hp) rfl ht hz hlb hr2 ho2 hB2 (by decide) (by decide) (by decide) (by decide)
end Go.Proofs.YtiiajhomdpfafaaGreatDoor
namespace Go.Proofs.YtiiajhomdpfafaaGreatDoor
open Go.RowKit

end Go.Proofs.YtiiajhomdpfafaaGreatDoor
namespace Go.Proofs.YtiiajhomdpfafaaGreatDoor
open Go.RowKit

set_option maxRecDepth 20000 in
theorem idle18 (p1 p2 p3 : Value) (w : World) :
    CallsD Tryz.prog 24 #[p1, p2, p3] .returning w fun e u' w' => e = .returned (.tuple #[]) ∧ u' = .returning ∧ w' = w := by
  refine callsD_of_wpS Tryz.func24 rfl fun c₀ cs hu => ?_
  apply wpS_seq
  apply wpS_region
  simp [wpOpsS, go_sem, recoverD, hu, Tryz.ntmps24, Exit.thenS]
  apply wpS_seq
  apply wpS_region
  simp [wpOpsS, go_sem, recoverD, hu, Exit.thenS]
  refine wpS_cond (t := false) (by simp [Act.eval, Array.replicate]) ?_
  simp only [Bool.false_eq_true, if_false]
  refine wpS_of_wp (wp_skip ?_)
  cases c₀
  simp_all [bodyPostS, results, Tryz.results24]
structure PrB (w wr : World) : Prop where
  r0 : wr.heap[w.heap.size]? = some (.cells #[.slice none 0 0] 22)
  r1 : wr.heap[w.heap.size + 1]? = some (.cells #[.int .i64 0] 26)
  r2 : wr.heap[w.heap.size + 1 + 1]? = some (.cells #[.int .i64 0] 3)
  bl : Below w.heap.size w wr
theorem prB_at (w : World) : PrB w (((w.alloc (.cells #[.slice none 0 0] 22)).alloc (.cells #[.int .i64 0] 26)).alloc (.cells #[.int .i64 0] 3)) := by
  refine ⟨?_, ?_, ?_, (((Below.refl _ _).alloc (Nat.le_refl _) _).alloc (by simp) _).alloc (by simp; omega) _⟩
  · simp only [al_at, sz_al]; repeat rw [if_neg (by omega)]
    exact if_pos trivial
  · simp only [al_at, sz_al]; repeat rw [if_neg (by omega)]
    exact if_pos trivial
  · simp only [al_at, sz_al]; exact if_pos trivial
theorem PrB.step {w wr w' : World} (h : PrB w wr) (hb : Below wr.heap.size wr w') : PrB w w' := ⟨(hb.block _ (lt_of_blk h.r0)).trans h.r0, (hb.block _ (lt_of_blk h.r1)).trans h.r1, (hb.block _ (lt_of_blk h.r2)).trans h.r2, h.bl.trans (hb.mono h.bl.size)⟩
theorem PrB.over {w wr w' : World} {b : Nat} (h : PrB w wr) (hx : BelX b wr w') (hb : w.heap.size + 1 + 1 < b) : PrB w w' := ⟨(hx.block _ (lt_of_blk h.r0) (by omega)).trans h.r0, (hx.block _ (lt_of_blk h.r1) (by omega)).trans h.r1, (hx.block _ (lt_of_blk h.r2) (by omega)).trans h.r2, hx.below h.bl (by omega) h.bl.size⟩
theorem rdB_at (w : World) (s : ByteArray) (kv : Value) : RdB (w.alloc (.cells #[.string s, kv, .int .i64 0, .int .i64 0, .int .i64 0, .slice none 0 0] 80)) w.heap.size s kv 0 0 0 (.slice none 0 0) := heap_alloc_new _ _
end Go.Proofs.YtiiajhomdpfafaaGreatDoor
namespace Go.Proofs.YtiiajhomdpfafaaGreatDoor
open Go.RowKit

theorem belX_of_y {b : Nat} {w w' : World} (h : BelY b none w w') : BelX b w w' := ⟨h.os, h.tape, h.output, h.size, fun k hk hn => h.block k hk hn (by simp)⟩
theorem wr17_end : WordR txt17 57 57 57 := ⟨by decide, by decide, by decide, by decide, by decide, by decide, by decide⟩
set_option maxRecDepth 20000 in
set_option maxHeartbeats 6400000 in
theorem parse17 (w : World) {bp op cp : Nat} (hp : PfT 7 6 10 bp op cp w) :
    Calls Tryz.prog 14 #[.string txt17] w fun e w' => ∃ v, e = .returned (.tuple #[v, .int .i64 0, .int .i64 0]) ∧ OwnT w.heap.size v ts17 w' ∧ Below w.heap.size w w' := by
  have hmf := make_fnD
  have HP := hidD hp
  have hsz : txt17.size = 57 := rfl
  clear hp
  go_enter_defers Tryz.func14, Tryz.ntmps14
  go_wp2_with fail
  have H0 := hidD (prB_at w)
  refine (kinds_any _).mono ?_
  rintro e wk ⟨v, rfl, hv, hb⟩
  obtain ⟨h, u, rfl, ht⟩ := tab_open hv
  have H1 := hidD (H0.out.step hb)
  have HTb := hidD ht
  have hwk : w.heap.size + 1 + 1 < wk.heap.size := lt_of_blk H1.out.r2
  have HWk := hidD (show w.heap.size ≤ wk.heap.size + 1 by omega)
  clear hv hb ht H0
  have hb1 := al_bel wk (.cells #[.string txt17, .slice (some ⟨h, 0, none⟩) 8 8, .int .i64 0, .int .i64 0, .int .i64 0, .slice none 0 0] 80)
  have H2 := hidD (H1.out.step hb1)
  have ht17 := (term17 wk.heap.size h u wk _ HTb.out hb1 (Nat.le_refl _) (rdB_at wk txt17 (.slice (some ⟨h, 0, none⟩) 8 8)) (HP.out.below H1.out.bl))
  unfold RdT at ht17
  have HTm := hidD ht17
  clear ht17
  have hs2 : (wk.alloc (.cells #[.string txt17, .slice (some ⟨h, 0, none⟩) 8 8, .int .i64 0, .int .i64 0, .int .i64 0, .slice none 0 0] 80)).heap.size = wk.heap.size + 1 := by simp
  clear hb1 hsz
  go_wp2_with fail
  refine HTm.out.mono ?_
  rintro e w3 ⟨rfl, v3, hr3, ho3, _, hy3⟩
  have hx3 := belX_of_y hy3
  rw [hs2] at ho3
  have H3 := hidD (H2.out.over hx3 hwk)
  have HO3 := hidD (ho3.lower (show w.heap.size ≤ wk.heap.size + 1 by omega))
  have HWd := hidD (word_at wr17_end wk.heap.size (.slice (some ⟨h, 0, none⟩) 8 8) v3 47 5 ⟨#[]⟩ (by decide) w3 hr3 (by decide))
  obtain ⟨g3, c3, rfl⟩ := ho3.full (by decide)
  have HG3 := hidD (And.intro ho3 hr3)
  clear hr3 ho3 hx3 hy3 HTm H2 hs2
  go_wp2_with fail
  refine HWd.out.mono ?_
  rintro e w4 ⟨rfl, hr4, ho4⟩
  have H4 := hidD (H3.out.over (.of_one ho4) hwk)
  obtain ⟨_, _, q5, _⟩ := rd_cells hr4
  have hg3 : wk.heap.size + 1 ≤ g3 := HG3.out.1.base
  have HO4 := hidD (HG3.out.1.keep (w' := w4) fun k hk => by
    have : g3 = k := by simpa [Value.ownBlock] using hk
    exact ho4.out k (by omega))
  clear hr4 ho4 HWd
  have c0 := cell1_of H4.out.r0
  have c1 := cell1_of H4.out.r1
  have c2 := cell1_of H4.out.r2
  have y0 : w4.frozen? ⟨w.heap.size, 0, none⟩ = false := by simp [World.frozen?, H4.out.r0]
  have y1 : w4.frozen? ⟨w.heap.size + 1, 0, none⟩ = false := by simp [World.frozen?, H4.out.r1]
  have y2 : w4.frozen? ⟨w.heap.size + 1 + 1, 0, none⟩ = false := by simp [World.frozen?, H4.out.r2]
  obtain ⟨w5, hw5⟩ : ∃ w5, ((w4.setCell ⟨w.heap.size, 0, none⟩ (.slice (some ⟨g3, 0, none⟩) ts17.length c3)).setCell ⟨w.heap.size + 1, 0, none⟩ (.int .i64 0)).setCell ⟨w.heap.size + 1 + 1, 0, none⟩ (.int .i64 0) = w5 := ⟨_, rfl⟩
  have HE : Hid ((w5.cell? ⟨w.heap.size, 0, none⟩ = some (.slice (some ⟨g3, 0, none⟩) ts17.length c3) ∧ w5.cell? ⟨w.heap.size + 1, 0, none⟩ = some (.int .i64 0) ∧ w5.cell? ⟨w.heap.size + 1 + 1, 0, none⟩ = some (.int .i64 0)) ∧ OwnT (wk.heap.size + 1) (.slice (some ⟨g3, 0, none⟩) ts17.length c3) ts17 w5 ∧ Below w.heap.size w w5) := by
    refine ⟨⟨?_, ?_, ?_⟩, ?_, ?_⟩
    · rw [← hw5]; simp [go_sem, c0]
    · rw [← hw5]; simp [go_sem, c1]
    · rw [← hw5]; simp [go_sem, c2]
    · rw [← hw5]
      exact HO4.out.keep fun k hk => by
        have : g3 = k := by simpa [Value.ownBlock] using hk
        rw [blkF_far _ _ _ _ (by show k ≠ w.heap.size + 1 + 1; omega), blkF_far _ _ _ _ (by show k ≠ w.heap.size + 1; omega), blkF_far _ _ _ _ (by show k ≠ w.heap.size; omega)]
    · rw [← hw5]
      exact ((H4.out.bl.setCell (p := ⟨w.heap.size, 0, none⟩) (Nat.le_refl _) _).setCell (p := ⟨w.heap.size + 1, 0, none⟩) (by show w.heap.size ≤ w.heap.size + 1; omega) _).setCell (p := ⟨w.heap.size + 1 + 1, 0, none⟩) (by show w.heap.size ≤ w.heap.size + 1 + 1; omega) _
  have e3 : ts17.length = 5 := rfl
  rw [e3] at hw5 q5
  clear e3 hg3 hwk
  go_wp2_with fail
  refine leaves_cons (f := 24) (args := #[.pointer (some ⟨w.heap.size, 0, none⟩), .pointer (some ⟨w.heap.size + 1, 0, none⟩), .pointer (some ⟨w.heap.size + 1 + 1, 0, none⟩)]) (by simp) (by simp [go_sem]) ?_
  refine (idle18 _ _ _ _).mono ?_
  rintro e u' w'' ⟨rfl, rfl, rfl⟩
  obtain ⟨⟨k0, k1, k2⟩, ho, hb⟩ := HE.out
  simp [Leaves, Go.settle, results, Tryz.results14, go_sem, k0, k1, k2]
  exact ⟨ho.lower HWk.out, hb⟩
end Go.Proofs.YtiiajhomdpfafaaGreatDoor
namespace Go.Proofs.YtiiajhomdpfafaaGreatDoor
open Go.RowKit

set_option maxRecDepth 20000 in
set_option maxHeartbeats 6400000 in
theorem mLast_any (B b : Nat) (fv sv : Value) (fl : List Flw) (st : List Int) (k : Int) (w : World) (h : MnM B b fv sv fl (st ++ [k]) w) (hn : st.length ≤ 100000) :
    Calls Tryz.prog 91 #[.pointer (some ⟨b, 0, none⟩)] w fun e w' => e = .returned (.int .i64 k) ∧ ∃ q, w' = w.drewN q := by
  obtain ⟨g, c, rfl, hc, hg, c0, f0, _, _⟩ := int_last h.starts
  have r1 := h.cells.2.1
  obtain ⟨n, hL⟩ : ∃ n, st.length = n := ⟨_, rfl⟩
  rw [hL] at c0 r1 hn
  have i0 : (((n + 1 : Nat) : Int) - 1) = (n : Int) := by omega
  have i1 : (0 : Int) ≤ (n : Int) := by omega
  have i2 : (n : Int) < ((n + 1 : Nat) : Int) := by omega
  have i3 : ¬ (n : Int) + 1 ≤ (n : Int) := by omega
  clear h hc hg f0 hL
  go_enter Tryz.func91, Tryz.ntmps91
  go_wp2_with fail
  go_quiet (fail)
  go_wp2_with fail
  go_ret
  exact ⟨rfl, _, rfl⟩
def fcC (f : Flw) : Array Value := #[.int .i64 f.day, .float .f64 f.am, .int .i64 f.cur]
theorem rowF1 (f : Flw) : rowF aF [f] = (fcC f).toList := by simp [rowF, flC, fcC, aF]
theorem row_more_f {w : World} {B : Nat} {v : Value} {fl : List Flw} {f : Flw} (h : w.ownsRow B 45 3 v (fl.length + 1) (rowF aF fl ++ rowF aF [f])) : w.ownsRow B 45 3 v (fl ++ [f]).length (rowF aF (fl ++ [f])) := by
  rw [List.length_append, List.length_singleton, rowF_append]; exact h
set_option maxRecDepth 20000 in
set_option maxHeartbeats 25600000 in
theorem mAdd1_any (B b k : Nat) (fv sv : Value) (fl : List Flw) (st : List Int) (f : Flw) (w : World) (h : MnM B b fv sv fl st w) (hb : B ≤ b) (hn : fl.length < 4096) (hk : w.heap[k]? = some (.cells (fcC f) 45)) :
    Calls Tryz.prog 85 #[.pointer (some ⟨b, 0, none⟩), .slice (some ⟨k, 0, none⟩) 1 1] w fun e w' => e = .returned (.int .i64 0) ∧ (∃ v, MnM B b v sv (fl ++ [f]) st w') ∧ BelY b fv.ownBlock w w' := by
  have hbw := lt_of_blk h.box
  have HBw : Hid (B ≤ w.heap.size) := by show _ ≤ _; omega
  obtain ⟨pf, cf, gf, hfv, _⟩ := orow_src h.flows
  subst hfv
  have HBb := hidD hb
  have HN := hidD hn
  have HW1 := hidD (al_bel w (.cells (fcC f) 45))
  have H1 := hidD (h.below HW1.out)
  have HRm := hidD (mRoom_any B b _ sv fl st _ H1.out hn)
  have HX1 : Hid ((w.alloc (.cells (fcC f) 45)).heap[w.heap.size]? = some (.cells (fcC f) 45)) := heap_alloc_new _ _
  obtain ⟨f0, f1, f2⟩ : w.cell? ⟨k, 0, none⟩ = some (.int .i64 f.day) ∧ w.cell? ⟨k, 1, none⟩ = some (.float .f64 f.am) ∧ w.cell? ⟨k, 2, none⟩ = some (.int .i64 f.cur) := by
    unfold fcC at hk
    refine ⟨?_, ?_, ?_⟩ <;>
    · simp only [World.cell?, hk, Option.isSome_none, Bool.false_eq_true, if_false]; rfl
  obtain ⟨w1, hw1⟩ : ∃ w1, w.alloc (.cells (fcC f) 45) = w1 := ⟨_, rfl⟩
  obtain ⟨K, hK⟩ : ∃ K, w.heap.size = K := ⟨_, rfl⟩
  rw [hw1] at HW1 H1 HRm HX1
  rw [hK] at HX1
  unfold fcC at hw1
  have hst := store_fltD
  clear h hb hn hk hbw
  go_enter Tryz.func85, Tryz.ntmps85
  go_wp2_with fail
  refine wp_loop_rounds 2 ?_
  rw [rounds_succ]
  go_wp2_with fail
  refine HRm.out.mono ?_
  rintro e w2 ⟨rfl, hw2⟩
  obtain rfl := hw2
  obtain ⟨r0, _, rf⟩ := H1.out.cells
  have y0 := rf 0
  obtain ⟨x0, x1, x2⟩ : w2.cell? ⟨K, 0, none⟩ = some (.int .i64 f.day) ∧ w2.cell? ⟨K, 1, none⟩ = some (.float .f64 f.am) ∧ w2.cell? ⟨K, 2, none⟩ = some (.int .i64 f.cur) := by
    have hx := HX1.out
    unfold fcC at hx
    refine ⟨?_, ?_, ?_⟩ <;>
    · simp only [World.cell?, hx, Option.isSome_none, Bool.false_eq_true, if_false]; rfl
  have hb1 := lt_of_blk H1.out.box
  have hb2 : b ≠ w2.heap.size := Nat.ne_of_lt hb1
  have hK1 : K < w2.heap.size := lt_of_blk HX1.out
  have hK2 : K ≠ w2.heap.size := Nat.ne_of_lt hK1
  have HB1 : Hid (B ≤ w2.heap.size) := Nat.le_trans HBw.out (by rw [hK]; exact Nat.le_of_lt hK1)
  have HA : Hid (MnM B b (.slice pf fl.length cf) sv fl st (w2.drew.alloc (.cells (fcC f) 45))) := H1.out.below ((Below.refl _ _).drew.alloc (Nat.le_refl _) _)
  have HBA : Hid (B ≤ (w2.drew.alloc (.cells (fcC f) 45)).heap.size) := Nat.le_trans HB1.out (by simp)
  have HCA : Hid (∀ j u, (rowF aF [f])[j]? = some u → (w2.drew.alloc (.cells (fcC f) 45)).cell? ⟨w2.heap.size, j, none⟩ = some u) := fun j u hj => new_cells w2.drew (fcC f) 45 j u (by rw [← rowF1]; exact hj)
  have HR : Hid (∀ w5 v5, w5.ownsRow B 45 3 v5 (fl.length + 1) (rowF aF fl ++ rowF aF [f]) → World.grownBy (w2.drew.alloc (.cells (fcC f) 45)) w5 (Value.slice pf fl.length cf).ownBlock → w5.heap[b]? = some (.cells #[.slice pf fl.length cf, sv] 73) ∧ MnM B b v5 sv (fl ++ [f]) st (w5.setCell ⟨b, 0, none⟩ v5) ∧ BelY b (Value.slice pf fl.length cf).ownBlock w (w5.setCell ⟨b, 0, none⟩ v5)) := fun w5 v5 h5 g5 => by
    have h6 := HA.out.reflow HBb.out HBA.out g5 (fl' := fl ++ [f]) (row_more_f h5)
    have hsz : w.heap.size ≤ w2.heap.size := HW1.out.size
    exact ⟨h6.1, h6.2.1, ⟨h6.2.2.os.trans HW1.out.os, h6.2.2.tape.trans HW1.out.tape, h6.2.2.output.trans HW1.out.output, Nat.le_trans hsz (Nat.le_trans (show w2.heap.size ≤ (w2.drew.alloc (.cells (fcC f) 45)).heap.size by simp) h6.2.2.size), fun k hk hn hq => (blkF_far _ _ _ _ (show k ≠ b from hn)).trans ((g5.block k (by simp; omega) (fun e => hq e.symm)).trans (((al_bel w2.drew _).block k (Nat.lt_of_lt_of_le hk hsz)).trans (HW1.out.block k hk)))⟩⟩
  unfold fcC at HA HCA HBA HR
  clear rf f0 f1 f2 hw1 hK
  go_wp2_with fail
  go_region_law (refine step_append_h Tryz.underlying35 info_fl rfl (by decide) rfl (.tmp 23) (.tmp 25) rfl B (.slice pf fl.length cf) fl.length (rowF aF fl) rfl HA.out.flows HBA.out w2.heap.size 1 1 (rowF aF [f]) rfl rfl HCA.out (rowF_one (fun _ => rfl) _) (by have := HN.out; omega) (by have := HN.out; omega) ?_; intro v5 w5 ho5 hg5 hn5; have te := HR.out w5 v5 ho5 hg5; obtain ⟨p5, c5, g5, hv5, _, _, hp5, _⟩ := orow_src ho5; obtain rfl := hp5 (by omega); subst hv5; clear hp5; have HTE := hidD te; have q5 := (opx_cells te.1 0 rfl).1; have y5 := (opx_cells te.1 0 rfl).2; clear ho5 hg5 hn5 te)
  all_goals
    clear q5 y5
    go_wp2_with fail
    rw [rounds_succ]
    go_wp2_with fail
    go_ret
    exact ⟨rfl, ⟨_, ⟨HTE.out.2.1.box, HTE.out.2.1.flows, HTE.out.2.1.starts⟩⟩, HTE.out.2.2⟩
end Go.Proofs.YtiiajhomdpfafaaGreatDoor
namespace Go.Proofs.YtiiajhomdpfafaaGreatDoor
open Go.RowKit

set_option maxRecDepth 20000 in
set_option maxHeartbeats 12800000 in
theorem mPay_any (B b : Nat) (fv sv : Value) (fl : List Flw) (st : List Int) (t : Trm) (w : World) (h : MnM B b fv sv fl st w) (hb : B ≤ b) (hn : fl.length < 4096) (hn2 : st.length ≤ 100000) :
    Calls Tryz.prog 46 #[.pointer (some ⟨b, 0, none⟩), .agg (trC t)] w fun e w' => e = .returned (.int .i64 0) ∧ (∃ v u, MnM B b v u (fl ++ [⟨t.day, t.x, t.cur⟩]) (st ++ [(fl.length : Int)]) w') ∧ Below B w w' := by
  have hbw := lt_of_blk h.box
  have HBw : Hid (B ≤ w.heap.size) := by show _ ≤ _; omega
  have HW1 := hidD (al_bel w (.cells (trC t) 47))
  have H1 := hidD (h.below HW1.out)
  have HT1 : Hid ((w.alloc (.cells (trC t) 47)).heap[w.heap.size]? = some (.cells (trC t) 47)) := heap_alloc_new _ _
  have HBb := hidD hb
  have HN := hidD hn
  have HSt := hidD (mStart_any B b fv sv fl st _ H1.out hb hn2)
  have HBw2 := hidD hbw
  have HQs : Hid (∀ j, sv.ownBlock = some j → j < w.heap.size) := fun j hj => (h.starts.lt j hj).2
  have HQs2 : Hid (∀ j, sv.ownBlock = some j → B ≤ j ∧ j < w.heap.size) := fun j hj => h.starts.lt j hj
  have HQf2 : Hid (∀ j, fv.ownBlock = some j → B ≤ j ∧ j < w.heap.size) := fun j hj => h.flows.lt j hj
  clear h hb hn hn2 hbw
  unfold trC at H1 HT1 HW1 HSt ⊢
  go_enter Tryz.func46, Tryz.ntmps46
  go_wp2_with fail
  refine HSt.out.mono ?_
  rintro e w2 ⟨rfl, ⟨u, h2⟩, hy2⟩
  have H2 := hidD h2
  have HY2 := hidD hy2
  have hT : w.heap.size < w2.heap.size := Nat.lt_of_lt_of_le (lt_of_blk HT1.out) hy2.size
  have HT2 : Hid (w2.heap[w.heap.size]? = some (.cells (trC t) 47)) := (hy2.block _ (lt_of_blk HT1.out) (fun e => by have := HBw2.out; omega) (fun e => by have := HQs.out _ e; omega)).trans HT1.out
  obtain ⟨d0, d1, d2, d3, d4, d5, d6, d7, d8, d9, d10⟩ := trm_cells HT2.out
  have HW3 := hidD (al_bel w2 (.cells (fcC ⟨t.day, t.x, t.cur⟩) 45))
  have HAd := hidD (mAdd1_any B b w2.heap.size fv u fl (st ++ [(fl.length : Int)]) ⟨t.day, t.x, t.cur⟩ _ (h2.below HW3.out) HBb.out HN.out (heap_alloc_new _ _))
  unfold fcC at HAd HW3
  dsimp only at HAd HW3
  clear h2 hy2
  go_wp2_with fail
  refine HAd.out.mono ?_
  rintro e w4 ⟨rfl, ⟨v, h4⟩, hy4⟩
  have H4 := hidD h4
  have HB2 : Hid (Below B w w2) := HY2.out.below (HW1.out.mono HBw.out) HBb.out (fun j hj => (HQs2.out j hj).1) (Nat.le_trans HBw.out HW1.out.size)
  have HB3 : Hid (Below B w (w2.alloc (.cells #[.int .i64 t.day, .float .f64 t.x, .int .i64 t.cur] 45))) := HB2.out.trans (HW3.out.mono (Nat.le_trans HBw.out HB2.out.size))
  have HB4 : Hid (Below B w w4) := hy4.below HB3.out HBb.out (fun j hj => (HQf2.out j hj).1) (Nat.le_trans HBw.out HB3.out.size)
  clear h4 hy4
  go_wp2_with fail
  go_ret
  exact ⟨rfl, ⟨_, _, H4.out⟩, HB4.out⟩
set_option maxRecDepth 20000 in
set_option maxHeartbeats 12800000 in
theorem mBoth_any (B b : Nat) (fv sv : Value) (fl : List Flw) (st : List Int) (k : Int) (t : Trm) (w : World) (h : MnM B b fv sv fl (st ++ [k]) w) (hb : B ≤ b) (hn : st.length ≤ 100000) :
    Calls Tryz.prog 50 #[.pointer (some ⟨b, 0, none⟩), .agg (trC t)] w fun e w' => e = .returned (.int .i64 0) ∧ (∃ u, MnM B b fv u fl st w') ∧ Below B w w' := by
  have hbw := lt_of_blk h.box
  have HBw : Hid (B ≤ w.heap.size) := by show _ ≤ _; omega
  have HW1 := hidD (al_bel w (.cells (trC t) 47))
  have h1 := h.below HW1.out
  obtain ⟨g, c, rfl, hc, hg, c0, f0, hrow, _⟩ := int_last h1.starts
  have H1 := hidD h1
  have HRow := hidD hrow
  have HBb := hidD hb
  obtain ⟨_, r1, rf⟩ := h1.cells
  have y1 := rf 1
  obtain ⟨n, hL⟩ : ∃ n, st.length = n := ⟨_, rfl⟩
  have HL := hidD hL
  rw [hL] at r1 hn HRow hc
  have i0 : (((n + 1 : Nat) : Int) - 1) = (n : Int) := by omega
  have i1 : (0 : Int) ≤ (n : Int) := by omega
  have i2 : (n : Int) ≤ (c : Int) := by omega
  have i3 : ¬ (c : Int) < (n : Int) := by omega
  have i4 : n ≤ c := by omega
  have i5 : n ≤ n + 1 := by omega
  have iw : IntKind.i64.wrap (n : Int) = (n : Int) := by rw [IntKind.wrap_i64]; omega
  have HF : Hid (∀ w5, (w.alloc (.cells (trC t) 47)).setCell ⟨b, 1, none⟩ (.slice (some ⟨g, 0, none⟩) n c) = w5 → MnM B b fv (.slice (some ⟨g, 0, none⟩) n c) fl st w5 ∧ Below B w w5) := fun w5 e => by
    subst e
    have hB1 : B ≤ (w.alloc (.cells (trC t) 47)).heap.size := Nat.le_trans HBw.out HW1.out.size
    have h6 := H1.out.restart HBb.out hB1 (World.grownBy.refl _ _) (sv' := .slice (some ⟨g, 0, none⟩) n c) (st' := st) (by rw [HL.out]; exact HRow.out)
    exact ⟨h6.2.1, (HW1.out.mono HBw.out).trans h6.2.2⟩
  obtain ⟨w1, hw1⟩ : ∃ w1, w.alloc (.cells (trC t) 47) = w1 := ⟨_, rfl⟩
  rw [hw1] at HF r1 y1
  unfold trC at hw1 ⊢
  clear h h1 hb hc hg c0 f0 hrow rf hL hbw H1 HRow HW1
  go_enter Tryz.func50, Tryz.ntmps50
  go_wp2_with fail
  go_region_with (fail)
  all_goals
    obtain ⟨w5, hw5⟩ : ∃ w5, w1.setCell ⟨b, 1, none⟩ (.slice (some ⟨g, 0, none⟩) n c) = w5 := ⟨_, rfl⟩
    have HG := hidD (HF.out w5 hw5)
    rw [hw5]
    go_wp2_with fail
    go_ret
    exact ⟨rfl, ⟨_, ⟨HG.out.1.box, HG.out.1.flows, HG.out.1.starts⟩⟩, HG.out.2.drew⟩
end Go.Proofs.YtiiajhomdpfafaaGreatDoor
namespace Go.Proofs.YtiiajhomdpfafaaGreatDoor
open Go.RowKit

theorem MnM.drewN {B b : Nat} {fv sv : Value} {fl : List Flw} {st : List Int} {w : World} (h : MnM B b fv sv fl st w) (q : Nat) : MnM B b fv sv fl st (w.drewN q) := ⟨h.box, h.flows, h.starts⟩
theorem rowF_take (mk : Nat → Value) : ∀ (l : List Flw) (k : Nat), rowF mk (l.take k) = (rowF mk l).take (k * 3)
  | [], k => by simp [rowF]
  | x :: l, 0 => by simp [rowF]
  | x :: l, k + 1 => by
    have e1 : (flC mk x).length = 3 := rfl
    have e2 : (flC mk x).take ((k + 1) * 3) = flC mk x := List.take_of_length_le (by rw [e1, Nat.add_mul]; omega)
    rw [List.take_succ_cons, rowF, rowF, rowF_take mk l k, List.take_append, e1, e2, show (k + 1) * 3 - 3 = k * 3 by omega]
set_option maxRecDepth 20000 in
set_option maxHeartbeats 25600000 in
theorem mPut_any (B b k g2 c2 B2 : Nat) (fv sv : Value) (fl l : List Flw) (st : List Int) (w : World) (h : MnM B b fv sv fl (st ++ [(k : Int)]) w) (hb : B ≤ b) (hk : k ≤ fl.length) (hfl : fl.length ≤ 100000) (hll : l.length ≤ 100000) (hn : st.length ≤ 100000) (hr : w.ownsRow B2 45 3 (.slice (some ⟨g2, 0, none⟩) l.length c2) l.length (rowF aF l)) :
    Calls Tryz.prog 89 #[.pointer (some ⟨b, 0, none⟩), .slice (some ⟨g2, 0, none⟩) l.length c2] w fun e w' => e = .returned (.tuple #[]) ∧ (∃ v, MnM B b v sv (fl.take k ++ l) (st ++ [(k : Int)]) w') ∧ Below B w w' := by
  have hbw := lt_of_blk h.box
  have HBw : Hid (B ≤ w.heap.size) := by show _ ≤ _; omega
  obtain ⟨pf, cf, gf, hfv, hcf, hcm, _, hpn, _, _, htk⟩ := orow_src h.flows
  subst hfv
  have hrow := htk k hk
  rw [← rowF_take] at hrow
  have HRow : Hid (w.ownsRow B 45 3 (.slice pf k cf) k (rowF aF (fl.take k))) := hrow
  have H := hidD h
  have HBb := hidD hb
  have HL2 := hidD hr
  have HLa : Hid (Calls Tryz.prog 91 #[.pointer (some ⟨b, 0, none⟩)] w.drew fun e w' => e = .returned (.int .i64 (k : Int)) ∧ ∃ q, w' = w.drew.drewN q) := mLast_any B b _ sv fl st k w.drew ⟨h.box, h.flows, h.starts⟩ hn
  have HK : Hid (∀ q, (w.drew.drewN q).ownsRow B 45 3 (.slice pf k cf) k (rowF aF (fl.take k)) ∧ B ≤ (w.drew.drewN q).heap.size ∧ (∀ j u, (rowF aF l)[j]? = some u → (w.drew.drewN q).cell? ⟨g2, j, none⟩ = some u) ∧ ∀ w5 v5, w5.ownsRow B 45 3 v5 (k + l.length) (rowF aF (fl.take k) ++ rowF aF l) → World.grownBy (w.drew.drewN q) w5 (Value.slice pf k cf).ownBlock → w5.heap[b]? = some (.cells #[.slice pf fl.length cf, sv] 73) ∧ MnM B b v5 sv (fl.take k ++ l) (st ++ [(k : Int)]) (w5.setCell ⟨b, 0, none⟩ v5) ∧ Below B w (w5.setCell ⟨b, 0, none⟩ v5)) := fun q => by
    have HX : MnM B b (.slice pf fl.length cf) sv fl (st ++ [(k : Int)]) (w.drew.drewN q) := ⟨H.out.box, H.out.flows, H.out.starts⟩
    refine ⟨HRow.out, HBw.out, fun j u hj => ?_, fun w5 v5 h5 g5 => ?_⟩
    · have hlt := (List.getElem?_eq_some_iff.1 hj).1
      rw [HL2.out.1] at hlt
      show w.cell? ⟨g2, j, none⟩ = some u
      rw [HL2.out.cellAt j hlt]; exact hj
    · have g6 : World.grownBy (w.drew.drewN q) w5 (Value.slice pf fl.length cf).ownBlock := by cases pf <;> exact g5
      have h6 := HX.reflow HBb.out HBw.out g6 (fl' := fl.take k ++ l) (by rw [List.length_append, List.length_take, Nat.min_eq_left hk, rowF_append]; exact h5)
      exact ⟨h6.1, h6.2.1, ⟨h6.2.2.os, h6.2.2.tape, h6.2.2.output, h6.2.2.size, h6.2.2.block⟩⟩
  obtain ⟨r0, _, rf⟩ := h.cells
  have y0 := rf 0
  have i1 : (0 : Int) ≤ (k : Int) := by omega
  have i2 : (k : Int) ≤ (cf : Int) := by omega
  have i3 : ¬ (cf : Int) < (k : Int) := by omega
  have i4 : k ≤ cf := by omega
  have iw : IntKind.i64.wrap (k : Int) = (k : Int) := by rw [IntKind.wrap_i64]; omega
  have HS : Hid (k + l.length ≤ 1000000) := by show _ ≤ _; omega
  obtain ⟨n, hnL⟩ : ∃ n, fl.length = n := ⟨_, rfl⟩
  obtain ⟨m, hmL⟩ : ∃ m, l.length = m := ⟨_, rfl⟩
  have HmL := hidD hmL
  rw [hnL] at r0 HK
  rw [hmL] at HK HS ⊢
  clear h hb hk hfl hll hn hr hrow htk hcf hcm hpn hnL hmL hbw rf
  go_enter Tryz.func89, Tryz.ntmps89
  refine wp_region_late (fun xw => xw.cell? ⟨b, 0, none⟩ = some (.slice pf n cf)) (fun i => i == 12) (by kernel_rfl) ?_
  have hS0 : w.drew.cell? ⟨b, 0, none⟩ = some (.slice pf n cf) := r0
  refine anyL_take 0 (.pointer (some ⟨b, 0, none⟩)) rfl (by kernel_rfl) (by kernel_rfl) (by kernel_rfl) (by kernel_rfl) (by kernel_rfl) (fun _ _ _ h => h) (by rfl) hS0 (fun wx hS => by go_simp) ?_
  simp only [Act.put, List.setIfInBounds_toArray]
  refine anyL_take 1 (.pointer (some ⟨b, 0, none⟩)) rfl (by kernel_rfl) (by kernel_rfl) (by kernel_rfl) (by kernel_rfl) (by kernel_rfl) (fun _ _ _ h => h) (by rfl) hS0 (fun wx hS => by go_simp) ?_
  simp only [Act.put]
  refine anyL_take 2 (.pointer (some ⟨b, 0, none⟩)) rfl (by kernel_rfl) (by kernel_rfl) (by kernel_rfl) (by kernel_rfl) (by kernel_rfl) (fun _ _ _ h => h) (by rfl) hS0 (fun wx hS => by go_simp) ?_
  simp only [Act.put]
  refine anyL_take 3 (.pointer (some ⟨b, 0, none⟩)) rfl (by kernel_rfl) (by kernel_rfl) (by kernel_rfl) (by kernel_rfl) (by kernel_rfl) (fun _ _ _ h => h) (by rfl) hS0 (fun wx hS => by go_simp) ?_
  simp only [Act.put]
  refine anyL_take 4 (.slice pf n cf) rfl (by kernel_rfl) (by kernel_rfl) (by kernel_rfl) (by kernel_rfl) (by kernel_rfl) (fun _ _ _ h => h) (by rfl) hS0 (fun wx hS => by go_simp) ?_
  simp only [Act.put]
  refine anyL_take 5 (.pointer (some ⟨b, 0, none⟩)) rfl (by kernel_rfl) (by kernel_rfl) (by kernel_rfl) (by kernel_rfl) (by kernel_rfl) (fun _ _ _ h => h) (by rfl) hS0 (fun wx hS => by go_simp) ?_
  simp only [Act.put]
  refine anyL_take 8 (.slice (some ⟨g2, 0, none⟩) m c2) rfl (by kernel_rfl) (by kernel_rfl) (by kernel_rfl) (by kernel_rfl) (by kernel_rfl) (fun _ _ _ h => h) (by rfl) hS0 (fun wx hS => by go_simp) ?_
  simp only [Act.put]
  refine anyL_one (i := 6) (by kernel_rfl) ?_
  refine wpOp_step rfl (fun K1 hK1 => ?_)
  go_simp
  refine HLa.out.mono ?_
  rintro e w2 ⟨rfl, q, hq⟩
  obtain ⟨k1, k2, k3, k4⟩ := HK.out q
  rw [← hq] at k1 k2 k3 k4
  have HK1 := hidD (And.intro k1 (And.intro k2 (And.intro k3 k4)))
  have hS2 : w2.cell? ⟨b, 0, none⟩ = some (.slice pf n cf) := by rw [hq]; exact r0
  clear k1 k2 k3 k4 hq
  refine hK1 _ _ ⟨fun _ => hS2, ?_⟩
  refine anyL_one (i := 7) (by kernel_rfl) ?_
  refine wpOp_step rfl (fun K2 hK2 => ?_)
  go_simp
  refine hK2 _ _ ⟨fun _ => hS2, ?_⟩
  refine anyL_one (i := 9) (by kernel_rfl) ?_
  refine wpOp_step rfl (fun K3 hK3 => ?_)
  refine step_append_h Tryz.underlying35 info_fl rfl (by decide) rfl (.tmp 11) (.tmp 12) rfl B (.slice pf k cf) k (rowF aF (fl.take k)) rfl HK1.out.1 HK1.out.2.1 g2 m c2 (rowF aF l) rfl (by rw [rowF_len, HmL.out]) HK1.out.2.2.1 (rowF_one (fun _ => rfl) _) (by have := HS.out; omega) (by have := HS.out; omega) ?_
  intro v5 w5 ho5 hg5 hn5
  have te := HK1.out.2.2.2 w5 v5 ho5 hg5
  obtain ⟨p5, c5, g5, hv5, _⟩ := orow_src ho5
  subst hv5
  have HTE := hidD te
  have q5 := (opx_cells te.1 0 rfl).1
  have y5 := (opx_cells te.1 0 rfl).2
  clear ho5 hg5 hn5 te
  refine hK3 _ _ ⟨fun _ => q5, ?_⟩
  simp only [Act.put]
  refine anyL_one (i := 10) (by kernel_rfl) ?_
  refine wpOp_step rfl (fun K4 hK4 => ?_)
  go_simp
  refine hK4 _ _ ⟨fun _ => q5, ?_⟩
  refine anyL_one (i := 11) (by kernel_rfl) ?_
  refine wpOp_step rfl (fun K5 hK5 => ?_)
  go_simp
  refine hK5 _ _ ⟨fun _ => q5, ?_⟩
  refine anyL_one (i := 12) (by kernel_rfl) ?_
  refine wpOp_step rfl (fun K6 hK6 => ?_)
  go_simp
  refine hK6 _ _ ⟨fun h => absurd h (by decide), ?_⟩
  refine anyL_done (by kernel_rfl) ?_
  exact bodyPost_end (v := .tuple #[]) (by simp [results, Tryz.results89, go_sem]) rfl ⟨rfl, ⟨_, ⟨HTE.out.2.1.box, HTE.out.2.1.flows, HTE.out.2.1.starts⟩⟩, HTE.out.2.2⟩
end Go.Proofs.YtiiajhomdpfafaaGreatDoor
namespace Go.Proofs.YtiiajhomdpfafaaGreatDoor
open Go.RowKit

theorem refuse_any (b : Nat) {s : ByteArray} {kv tv : Value} {a n g : Int} (e0 : Int) (w : World) (hR : RdB w b s kv a n g tv) :
    Calls Tryz.prog 28 #[.pointer (some ⟨b, 0, none⟩), .int .i64 e0] w fun e w' => e = .panicked [{ v := .iface 76 (.agg #[.int .i64 e0, .int .i64 a]), recovered := false }] ∧ w' = w := by
  have c2 := (RdB.cells hR).2.1
  go_enter Tryz.func28, Tryz.ntmps28
  go_wp2
  exact ⟨rfl, rfl, rfl⟩
set_option maxRecDepth 20000 in
set_option maxHeartbeats 6400000 in
theorem rdKind_bad {s : ByteArray} {i a z : Nat} (hw : WordR s i a z) (b h : Nat) (u : Nat → Value) (tv : Value) (a0 g depth : Int) (x : ByteArray) (hx : s.extract a z = x) (hf : ∀ j < 8, ((kdG j).word.toList == x.toList) = false) (w0 w : World) (ht : TabC h u w0) (hb0 : Below w0.heap.size w0 w) (hlb : w0.heap.size ≤ b) (hR : RdB w b s (.slice (some ⟨h, 0, none⟩) 8 8) a0 i g tv) (hs : s.size ≤ 9223372036854775806) :
    Calls Tryz.prog 64 #[.pointer (some ⟨b, 0, none⟩), .int .i64 depth] w fun e w' => e = .panicked [{ v := .iface 76 (.agg #[.int .i64 170, .int .i64 a]), recovered := false }] ∧ RdB w' b s (.slice (some ⟨h, 0, none⟩) 8 8) a z g tv ∧ BelX b w w' := by
  have HO : Hid (∀ wx, TabC h u wx → Calls Tryz.prog 102 #[.slice (some ⟨h, 0, none⟩) 8 8, .string x] wx fun e w' => e = .returned (.tuple #[.agg #[.int .i64 0, .string ⟨#[]⟩, .slice none 0 0, .int .i64 0, .nilFunc], .bool false]) ∧ Below wx.heap.size wx w') := fun wx ht => (ofWord_any h u x wx ht).mono fun e w' ⟨v, he, hv, hb⟩ => by
    rcases hv with ⟨_, rfl⟩ | ⟨j, hj, h1, _⟩
    · exact ⟨he, hb⟩
    · have h2 : ((kdG j).word.toList == x.toList) = true := h1
      rw [hf j hj] at h2; cases h2
  have HW : Hid (∀ wx, RdB wx b s (.slice (some ⟨h, 0, none⟩) 8 8) a0 i g tv → Calls Tryz.prog 27 #[.pointer (some ⟨b, 0, none⟩)] wx fun e w' => e = .returned (.string x) ∧ RdB w' b s (.slice (some ⟨h, 0, none⟩) 8 8) a z g tv ∧ OneB b wx w') := fun wx hr => word_at hw b _ tv a0 g _ hx wx hr hs
  have HT := hidD (And.intro ht (And.intro hb0 hlb))
  have HR := hidD hR
  have HRS := hidD (hR.stay (al_bel w zeroK))
  have HTS := hidD (ht.below (hb0.trans ((al_bel w zeroK).mono hb0.size)))
  have hzb := heap_alloc_new w zeroK
  have HBS := hidD (BelX.of_below (b := b) (al_bel w zeroK))
  have hbw : b < w.heap.size := lt_of_blk hR
  clear ht hb0 hlb hR hf hx hw hs
  go_enter Tryz.func64, Tryz.ntmps64
  go_wp2_with fail
  have e0 : w.alloc (.cells #[.int .i64 0, .string ⟨#[]⟩, .slice none 0 0, .int .i64 0, .nilFunc] 65) = w.alloc zeroK := rfl
  rw [e0]
  have hsz : (w.alloc zeroK).heap.size = w.heap.size + 1 := by simp
  obtain ⟨wS, hwS⟩ : ∃ wS, w.alloc zeroK = wS := ⟨_, rfl⟩
  rw [hwS] at HRS HTS hzb HBS hsz ⊢
  have HZB := hidD hzb
  have c1 := (rd_cells HRS.out).1
  clear e0 hwS hzb
  have hb1 : b < wS.heap.size := by omega
  have hb2 : b ≠ wS.heap.size := Nat.ne_of_lt hb1
  have hbZ : b ≠ w.heap.size := by omega
  clear hsz
  have HWa := hidD ((HW.out (wS.drewN 1) HRS.out).mono fun e w' hh => (⟨hh.1, hh.2.1, (BelX.of_one hh.2.2).drew 1⟩ : e = .returned (.string x) ∧ RdB w' b s (.slice (some ⟨h, 0, none⟩) 8 8) a z g tv ∧ BelX b wS w'))
  have HWb := hidD ((HW.out ((wS.alloc zeroK).drewN 1) (show RdB ((wS.alloc zeroK).drewN 1) b s (.slice (some ⟨h, 0, none⟩) 8 8) a0 i g tv from (HRS.out.stay (al_bel wS zeroK) : RdB (wS.alloc zeroK) b s (.slice (some ⟨h, 0, none⟩) 8 8) a0 i g tv))).mono fun e w' hh => (⟨hh.1, hh.2.1, (BelX.of_below (al_bel wS zeroK)).trans ((BelX.of_one hh.2.2).drew 1), (hh.2.2.out _ (Ne.symm hb2)).trans (heap_alloc_new wS zeroK)⟩ : e = .returned (.string x) ∧ RdB w' b s (.slice (some ⟨h, 0, none⟩) 8 8) a z g tv ∧ BelX b wS w' ∧ w'.heap[wS.heap.size]? = some zeroK))
  unfold zeroK at HWb
  have HTx : Hid (∀ wx, BelX b wS wx → TabC h u wx) := fun wx hx => HT.out.1.below (hx.below (HBS.out.below HT.out.2.1 HT.out.2.2 HT.out.2.1.size) HT.out.2.2 (Nat.le_trans HT.out.2.1.size HBS.out.size))
  go_region_held3 (fun x => x.cell? ⟨b, 1, none⟩ = some (.slice (some ⟨h, 0, none⟩) 8 8)) (first | go_keep | (with_reducible exact HK1.out) | (with_reducible exact HK2.out) | (simp [go_sem, *])) (first
    | (go_at_call 27; refine HWa.out.mono ?_; rintro e w1 ⟨rfl, hr, hx⟩; have HR1 := hidD hr; have HX1 := hidD hx; have HK1 := hidD (rd_cells hr).1; have k1 := (rd_cells hr).1; have l1 : b < w1.heap.size := lt_of_blk hr; have n1 : b ≠ w1.heap.size := Nat.ne_of_lt l1; clear hr hx)
    | (go_at_call 27; refine HWb.out.mono ?_; rintro e w1 ⟨rfl, hr, hx, hzz⟩; have HR1 := hidD hr; have HX1 := hidD hx; have HK1 := hidD (rd_cells hr).1; have k1 := (rd_cells hr).1; have HZ1 := hidD hzz; clear hr hx hzz)
    | (go_at_call 102; (with_reducible refine (HO.out _ (HTx.out _ HX1.out)).mono ?_); rintro e w2 ⟨rfl, hb⟩; have HZ2 := hidD ((hb.block _ (lt_of_blk HZ1.out)).trans HZ1.out); obtain ⟨z0, z1, z2, z3, z4, zf⟩ := zk_of HZ2.out; have y0 := zf 0; have y1 := zf 1; have y2 := zf 2; have y3 := zf 3; have y4 := zf 4; clear zf; have HB2 := hidD hb; have HR2 := hidD (HR1.out.stay hb); have HK2 := hidD (rd_cells (HR1.out.stay hb)).1; have k2 := (rd_cells (HR1.out.stay hb)).1; have l2 : b < w2.heap.size := lt_of_blk (HR1.out.stay hb); have n2 : b ≠ w2.heap.size := Nat.ne_of_lt l2; clear hb)
    | (go_at_call 102; (with_reducible refine (HO.out _ (HTx.out _ HX1.out)).mono ?_); rintro e w2 ⟨rfl, hb⟩; have HB2 := hidD hb; have HR2 := hidD (HR1.out.stay hb); have HK2 := hidD (rd_cells (HR1.out.stay hb)).1; have k2 := (rd_cells (HR1.out.stay hb)).1; have l2 : b < w2.heap.size := lt_of_blk (HR1.out.stay hb); have n2 : b ≠ w2.heap.size := Nat.ne_of_lt l2; clear hb)
    | (go_at_call 102; (with_reducible refine (HO.out _ ((HTx.out _ HX1.out).below (al_bel _ _))).mono ?_); rintro e w2 ⟨rfl, hb⟩; have HB2 := hidD hb; have HR2 := hidD ((HR1.out.stay (al_bel _ _)).stay hb); have HK2 := hidD (rd_cells ((HR1.out.stay (al_bel _ _)).stay hb)).1; have k2 := (rd_cells ((HR1.out.stay (al_bel _ _)).stay hb)).1; have HZ2 := hidD ((hb.block _ (by simp)).trans (heap_alloc_new w1 _)); obtain ⟨z0, z1, z2, z3, z4, zf⟩ := zk_of HZ2.out; have y0 := zf 0; have y1 := zf 1; have y2 := zf 2; have y3 := zf 3; have y4 := zf 4; clear zf hb))
  obtain ⟨w3, hw3⟩ : ∃ w3, w2.alloc (.cells #[.int .i64 0, .string ⟨#[]⟩, .slice none 0 0, .int .i64 0, .nilFunc] 65) = w3 := ⟨_, rfl⟩
  obtain ⟨D, hD⟩ : ∃ D, w2.heap.size = D := ⟨_, rfl⟩
  have HE : Hid (KdE b w.heap.size D s (.slice (some ⟨h, 0, none⟩) 8 8) a z g tv #[.int .i64 0, .string ⟨#[]⟩, .slice none 0 0, .int .i64 0, .nilFunc] wS w3) := by
    show KdE b w.heap.size D s (.slice (some ⟨h, 0, none⟩) 8 8) a z g tv #[.int .i64 0, .string ⟨#[]⟩, .slice none 0 0, .int .i64 0, .nilFunc] wS w3
    rw [← hw3, ← hD]
    exact kdE_new HZB.out hb1 hbZ HX1.out HR1.out HB2.out
  rw [hw3, hD]
  clear hw3 hD n2 l2
  rotate_left
  obtain ⟨w3, hw3⟩ : ∃ w3, put5K w2 w1.heap.size (.int .i64 0) (.string ⟨#[]⟩) (.slice none 0 0) (.int .i64 0) (.nilFunc) = w3 := ⟨_, rfl⟩
  obtain ⟨D, hD⟩ : ∃ D, w1.heap.size = D := ⟨_, rfl⟩
  have HE : Hid (KdE b w.heap.size D s (.slice (some ⟨h, 0, none⟩) 8 8) a z g tv #[.int .i64 0, .string ⟨#[]⟩, .slice none 0 0, .int .i64 0, .nilFunc] wS w3) := by
    show KdE b w.heap.size D s (.slice (some ⟨h, 0, none⟩) 8 8) a z g tv #[.int .i64 0, .string ⟨#[]⟩, .slice none 0 0, .int .i64 0, .nilFunc] wS w3
    rw [← hw3, ← hD]
    exact kdE_mid HZB.out hb1 hbZ HX1.out HR1.out HB2.out
  unfold put5K at hw3
  rw [hw3, hD]
  clear hw3 hD z0 z1 z2 z3 z4 y0 y1 y2 y3 y4 HZ2
  rotate_left
  obtain ⟨w3, hw3⟩ : ∃ w3, put5K w2 wS.heap.size (.int .i64 0) (.string ⟨#[]⟩) (.slice none 0 0) (.int .i64 0) (.nilFunc) = w3 := ⟨_, rfl⟩
  obtain ⟨D, hD⟩ : ∃ D, wS.heap.size = D := ⟨_, rfl⟩
  have HE : Hid (KdE b w.heap.size D s (.slice (some ⟨h, 0, none⟩) 8 8) a z g tv #[.int .i64 0, .string ⟨#[]⟩, .slice none 0 0, .int .i64 0, .nilFunc] wS w3) := by
    show KdE b w.heap.size D s (.slice (some ⟨h, 0, none⟩) 8 8) a z g tv #[.int .i64 0, .string ⟨#[]⟩, .slice none 0 0, .int .i64 0, .nilFunc] wS w3
    rw [← hw3, ← hD]
    exact kdE_old HZB.out hb1 hbZ HX1.out HR1.out HB2.out HZ1.out
  unfold put5K at hw3
  rw [hw3, hD]
  clear hw3 hD z0 z1 z2 z3 z4 y0 y1 y2 y3 y4 HZ2
  rotate_left
  all_goals
    clear HWa HWb HX1 HR1 HB2 HO HW k1 k2 HK1 HK2
    obtain ⟨e0, e1, e2, e3, e4⟩ := cellK_of HE.out.kb
    obtain ⟨z0, z1, z2, z3, z4, zf⟩ := zk_of HE.out.zb
    clear zf
    have HF : Hid (BelX b w w3) := HBS.out.trans HE.out.bl
    go_wp2_with fail
    refine (refuse_any b 170 _ HE.out.rb).mono ?_
    rintro e w4 ⟨rfl, rfl⟩
    go_wp2_with fail
    exact ⟨rfl, rfl, HE.out.rb, HF.out⟩
end Go.Proofs.YtiiajhomdpfafaaGreatDoor
