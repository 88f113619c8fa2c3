/- The last region of tenorlaw14's short: whatever is asked, it tells a Boolean. Made by gen_shortreg.py. -/
import Derived.Test.YtpcgbcdldkmibaaGreatRows
import Derived.Lib.MinMax
import Derived.Deep.QuietTactic
import Derived.BigQuiet
namespace Go.Proofs.YtpcgbcdldkmibaaGreat
open Go.RowKit
set_option linter.unusedVariables false

def regJ (n : Nat) : Code → Option Code
  | .region k ops b => if k = n then some (.region k ops b) else none
  | .seq a b => match regJ n a with
    | some c => some c
    | none => regJ n b
  | .cond _ a b => match regJ n a with
    | some c => some c
    | none => regJ n b
  | .loop c => regJ n c
  | .block _ c => regJ n c
  | .scope c => regJ n c
  | _ => none
noncomputable def shortReg : Code := ((Tryz.f4.body.bind (regJ 12)).getD .skip)

set_option maxRecDepth 100000 in
set_option maxHeartbeats 16000000 in
theorem short_r1 {Q : Exit → Act → World → Prop} {w : World} {b1 b3 rl c : Nat} {p : Option Addr} {st en nn days q mn gc : Int} {c0 c2 c5 c6 c7 c8 c9 c10 c11 c12 c13 c14 c15 c16 c17 c18 c19 c20 c21 c22 c23 c24 c25 c26 c27 c28 c29 c30 c31 c32 c33 c34 c35 c36 c37 c38 c39 c40 c41 c42 c43 c44 c45 c46 c47 c48 c49 c50 c51 c52 c53 c54 c55 c56 c57 c58 c59 c60 c61 c62 c63 c64 c65 c66 c67 c68 c69 c70 c71 c72 c73 c74 c75 c76 c77 c78 : Value}
    (s0 : w.cell? ⟨b3, 0, none⟩ = some (.int .i64 st)) (s1 : w.cell? ⟨b3, 1, none⟩ = some (.int .i64 en)) (s2 : w.cell? ⟨b3, 2, none⟩ = some (.int .i64 nn)) (s9 : w.cell? ⟨b3, 9, none⟩ = some (.slice p rl c)) (g1 : w.cell? ⟨b1, 1, none⟩ = some (.int .i64 gc))
    (f1 : IntKind.i64.wrap (en - st) = en - st) (f2 : (days == 0) = false) (f2b : days ≠ 0) (f3 : (en - st).tdiv days = q) (f4 : IntKind.i64.wrap q = q) (f5 : min nn 2000 = mn) (f6 : IntKind.i64.wrap (30 * mn) = 30 * mn) (t1 : decide (q ≤ 30 * mn) = false)
    (hQ : ∀ (nq : Nat) (B : Bool) (v47 v48 v49 v50 v51 v52 v53 v54 v55 v56 v57 v58 v59 v60 v61 v62 v63 v64 v65 v66 v67 v68 v69 v70 v71 v72 v73 v74 v75 v76 v77 v78 : Value), Q .normal ⟨List.toArray (c0 :: (Value.pointer (some ⟨b1, 0, none⟩)) :: (Value.bool B) :: (Value.pointer (some ⟨b3, 0, none⟩)) :: (Value.int .i64 days) :: c5 :: c6 :: c7 :: c8 :: c9 :: c10 :: c11 :: c12 :: c13 :: c14 :: c15 :: c16 :: c17 :: c18 :: c19 :: c20 :: c21 :: c22 :: c23 :: c24 :: c25 :: c26 :: c27 :: c28 :: c29 :: c30 :: c31 :: c32 :: c33 :: c34 :: c35 :: c36 :: c37 :: c38 :: c39 :: c40 :: c41 :: c42 :: c43 :: c44 :: c45 :: c46 :: v47 :: v48 :: v49 :: v50 :: v51 :: v52 :: v53 :: v54 :: v55 :: v56 :: v57 :: v58 :: v59 :: v60 :: v61 :: v62 :: v63 :: v64 :: v65 :: v66 :: v67 :: v68 :: v69 :: v70 :: v71 :: v72 :: v73 :: v74 :: v75 :: v76 :: v77 :: v78 :: []), []⟩ (w.drewN nq)) :
    Code.wp Tryz.prog shortReg Q ⟨List.toArray (c0 :: (Value.pointer (some ⟨b1, 0, none⟩)) :: c2 :: (Value.pointer (some ⟨b3, 0, none⟩)) :: (Value.int .i64 days) :: c5 :: c6 :: c7 :: c8 :: c9 :: c10 :: c11 :: c12 :: c13 :: c14 :: c15 :: c16 :: c17 :: c18 :: c19 :: c20 :: c21 :: c22 :: c23 :: c24 :: c25 :: c26 :: c27 :: c28 :: c29 :: c30 :: c31 :: c32 :: c33 :: c34 :: c35 :: c36 :: c37 :: c38 :: c39 :: c40 :: c41 :: c42 :: c43 :: c44 :: c45 :: c46 :: c47 :: c48 :: c49 :: c50 :: c51 :: c52 :: c53 :: c54 :: c55 :: c56 :: c57 :: c58 :: c59 :: c60 :: c61 :: c62 :: c63 :: c64 :: c65 :: c66 :: c67 :: c68 :: c69 :: c70 :: c71 :: c72 :: c73 :: c74 :: c75 :: c76 :: c77 :: c78 :: []), []⟩ w := by
  conv => arg 2; whnf
  refine wp_region_quiet_lit (by kernel_rfl) (by kernel_rfl) ?_
  repeat (go_big_quiet_step (fail))
  refine wpQuiet_nil ?_
  intro _ hw9
  obtain ⟨nq, hw8⟩ := hw9
  subst hw8
  exact hQ nq _ _ _ _ _ _ _ _ _ _ _ _ _ _ _ _ _ _ _ _ _ _ _ _ _ _ _ _ _ _ _ _ _

set_option maxRecDepth 100000 in
set_option maxHeartbeats 16000000 in
theorem short_r2 {Q : Exit → Act → World → Prop} {w : World} {b1 b3 rl c : Nat} {p : Option Addr} {st en nn days q mn gc : Int} {c0 c2 c5 c6 c7 c8 c9 c10 c11 c12 c13 c14 c15 c16 c17 c18 c19 c20 c21 c22 c23 c24 c25 c26 c27 c28 c29 c30 c31 c32 c33 c34 c35 c36 c37 c38 c39 c40 c41 c42 c43 c44 c45 c46 c47 c48 c49 c50 c51 c52 c53 c54 c55 c56 c57 c58 c59 c60 c61 c62 c63 c64 c65 c66 c67 c68 c69 c70 c71 c72 c73 c74 c75 c76 c77 c78 : Value}
    (s0 : w.cell? ⟨b3, 0, none⟩ = some (.int .i64 st)) (s1 : w.cell? ⟨b3, 1, none⟩ = some (.int .i64 en)) (s2 : w.cell? ⟨b3, 2, none⟩ = some (.int .i64 nn)) (s9 : w.cell? ⟨b3, 9, none⟩ = some (.slice p rl c)) (g1 : w.cell? ⟨b1, 1, none⟩ = some (.int .i64 gc))
    (f1 : IntKind.i64.wrap (en - st) = en - st) (f2 : (days == 0) = false) (f2b : days ≠ 0) (f3 : (en - st).tdiv days = q) (f4 : IntKind.i64.wrap q = q) (f5 : min nn 2000 = mn) (f6 : IntKind.i64.wrap (30 * mn) = 30 * mn) (t1 : decide (q ≤ 30 * mn) = true) (t2 : (gc != 6) = false)
    (hQ : ∀ (nq : Nat) (B : Bool) (v47 v48 v49 v50 v51 v52 v53 v54 v55 v56 v57 v58 v59 v60 v61 v62 v63 v64 v65 v66 v67 v68 v69 v70 v71 v72 v73 v74 v75 v76 v77 v78 : Value), Q .normal ⟨List.toArray (c0 :: (Value.pointer (some ⟨b1, 0, none⟩)) :: (Value.bool B) :: (Value.pointer (some ⟨b3, 0, none⟩)) :: (Value.int .i64 days) :: c5 :: c6 :: c7 :: c8 :: c9 :: c10 :: c11 :: c12 :: c13 :: c14 :: c15 :: c16 :: c17 :: c18 :: c19 :: c20 :: c21 :: c22 :: c23 :: c24 :: c25 :: c26 :: c27 :: c28 :: c29 :: c30 :: c31 :: c32 :: c33 :: c34 :: c35 :: c36 :: c37 :: c38 :: c39 :: c40 :: c41 :: c42 :: c43 :: c44 :: c45 :: c46 :: v47 :: v48 :: v49 :: v50 :: v51 :: v52 :: v53 :: v54 :: v55 :: v56 :: v57 :: v58 :: v59 :: v60 :: v61 :: v62 :: v63 :: v64 :: v65 :: v66 :: v67 :: v68 :: v69 :: v70 :: v71 :: v72 :: v73 :: v74 :: v75 :: v76 :: v77 :: v78 :: []), []⟩ (w.drewN nq)) :
    Code.wp Tryz.prog shortReg Q ⟨List.toArray (c0 :: (Value.pointer (some ⟨b1, 0, none⟩)) :: c2 :: (Value.pointer (some ⟨b3, 0, none⟩)) :: (Value.int .i64 days) :: c5 :: c6 :: c7 :: c8 :: c9 :: c10 :: c11 :: c12 :: c13 :: c14 :: c15 :: c16 :: c17 :: c18 :: c19 :: c20 :: c21 :: c22 :: c23 :: c24 :: c25 :: c26 :: c27 :: c28 :: c29 :: c30 :: c31 :: c32 :: c33 :: c34 :: c35 :: c36 :: c37 :: c38 :: c39 :: c40 :: c41 :: c42 :: c43 :: c44 :: c45 :: c46 :: c47 :: c48 :: c49 :: c50 :: c51 :: c52 :: c53 :: c54 :: c55 :: c56 :: c57 :: c58 :: c59 :: c60 :: c61 :: c62 :: c63 :: c64 :: c65 :: c66 :: c67 :: c68 :: c69 :: c70 :: c71 :: c72 :: c73 :: c74 :: c75 :: c76 :: c77 :: c78 :: []), []⟩ w := by
  conv => arg 2; whnf
  refine wp_region_quiet_lit (by kernel_rfl) (by kernel_rfl) ?_
  repeat (go_big_quiet_step (fail))
  refine wpQuiet_nil ?_
  intro _ hw9
  obtain ⟨nq, hw8⟩ := hw9
  subst hw8
  exact hQ nq _ _ _ _ _ _ _ _ _ _ _ _ _ _ _ _ _ _ _ _ _ _ _ _ _ _ _ _ _ _ _ _ _

set_option maxRecDepth 100000 in
set_option maxHeartbeats 16000000 in
theorem short_r3 {Q : Exit → Act → World → Prop} {w : World} {b1 b3 rl c : Nat} {p : Option Addr} {st en nn days q mn gc : Int} {c0 c2 c5 c6 c7 c8 c9 c10 c11 c12 c13 c14 c15 c16 c17 c18 c19 c20 c21 c22 c23 c24 c25 c26 c27 c28 c29 c30 c31 c32 c33 c34 c35 c36 c37 c38 c39 c40 c41 c42 c43 c44 c45 c46 c47 c48 c49 c50 c51 c52 c53 c54 c55 c56 c57 c58 c59 c60 c61 c62 c63 c64 c65 c66 c67 c68 c69 c70 c71 c72 c73 c74 c75 c76 c77 c78 : Value}
    (s0 : w.cell? ⟨b3, 0, none⟩ = some (.int .i64 st)) (s1 : w.cell? ⟨b3, 1, none⟩ = some (.int .i64 en)) (s2 : w.cell? ⟨b3, 2, none⟩ = some (.int .i64 nn)) (s9 : w.cell? ⟨b3, 9, none⟩ = some (.slice p rl c)) (g1 : w.cell? ⟨b1, 1, none⟩ = some (.int .i64 gc))
    (f1 : IntKind.i64.wrap (en - st) = en - st) (f2 : (days == 0) = false) (f2b : days ≠ 0) (f3 : (en - st).tdiv days = q) (f4 : IntKind.i64.wrap q = q) (f5 : min nn 2000 = mn) (f6 : IntKind.i64.wrap (30 * mn) = 30 * mn) (t1 : decide (q ≤ 30 * mn) = true) (t2 : (gc != 6) = true) (t3 : ((rl : Int) == 0) = false)
    (hQ : ∀ (nq : Nat) (B : Bool) (v47 v48 v49 v50 v51 v52 v53 v54 v55 v56 v57 v58 v59 v60 v61 v62 v63 v64 v65 v66 v67 v68 v69 v70 v71 v72 v73 v74 v75 v76 v77 v78 : Value), Q .normal ⟨List.toArray (c0 :: (Value.pointer (some ⟨b1, 0, none⟩)) :: (Value.bool B) :: (Value.pointer (some ⟨b3, 0, none⟩)) :: (Value.int .i64 days) :: c5 :: c6 :: c7 :: c8 :: c9 :: c10 :: c11 :: c12 :: c13 :: c14 :: c15 :: c16 :: c17 :: c18 :: c19 :: c20 :: c21 :: c22 :: c23 :: c24 :: c25 :: c26 :: c27 :: c28 :: c29 :: c30 :: c31 :: c32 :: c33 :: c34 :: c35 :: c36 :: c37 :: c38 :: c39 :: c40 :: c41 :: c42 :: c43 :: c44 :: c45 :: c46 :: v47 :: v48 :: v49 :: v50 :: v51 :: v52 :: v53 :: v54 :: v55 :: v56 :: v57 :: v58 :: v59 :: v60 :: v61 :: v62 :: v63 :: v64 :: v65 :: v66 :: v67 :: v68 :: v69 :: v70 :: v71 :: v72 :: v73 :: v74 :: v75 :: v76 :: v77 :: v78 :: []), []⟩ (w.drewN nq)) :
    Code.wp Tryz.prog shortReg Q ⟨List.toArray (c0 :: (Value.pointer (some ⟨b1, 0, none⟩)) :: c2 :: (Value.pointer (some ⟨b3, 0, none⟩)) :: (Value.int .i64 days) :: c5 :: c6 :: c7 :: c8 :: c9 :: c10 :: c11 :: c12 :: c13 :: c14 :: c15 :: c16 :: c17 :: c18 :: c19 :: c20 :: c21 :: c22 :: c23 :: c24 :: c25 :: c26 :: c27 :: c28 :: c29 :: c30 :: c31 :: c32 :: c33 :: c34 :: c35 :: c36 :: c37 :: c38 :: c39 :: c40 :: c41 :: c42 :: c43 :: c44 :: c45 :: c46 :: c47 :: c48 :: c49 :: c50 :: c51 :: c52 :: c53 :: c54 :: c55 :: c56 :: c57 :: c58 :: c59 :: c60 :: c61 :: c62 :: c63 :: c64 :: c65 :: c66 :: c67 :: c68 :: c69 :: c70 :: c71 :: c72 :: c73 :: c74 :: c75 :: c76 :: c77 :: c78 :: []), []⟩ w := by
  conv => arg 2; whnf
  refine wp_region_quiet_lit (by kernel_rfl) (by kernel_rfl) ?_
  repeat (go_big_quiet_step (fail))
  refine wpQuiet_nil ?_
  intro _ hw9
  obtain ⟨nq, hw8⟩ := hw9
  subst hw8
  exact hQ nq _ _ _ _ _ _ _ _ _ _ _ _ _ _ _ _ _ _ _ _ _ _ _ _ _ _ _ _ _ _ _ _ _

set_option maxRecDepth 100000 in
set_option maxHeartbeats 16000000 in
theorem short_r4 {Q : Exit → Act → World → Prop} {w : World} {b1 b3 rl c : Nat} {p : Option Addr} {st en nn days q mn gc : Int} {c0 c2 c5 c6 c7 c8 c9 c10 c11 c12 c13 c14 c15 c16 c17 c18 c19 c20 c21 c22 c23 c24 c25 c26 c27 c28 c29 c30 c31 c32 c33 c34 c35 c36 c37 c38 c39 c40 c41 c42 c43 c44 c45 c46 c47 c48 c49 c50 c51 c52 c53 c54 c55 c56 c57 c58 c59 c60 c61 c62 c63 c64 c65 c66 c67 c68 c69 c70 c71 c72 c73 c74 c75 c76 c77 c78 : Value}
    (s0 : w.cell? ⟨b3, 0, none⟩ = some (.int .i64 st)) (s1 : w.cell? ⟨b3, 1, none⟩ = some (.int .i64 en)) (s2 : w.cell? ⟨b3, 2, none⟩ = some (.int .i64 nn)) (s9 : w.cell? ⟨b3, 9, none⟩ = some (.slice p rl c)) (g1 : w.cell? ⟨b1, 1, none⟩ = some (.int .i64 gc))
    (f1 : IntKind.i64.wrap (en - st) = en - st) (f2 : (days == 0) = false) (f2b : days ≠ 0) (f3 : (en - st).tdiv days = q) (f4 : IntKind.i64.wrap q = q) (f5 : min nn 2000 = mn) (f6 : IntKind.i64.wrap (30 * mn) = 30 * mn) (t1 : decide (q ≤ 30 * mn) = true) (t2 : (gc != 6) = true) (t3 : ((rl : Int) == 0) = true)
    (hQ : ∀ (nq : Nat) (B : Bool) (v47 v48 v49 v50 v51 v52 v53 v54 v55 v56 v57 v58 v59 v60 v61 v62 v63 v64 v65 v66 v67 v68 v69 v70 v71 v72 v73 v74 v75 v76 v77 v78 : Value), Q .normal ⟨List.toArray (c0 :: (Value.pointer (some ⟨b1, 0, none⟩)) :: (Value.bool B) :: (Value.pointer (some ⟨b3, 0, none⟩)) :: (Value.int .i64 days) :: c5 :: c6 :: c7 :: c8 :: c9 :: c10 :: c11 :: c12 :: c13 :: c14 :: c15 :: c16 :: c17 :: c18 :: c19 :: c20 :: c21 :: c22 :: c23 :: c24 :: c25 :: c26 :: c27 :: c28 :: c29 :: c30 :: c31 :: c32 :: c33 :: c34 :: c35 :: c36 :: c37 :: c38 :: c39 :: c40 :: c41 :: c42 :: c43 :: c44 :: c45 :: c46 :: v47 :: v48 :: v49 :: v50 :: v51 :: v52 :: v53 :: v54 :: v55 :: v56 :: v57 :: v58 :: v59 :: v60 :: v61 :: v62 :: v63 :: v64 :: v65 :: v66 :: v67 :: v68 :: v69 :: v70 :: v71 :: v72 :: v73 :: v74 :: v75 :: v76 :: v77 :: v78 :: []), []⟩ (w.drewN nq)) :
    Code.wp Tryz.prog shortReg Q ⟨List.toArray (c0 :: (Value.pointer (some ⟨b1, 0, none⟩)) :: c2 :: (Value.pointer (some ⟨b3, 0, none⟩)) :: (Value.int .i64 days) :: c5 :: c6 :: c7 :: c8 :: c9 :: c10 :: c11 :: c12 :: c13 :: c14 :: c15 :: c16 :: c17 :: c18 :: c19 :: c20 :: c21 :: c22 :: c23 :: c24 :: c25 :: c26 :: c27 :: c28 :: c29 :: c30 :: c31 :: c32 :: c33 :: c34 :: c35 :: c36 :: c37 :: c38 :: c39 :: c40 :: c41 :: c42 :: c43 :: c44 :: c45 :: c46 :: c47 :: c48 :: c49 :: c50 :: c51 :: c52 :: c53 :: c54 :: c55 :: c56 :: c57 :: c58 :: c59 :: c60 :: c61 :: c62 :: c63 :: c64 :: c65 :: c66 :: c67 :: c68 :: c69 :: c70 :: c71 :: c72 :: c73 :: c74 :: c75 :: c76 :: c77 :: c78 :: []), []⟩ w := by
  conv => arg 2; whnf
  refine wp_region_quiet_lit (by kernel_rfl) (by kernel_rfl) ?_
  repeat (go_big_quiet_step (fail))
  refine wpQuiet_nil ?_
  intro _ hw9
  obtain ⟨nq, hw8⟩ := hw9
  subst hw8
  exact hQ nq _ _ _ _ _ _ _ _ _ _ _ _ _ _ _ _ _ _ _ _ _ _ _ _ _ _ _ _ _ _ _ _ _

theorem short_reg {Q : Exit → Act → World → Prop} {w : World} {b1 b3 rl c : Nat} {p : Option Addr} {st en nn days q mn gc : Int} {c0 c2 c5 c6 c7 c8 c9 c10 c11 c12 c13 c14 c15 c16 c17 c18 c19 c20 c21 c22 c23 c24 c25 c26 c27 c28 c29 c30 c31 c32 c33 c34 c35 c36 c37 c38 c39 c40 c41 c42 c43 c44 c45 c46 c47 c48 c49 c50 c51 c52 c53 c54 c55 c56 c57 c58 c59 c60 c61 c62 c63 c64 c65 c66 c67 c68 c69 c70 c71 c72 c73 c74 c75 c76 c77 c78 : Value}
    (s0 : w.cell? ⟨b3, 0, none⟩ = some (.int .i64 st)) (s1 : w.cell? ⟨b3, 1, none⟩ = some (.int .i64 en)) (s2 : w.cell? ⟨b3, 2, none⟩ = some (.int .i64 nn)) (s9 : w.cell? ⟨b3, 9, none⟩ = some (.slice p rl c)) (g1 : w.cell? ⟨b1, 1, none⟩ = some (.int .i64 gc))
    (f1 : IntKind.i64.wrap (en - st) = en - st) (f2 : (days == 0) = false) (f2b : days ≠ 0) (f3 : (en - st).tdiv days = q) (f4 : IntKind.i64.wrap q = q) (f5 : min nn 2000 = mn) (f6 : IntKind.i64.wrap (30 * mn) = 30 * mn)
    (hQ : ∀ (nq : Nat) (B : Bool) (v47 v48 v49 v50 v51 v52 v53 v54 v55 v56 v57 v58 v59 v60 v61 v62 v63 v64 v65 v66 v67 v68 v69 v70 v71 v72 v73 v74 v75 v76 v77 v78 : Value), Q .normal ⟨List.toArray (c0 :: (Value.pointer (some ⟨b1, 0, none⟩)) :: (Value.bool B) :: (Value.pointer (some ⟨b3, 0, none⟩)) :: (Value.int .i64 days) :: c5 :: c6 :: c7 :: c8 :: c9 :: c10 :: c11 :: c12 :: c13 :: c14 :: c15 :: c16 :: c17 :: c18 :: c19 :: c20 :: c21 :: c22 :: c23 :: c24 :: c25 :: c26 :: c27 :: c28 :: c29 :: c30 :: c31 :: c32 :: c33 :: c34 :: c35 :: c36 :: c37 :: c38 :: c39 :: c40 :: c41 :: c42 :: c43 :: c44 :: c45 :: c46 :: v47 :: v48 :: v49 :: v50 :: v51 :: v52 :: v53 :: v54 :: v55 :: v56 :: v57 :: v58 :: v59 :: v60 :: v61 :: v62 :: v63 :: v64 :: v65 :: v66 :: v67 :: v68 :: v69 :: v70 :: v71 :: v72 :: v73 :: v74 :: v75 :: v76 :: v77 :: v78 :: []), []⟩ (w.drewN nq)) :
    Code.wp Tryz.prog shortReg Q ⟨List.toArray (c0 :: (Value.pointer (some ⟨b1, 0, none⟩)) :: c2 :: (Value.pointer (some ⟨b3, 0, none⟩)) :: (Value.int .i64 days) :: c5 :: c6 :: c7 :: c8 :: c9 :: c10 :: c11 :: c12 :: c13 :: c14 :: c15 :: c16 :: c17 :: c18 :: c19 :: c20 :: c21 :: c22 :: c23 :: c24 :: c25 :: c26 :: c27 :: c28 :: c29 :: c30 :: c31 :: c32 :: c33 :: c34 :: c35 :: c36 :: c37 :: c38 :: c39 :: c40 :: c41 :: c42 :: c43 :: c44 :: c45 :: c46 :: c47 :: c48 :: c49 :: c50 :: c51 :: c52 :: c53 :: c54 :: c55 :: c56 :: c57 :: c58 :: c59 :: c60 :: c61 :: c62 :: c63 :: c64 :: c65 :: c66 :: c67 :: c68 :: c69 :: c70 :: c71 :: c72 :: c73 :: c74 :: c75 :: c76 :: c77 :: c78 :: []), []⟩ w := by
  cases t1 : decide (q ≤ 30 * mn)
  · exact short_r1 s0 s1 s2 s9 g1 f1 f2 f2b f3 f4 f5 f6 t1 hQ
  · cases t2 : (gc != 6)
    · exact short_r2 s0 s1 s2 s9 g1 f1 f2 f2b f3 f4 f5 f6 t1 t2 hQ
    · cases t3 : ((rl : Int) == 0)
      · exact short_r3 s0 s1 s2 s9 g1 f1 f2 f2b f3 f4 f5 f6 t1 t2 t3 hQ
      · exact short_r4 s0 s1 s2 s9 g1 f1 f2 f2b f3 f4 f5 f6 t1 t2 t3 hQ
end Go.Proofs.YtpcgbcdldkmibaaGreat
