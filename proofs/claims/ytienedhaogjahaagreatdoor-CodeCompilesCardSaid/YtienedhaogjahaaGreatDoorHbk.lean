/- Package deal: the document's Check of any list of terms. The document's Compile: of a tree that may be, and of one that may not. The walk of CodeChecks. -/
import Derived.Test.YtienedhaogjahaaGreatDoorHbj
import Derived.Test.YtienedhaogjahaaGreatDoorHbg
import Derived.Test.YtienedhaogjahaaGreatDoorHbi
import Derived.Test.YtienedhaogjahaaGreatDoorHbd
namespace Go.Proofs.YtienedhaogjahaaGreatDoor
open Go.RowKit

set_option maxRecDepth 20000 in
set_option maxHeartbeats 6400000 in
theorem r17Check_any (ts : List Trm) (n : Nat) (p0 : Option Addr) (b off c : Nat) (w : World) (hs : TDS w p0 b off ts) (hn : ts.length = n) (hu : ∀ i < n, TrU (ts.getD i trm0)) (hl : n ≤ 9223372036854775807) :
    Calls Tryz.prog 23 #[.slice p0 n c] w fun e w' => ∃ D E A, e = .returned (.tuple #[.int .i64 E, .int .i64 A]) ∧ MesR ts D E A ∧ Below w.heap.size w w' := by
  by_cases hlong : 1024 < n
  · have i0 : (1024 : Int) < (n : Int) := by omega
    have HR : Hid (MesR ts 0 2 0) := .long (by omega)
    clear hs hn hu hlong
    go_enter Tryz.func23, Tryz.ntmps23
    go_wp2_with fail
    go_ret2
    exact ⟨_, _, _, rfl, HR.out, Below.refl _ _⟩
  have i0 : ¬ (1024 : Int) < (n : Int) := by omega
  by_cases h0 : n = 0
  · have z0 : ((n : Int) == 0) = true := by rw [h0]; rfl
    have HR : Hid (MesR ts 0 171 0) := .empty (by omega)
    clear hs hn hu hlong h0
    go_enter Tryz.func23, Tryz.ntmps23
    go_wp2_with fail
    go_ret2
    exact ⟨_, _, _, rfl, HR.out, Below.refl _ _⟩
  have z0 : ((n : Int) == 0) = false := beq_eq_false_iff_ne.2 (by omega)
  have HSh := hidD (shape_any ts n p0 b off c w hs hn hu (by omega) (by omega))
  have HN := hidD hn
  have HL : Hid (ts.length ≤ 1024 ∧ 1 ≤ n) := ⟨by omega, by omega⟩
  have hn2 : n ≤ 1024 := by omega
  clear hs hn hu hlong h0 hl
  go_enter Tryz.func23, Tryz.ntmps23
  go_wp2_with fail
  refine HSh.out.mono ?_
  rintro e w1 ⟨ho, hb⟩
  have HB := hidD hb
  have HB2 : Hid (∀ ob, Below w.heap.size w (w1.alloc ob)) := fun ob => HB.out.alloc HB.out.size ob
  clear hb HSh
  cases ho with
  | bad k F D p q a b c d hk h1 h2 =>
    have HR : Hid (MesR ts 0 171 k) := mes_bad HL.out.1 (by rw [HN.out]; exact hk) h1 h2
    have j0 : (0 : Int) ≤ (k : Int) := by omega
    clear hk h1 h2
    go_wp2_with fail
    go_quiet (fail)
    go_wp2_with fail
    go_ret2
    exact ⟨_, _, _, rfl, HR.out, below_drewNm (HB2.out _)⟩
  | more F D p q a b c d h1 h2 =>
    have HR : Hid (MesR ts 0 171 ((n : Int) - 1)) := mes_more HL.out.1 HN.out HL.out.2 h1 h2
    obtain ⟨m, hm⟩ : ∃ m : Nat, (n : Int) - 1 = (m : Int) := ⟨n - 1, by have := HL.out.2; omega⟩
    rw [hm] at HR
    have j0 : (0 : Int) ≤ (m : Int) := by omega
    rw [hm]
    clear hm h1 h2
    go_wp2_with fail
    go_quiet (fail)
    go_wp2_with fail
    go_ret2
    exact ⟨_, _, _, rfl, HR.out, below_drewNm (HB2.out _)⟩
  | one F D p q a b d h1 h2 ho =>
    obtain ⟨hSI, _⟩ := shP_inv h1
    have HR := hidD (mes_one HL.out.1 HN.out HL.out.2 h1 h2)
    obtain ⟨p', c', g, e1, e2, hp, hc⟩ := int_cells (orow_below ho (al_bel w1 (.cells #[.slice p a b, .slice q n d, .int .i64 (-1)] 103))) hSI.ld
    injection e1 with e1 e3 e4
    subst e1 e4
    obtain rfl := hp (by have := HL.out.2; omega)
    obtain ⟨j, hj⟩ : ∃ j, n - 1 = j := ⟨_, rfl⟩
    have hjn : j < n := by have := HL.out.2; omega
    have cj := hc j hjn
    rw [hj] at HR
    have i1 : (n : Int) - 1 = (j : Int) := by have := HL.out.2; omega
    rw [i1] at HR
    have i2 : (0 : Int) ≤ (j : Int) := by omega
    have i3 : (j : Int) < (n : Int) := by omega
    obtain ⟨dj, hdj⟩ : ∃ dj, D.getD j 0 = dj := ⟨_, rfl⟩
    rw [hdj] at HR cj
    have b1 := hSI.d0 j hjn
    rw [hdj] at b1
    clear hj ho h1 h2 hp hc hSI hdj
    by_cases hd : 64 < dj
    · have HR2 := hidD (HR.out.1 hd)
      clear HR
      go_wp2_with fail
      go_ret2
      exact ⟨_, _, _, rfl, HR2.out, HB2.out _⟩
    · have HR2 := hidD (HR.out.2 (by omega))
      clear HR
      go_wp2_with fail
      go_ret2
      exact ⟨_, _, _, rfl, HR2.out, HB2.out _⟩
theorem r17Check_is {ts : List Trm} {D E A : Int} (hm : MesR ts D E A) (n : Nat) (p0 : Option Addr) (b off c : Nat) (w : World) (hs : TDS w p0 b off ts) (hn : ts.length = n) (hu : ∀ i < n, TrU (ts.getD i trm0)) (hl : n ≤ 9223372036854775807) :
    Calls Tryz.prog 23 #[.slice p0 n c] w fun e w' => e = .returned (.tuple #[.int .i64 E, .int .i64 A]) ∧ Below w.heap.size w w' :=
  (r17Check_any ts n p0 b off c w hs hn hu hl).mono fun e w' ⟨D', E', A', he, hm', hb⟩ => by
    obtain ⟨rfl, rfl, rfl⟩ := hm.unique hm'
    exact ⟨he, hb⟩
end Go.Proofs.YtienedhaogjahaaGreatDoor
namespace Go.Proofs.YtienedhaogjahaaGreatDoor
open Go.RowKit

set_option maxRecDepth 20000 in
set_option maxHeartbeats 6400000 in
theorem r18Compile_bad {ts : List Trm} {D E A : Int} (hm : MesR ts D E A) (hE : E ≠ 0) (n : Nat) (p0 : Option Addr) (b off c : Nat) (w : World) (hs : TDS w p0 b off ts) (hn : ts.length = n) (hu : ∀ i < n, TrU (ts.getD i trm0)) (hl : n ≤ 9223372036854775807) :
    Calls Tryz.prog 9 #[.slice p0 n c] w fun e w' => e = .returned (.tuple #[.slice none 0 0, .int .i64 E]) ∧ Below w.heap.size w w' := by
  have HC := hidD (r17Check_is hm n p0 b off c w hs hn hu hl)
  have z : (E != 0) = true := bne_iff_ne.2 hE
  clear hm hE hs hn hu hl
  go_enter Tryz.func9, Tryz.ntmps9
  go_wp2_with fail
  refine HC.out.mono ?_
  rintro e w1 ⟨rfl, hb⟩
  have HB := hidD hb
  clear hb
  go_wp2_with fail
  go_ret2
  exact ⟨rfl, HB.out⟩
set_option maxRecDepth 20000 in
set_option maxHeartbeats 6400000 in
theorem r18Compile_ok {ts : List Trm} {D A : Int} (hm : MesR ts D 0 A) {l : List Opr} {K n : Nat} (hn : ts.length = n) (h1 : 1 ≤ n) (h2 : n ≤ 1024) (hc : CodR ts (n - 1) l K) (hK : K ≤ 2048) (p0 : Option Addr) (b off c : Nat) (w : World) (hs : TDS w p0 b off ts) (hu : ∀ i < n, TrU (ts.getD i trm0)) :
    Calls Tryz.prog 9 #[.slice p0 n c] w fun e w' => (∃ v, e = .returned (.tuple #[v, .int .i64 0]) ∧ w'.ownsRow w.heap.size 66 9 v l.length (rowV opD l)) ∧ Below w.heap.size w w' := by
  have HC := hidD (r17Check_is hm n p0 b off c w hs hn hu (by omega))
  have HS := hidD hs
  obtain ⟨j, hj⟩ : ∃ j, n - 1 = j := ⟨_, rfl⟩
  rw [hj] at hc
  have HD := hidD (r18Code_any hc n p0 b off c hn (by omega))
  have i0 : (n : Int) - 1 = (j : Int) := by omega
  clear hm hs hn hu hc hj h1 hK
  go_enter Tryz.func9, Tryz.ntmps9
  go_wp2_with fail
  refine HC.out.mono ?_
  rintro e w1 ⟨rfl, hb⟩
  have HB := hidD hb
  have HS1 := hidD (HS.out.below hb)
  clear hb
  go_wp2_with fail
  refine (HD.out _ HS1.out).mono ?_
  rintro e w2 ⟨⟨v, rfl, ho⟩, hb⟩
  have H2 := hidD (And.intro (orow_lower ho HB.out.size) (HB.out.trans (hb.mono HB.out.size)))
  clear ho hb
  go_wp2_with fail
  go_ret2
  exact ⟨⟨_, rfl, H2.out.1⟩, H2.out.2⟩
end Go.Proofs.YtienedhaogjahaaGreatDoor
namespace Go.Proofs.YtienedhaogjahaaGreatDoor
open Go.RowKit

end Go.Proofs.YtienedhaogjahaaGreatDoor
