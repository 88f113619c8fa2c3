/- A slice of ops that came in, as a list. A slice of ops that came in as nil is empty. -/
import Derived.Test.YtienedhaogjahaaGreatDoorHax
import Derived.Test.YtienedhaogjahaaGreatDoorRows
import Derived.ProofKit
import Derived.OpenShut
import Derived.Carry
import Derived.Deep.Slices
import Derived.SizedLaws
namespace Go.Proofs.YtienedhaogjahaaGreatDoor
open Go.ChangeShapes Go.WideShapes Go.ChangeAt Go.RowKit

theorem ops_laid : laidOutB Tryz.prog = true := by kernel_rfl
theorem opsCells : Tryz.prog.cellsOf 47 = 9 := by kernel_rfl
theorem opsCellsI : Tryz.prog.cellsOf 3 = 1 := by kernel_rfl
theorem opsCellsF : Tryz.prog.cellsOf 45 = 1 := by kernel_rfl
theorem opsBytes : Tryz.prog.bytesOf 47 = 72 := by kernel_rfl
theorem ops_f64 {H : Type} {enc : TypeId × Value → H} {P : Program} {w : World} {base n : Nat} {spare : Nat → Bool} {held : Bool} {e : TypeId} {v : Value} {x : DataW H × List MemPlace} (ht : P.underlying e = some (.float .f64)) (h : DataW.trod enc P w base spare held n e [v] = some x) :
    ∃ b, v = .float .f64 b ∧ b < 18446744073709551616 := by
  cases n with
  | zero => simp [DataW.trod] at h
  | succ n =>
    cases v with
    | float k b =>
      simp only [DataW.trod, ht] at h
      by_cases hw : k = .f64 ∧ (Lit.float .f64 b).wf = true
      · obtain ⟨rfl, hw⟩ := hw
        exact ⟨b, rfl, by simpa [Lit.wf] using hw⟩
      · rw [if_neg hw] at h; cases h
    | _ => simp [DataW.trod, ht] at h
theorem op_cellsF {H : Type} {enc : TypeId × Value → H} {w : World} {base n : Nat} {spare : Nat → Bool} {held : Bool} {cs : List Value} {x : DataW H × List MemPlace} (h : DataW.trod enc Tryz.prog w base spare held n 47 cs = some x) :
    ∃ f : Opr, cs[0]? = some (.int .i64 f.kind) ∧ cs[1]? = some (.float .f64 f.x) ∧ cs[2]? = some (.float .f64 f.y) ∧ cs[3]? = some (.int .i64 f.day) ∧ cs[4]? = some (.int .i64 f.to) ∧ cs[5]? = some (.int .i64 f.cur) ∧ cs[6]? = some (.int .i64 f.count) ∧ cs[7]? = some (.int .i64 f.n) ∧ cs[8]? = some (.int .i64 f.months) ∧ OpU f := by
  obtain ⟨xs, m, _, _, hl, hlen, hf⟩ := DataW.trod_struct Tryz.underlying47 h
  rw [opsCells] at hl
  have hlen9 : xs.length = 9 := hlen
  have e0 : DataW.trod enc Tryz.prog w base spare held m 3 ((cs.drop 0).take (Tryz.prog.cellsOf 3)) = xs[0]? := hf 0 _ rfl
  have e1 : DataW.trod enc Tryz.prog w base spare held m 45 ((cs.drop 1).take (Tryz.prog.cellsOf 45)) = xs[1]? := hf 1 _ rfl
  have e2 : DataW.trod enc Tryz.prog w base spare held m 45 ((cs.drop 2).take (Tryz.prog.cellsOf 45)) = xs[2]? := hf 2 _ rfl
  have e3 : DataW.trod enc Tryz.prog w base spare held m 3 ((cs.drop 3).take (Tryz.prog.cellsOf 3)) = xs[3]? := hf 3 _ rfl
  have e4 : DataW.trod enc Tryz.prog w base spare held m 3 ((cs.drop 4).take (Tryz.prog.cellsOf 3)) = xs[4]? := hf 4 _ rfl
  have e5 : DataW.trod enc Tryz.prog w base spare held m 3 ((cs.drop 5).take (Tryz.prog.cellsOf 3)) = xs[5]? := hf 5 _ rfl
  have e6 : DataW.trod enc Tryz.prog w base spare held m 3 ((cs.drop 6).take (Tryz.prog.cellsOf 3)) = xs[6]? := hf 6 _ rfl
  have e7 : DataW.trod enc Tryz.prog w base spare held m 3 ((cs.drop 7).take (Tryz.prog.cellsOf 3)) = xs[7]? := hf 7 _ rfl
  have e8 : DataW.trod enc Tryz.prog w base spare held m 3 ((cs.drop 8).take (Tryz.prog.cellsOf 3)) = xs[8]? := hf 8 _ rfl
  rw [opsCellsI, List.getElem?_eq_getElem (by omega)] at e0 e3 e4 e5 e6 e7 e8
  rw [opsCellsF, List.getElem?_eq_getElem (by omega)] at e1 e2
  clear hf h
  match cs, hl, e0, e1, e2, e3, e4, e5, e6, e7, e8 with
  | [x0, x1, x2, x3, x4, x5, x6, x7, x8], _, e0, e1, e2, e3, e4, e5, e6, e7, e8 =>
    have e0' : DataW.trod enc Tryz.prog w base spare held m 3 [x0] = some xs[0] := e0
    have e1' : DataW.trod enc Tryz.prog w base spare held m 45 [x1] = some xs[1] := e1
    have e2' : DataW.trod enc Tryz.prog w base spare held m 45 [x2] = some xs[2] := e2
    have e3' : DataW.trod enc Tryz.prog w base spare held m 3 [x3] = some xs[3] := e3
    have e4' : DataW.trod enc Tryz.prog w base spare held m 3 [x4] = some xs[4] := e4
    have e5' : DataW.trod enc Tryz.prog w base spare held m 3 [x5] = some xs[5] := e5
    have e6' : DataW.trod enc Tryz.prog w base spare held m 3 [x6] = some xs[6] := e6
    have e7' : DataW.trod enc Tryz.prog w base spare held m 3 [x7] = some xs[7] := e7
    have e8' : DataW.trod enc Tryz.prog w base spare held m 3 [x8] = some xs[8] := e8
    obtain ⟨a0, hd0, _, hw0⟩ := DataW.trod_int Tryz.underlying3 e0'
    obtain rfl : x0 = .int .i64 a0 := (List.cons.inj hd0).1
    obtain ⟨a1, hd1, hlt1⟩ := ops_f64 Tryz.underlying45 e1'
    subst hd1
    obtain ⟨a2, hd2, hlt2⟩ := ops_f64 Tryz.underlying45 e2'
    subst hd2
    obtain ⟨a3, hd3, _, hw3⟩ := DataW.trod_int Tryz.underlying3 e3'
    obtain rfl : x3 = .int .i64 a3 := (List.cons.inj hd3).1
    obtain ⟨a4, hd4, _, hw4⟩ := DataW.trod_int Tryz.underlying3 e4'
    obtain rfl : x4 = .int .i64 a4 := (List.cons.inj hd4).1
    obtain ⟨a5, hd5, _, hw5⟩ := DataW.trod_int Tryz.underlying3 e5'
    obtain rfl : x5 = .int .i64 a5 := (List.cons.inj hd5).1
    obtain ⟨a6, hd6, _, hw6⟩ := DataW.trod_int Tryz.underlying3 e6'
    obtain rfl : x6 = .int .i64 a6 := (List.cons.inj hd6).1
    obtain ⟨a7, hd7, _, hw7⟩ := DataW.trod_int Tryz.underlying3 e7'
    obtain rfl : x7 = .int .i64 a7 := (List.cons.inj hd7).1
    obtain ⟨a8, hd8, _, hw8⟩ := DataW.trod_int Tryz.underlying3 e8'
    obtain rfl : x8 = .int .i64 a8 := (List.cons.inj hd8).1
    exact ⟨⟨a0, a1, a2, a3, a4, a5, a6, a7, a8⟩, rfl, rfl, rfl, rfl, rfl, rfl, rfl, rfl, rfl, ⟨by show U64 ((a1 : Nat) : Int); unfold U64; omega, by show U64 ((a2 : Nat) : Int); unfold U64; omega⟩⟩
theorem ops_source {H : Type} {enc : TypeId × Value → H} {W : World} {fuel : Nat} {v : Value} {x : DataW H × List MemPlace} (h : DataW.trod enc Tryz.prog W 0 (fun _ => true) true fuel 24 [v] = some x) :
    ∃ p len cap, v = .slice p len cap ∧ len ≤ cap ∧ cap ≤ maxLen ∧ (cap = 0 ∨ cap * 72 ∈ x.1.weights Tryz.prog 24) ∧ ∃ b off l, l.length = len ∧ OSrc W p b off l ∧ ∀ i < len, OpU (l.getD i opr0) := by
  rcases Go.Deep.open_slice Tryz.underlying24 h with ⟨hcs, _⟩ | ⟨a, len, cap, m, n, D, Pl, hcs, _, hl, hm, hmm, hxx, hc⟩
  · obtain rfl := (List.cons.inj hcs).1
    exact ⟨none, 0, 0, rfl, Nat.le_refl _, Nat.zero_le _, Or.inl rfl, 0, 0, [], rfl, ⟨fun h => by simp at h, fun h => by simp at h, fun i hi => by simp at hi, fun i hi => by simp at hi, fun i hi => by simp at hi, fun i hi => by simp at hi, fun i hi => by simp at hi, fun i hi => by simp at hi, fun i hi => by simp at hi, fun i hi => by simp at hi, fun i hi => by simp at hi⟩, fun r hr => by omega⟩
  · obtain rfl := (List.cons.inj hcs).1
    simp only [if_true] at hmm
    subst hmm
    obtain ⟨b, off, spot⟩ := a
    refine ⟨_, len, m, rfl, hl, hm, Or.inr (by rw [hxx]; simp only [DataW.weights, Tryz.underlying24, List.length_map, List.length_range, opsBytes, Nat.add_sub_cancel' hl]; exact List.mem_cons_self), ?_⟩
    rw [opsCells] at hc
    have hv : ∀ i, i < len → ∃ f : Opr, W.cell? (Addr.add (Addr.add ⟨b, off, spot⟩ (i * 9)) 0) = some (.int .i64 f.kind) ∧ W.cell? (Addr.add (Addr.add ⟨b, off, spot⟩ (i * 9)) 1) = some (.float .f64 f.x) ∧ W.cell? (Addr.add (Addr.add ⟨b, off, spot⟩ (i * 9)) 2) = some (.float .f64 f.y) ∧ W.cell? (Addr.add (Addr.add ⟨b, off, spot⟩ (i * 9)) 3) = some (.int .i64 f.day) ∧ W.cell? (Addr.add (Addr.add ⟨b, off, spot⟩ (i * 9)) 4) = some (.int .i64 f.to) ∧ W.cell? (Addr.add (Addr.add ⟨b, off, spot⟩ (i * 9)) 5) = some (.int .i64 f.cur) ∧ W.cell? (Addr.add (Addr.add ⟨b, off, spot⟩ (i * 9)) 6) = some (.int .i64 f.count) ∧ W.cell? (Addr.add (Addr.add ⟨b, off, spot⟩ (i * 9)) 7) = some (.int .i64 f.n) ∧ W.cell? (Addr.add (Addr.add ⟨b, off, spot⟩ (i * 9)) 8) = some (.int .i64 f.months) ∧ OpU f := fun i hi => by
      obtain ⟨cs', h1, h2⟩ := hc i (by omega)
      obtain ⟨_, _, hcell⟩ := World.cells?_some h1
      obtain ⟨f, g0, g1, g2, g3, g4, g5, g6, g7, g8, gi⟩ := op_cellsF h2
      exact ⟨f, (hcell 0 (by omega)).trans g0, (hcell 1 (by omega)).trans g1, (hcell 2 (by omega)).trans g2, (hcell 3 (by omega)).trans g3, (hcell 4 (by omega)).trans g4, (hcell 5 (by omega)).trans g5, (hcell 6 (by omega)).trans g6, (hcell 7 (by omega)).trans g7, (hcell 8 (by omega)).trans g8, gi⟩
    obtain ⟨F, hF⟩ : ∃ F : Nat → Opr, ∀ i, i < len → W.cell? (Addr.add (Addr.add ⟨b, off, spot⟩ (i * 9)) 0) = some (.int .i64 (F i).kind) ∧ W.cell? (Addr.add (Addr.add ⟨b, off, spot⟩ (i * 9)) 1) = some (.float .f64 (F i).x) ∧ W.cell? (Addr.add (Addr.add ⟨b, off, spot⟩ (i * 9)) 2) = some (.float .f64 (F i).y) ∧ W.cell? (Addr.add (Addr.add ⟨b, off, spot⟩ (i * 9)) 3) = some (.int .i64 (F i).day) ∧ W.cell? (Addr.add (Addr.add ⟨b, off, spot⟩ (i * 9)) 4) = some (.int .i64 (F i).to) ∧ W.cell? (Addr.add (Addr.add ⟨b, off, spot⟩ (i * 9)) 5) = some (.int .i64 (F i).cur) ∧ W.cell? (Addr.add (Addr.add ⟨b, off, spot⟩ (i * 9)) 6) = some (.int .i64 (F i).count) ∧ W.cell? (Addr.add (Addr.add ⟨b, off, spot⟩ (i * 9)) 7) = some (.int .i64 (F i).n) ∧ W.cell? (Addr.add (Addr.add ⟨b, off, spot⟩ (i * 9)) 8) = some (.int .i64 (F i).months) ∧ OpU (F i) := by
      refine ⟨fun i => if hi : i < len then (hv i hi).choose else opr0, fun i hi => ?_⟩
      dsimp only
      rw [dif_pos hi]
      exact (hv i hi).choose_spec
    have hg : ∀ i, i < len → ((List.range len).map F).getD i opr0 = F i := fun i hi => by simp [List.getD, hi]
    have hsp : 0 < len → spot = none := fun h0 => by
      have h2 := World.cell?_spot (hF 0 h0).1
      simpa [Addr.add] using h2
    have hgo : ∀ j, j < ((List.range len).map F).length → j < len ∧ spot = none := fun j hj => by
      have hj' : j < len := by simpa using hj
      exact ⟨hj', hsp (by omega)⟩
    refine ⟨b, off, (List.range len).map F, by simp, ⟨fun h0 => ?_, fun h0 => ?_, fun j hj => ?_, fun j hj => ?_, fun j hj => ?_, fun j hj => ?_, fun j hj => ?_, fun j hj => ?_, fun j hj => ?_, fun j hj => ?_, fun j hj => ?_⟩, fun i hi => ?_⟩
    · rw [hsp (by simpa using h0)]
    · have h3 := World.block_lt_of_cell? _ _ (hF 0 (by simpa using h0)).1
      simpa [Addr.add] using h3
    · obtain ⟨hj', rfl⟩ := hgo j hj
      rw [hg j hj']
      have a := (hF j hj').1
      rw [Addr.add_lit, Addr.add_lit] at a
      exact a
    · obtain ⟨hj', rfl⟩ := hgo j hj
      rw [hg j hj']
      have a := (hF j hj').2.1
      rw [Addr.add_lit, Addr.add_lit] at a
      exact a
    · obtain ⟨hj', rfl⟩ := hgo j hj
      rw [hg j hj']
      have a := (hF j hj').2.2.1
      rw [Addr.add_lit, Addr.add_lit] at a
      exact a
    · obtain ⟨hj', rfl⟩ := hgo j hj
      rw [hg j hj']
      have a := (hF j hj').2.2.2.1
      rw [Addr.add_lit, Addr.add_lit] at a
      exact a
    · obtain ⟨hj', rfl⟩ := hgo j hj
      rw [hg j hj']
      have a := (hF j hj').2.2.2.2.1
      rw [Addr.add_lit, Addr.add_lit] at a
      exact a
    · obtain ⟨hj', rfl⟩ := hgo j hj
      rw [hg j hj']
      have a := (hF j hj').2.2.2.2.2.1
      rw [Addr.add_lit, Addr.add_lit] at a
      exact a
    · obtain ⟨hj', rfl⟩ := hgo j hj
      rw [hg j hj']
      have a := (hF j hj').2.2.2.2.2.2.1
      rw [Addr.add_lit, Addr.add_lit] at a
      exact a
    · obtain ⟨hj', rfl⟩ := hgo j hj
      rw [hg j hj']
      have a := (hF j hj').2.2.2.2.2.2.2.1
      rw [Addr.add_lit, Addr.add_lit] at a
      exact a
    · obtain ⟨hj', rfl⟩ := hgo j hj
      rw [hg j hj']
      have a := (hF j hj').2.2.2.2.2.2.2.2.1
      rw [Addr.add_lit, Addr.add_lit] at a
      exact a
    · rw [hg i hi]
      exact (hF i hi).2.2.2.2.2.2.2.2.2
theorem ops_reach {H : Type} {ts : List TypeId} {ds : List (DataW H)} (h : (DataW.weightsEach Tryz.prog ts ds).all (· ≤ reachBytes) = true) {j c : Nat} {d : DataW H} (ht : ts[j]? = some 24) (hd : ds[j]? = some d) (hc : c = 0 ∨ c * 72 ∈ d.weights Tryz.prog 24) : c * 72 ≤ 140737488355328 := by
  rcases hc with rfl | hc
  · exact Nat.zero_le _
  · have h1 := of_decide_eq_true (List.all_eq_true.1 h _ (DataW.weights_mem_each ht hd _ hc))
    have h2 : reachBytes = 140737488351232 := by decide
    omega
end Go.Proofs.YtienedhaogjahaaGreatDoor
namespace Go.Proofs.YtienedhaogjahaaGreatDoor
open Go.ChangeShapes Go.WideShapes Go.ChangeAt Go.RowKit

theorem ops_nil {H : Type} {enc : TypeId × Value → H} {W : World} {fuel n c : Nat} {p : Option Addr} {x : DataW H × List MemPlace} (h : DataW.trod enc Tryz.prog W 0 (fun _ => true) true fuel 24 [.slice p n c] = some x) (hp : p = none) : n = 0 ∧ c = 0 := by
  subst hp
  rcases Go.Deep.open_slice Tryz.underlying24 h with ⟨hcs, _⟩ | ⟨a, len, cap, m, k, D, Pl, hcs, _⟩
  · have h1 := (List.cons.inj hcs).1
    injection h1 with h2 h3 h4
    exact ⟨h3, h4⟩
  · have h1 := (List.cons.inj hcs).1
    injection h1 with h2 h3 h4
    cases h2
end Go.Proofs.YtienedhaogjahaaGreatDoor
