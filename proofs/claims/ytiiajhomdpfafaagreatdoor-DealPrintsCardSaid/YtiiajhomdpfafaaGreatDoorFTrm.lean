/- A slice of terms that came in, as a list. -/
import Derived.Test.YtiiajhomdpfafaaGreatDoorHbd
import Derived.Test.YtiiajhomdpfafaaGreatDoorFOps
import Derived.Test.YtiiajhomdpfafaaGreatDoorRows
import Derived.ProofKit
import Derived.OpenShut
import Derived.Carry
import Derived.Deep.Slices
import Derived.SizedLaws
namespace Go.Proofs.YtiiajhomdpfafaaGreatDoor
open Go.ChangeShapes Go.WideShapes Go.ChangeAt Go.RowKit

theorem trsCells : Tryz.prog.cellsOf 47 = 11 := by kernel_rfl
theorem trsCellsI : Tryz.prog.cellsOf 3 = 1 := by kernel_rfl
theorem trsCellsF : Tryz.prog.cellsOf 43 = 1 := by kernel_rfl
theorem trsBytes : Tryz.prog.bytesOf 47 = 88 := by kernel_rfl
theorem tr_cellsF {H : Type} {enc : TypeId × Value → H} {w : World} {base n : Nat} {spare : Nat → Bool} {held : Bool} {cs : List Value} {x : DataW H × List MemPlace} (h : DataW.trod enc Tryz.prog w base spare held n 47 cs = some x) :
    ∃ f : Trm, cs[0]? = some (.int .i64 f.kind) ∧ cs[1]? = some (.int .i64 f.a) ∧ cs[2]? = some (.int .i64 f.b) ∧ cs[3]? = some (.float .f64 f.x) ∧ cs[4]? = some (.float .f64 f.y) ∧ cs[5]? = some (.int .i64 f.day) ∧ cs[6]? = some (.int .i64 f.to) ∧ cs[7]? = some (.int .i64 f.cur) ∧ cs[8]? = some (.int .i64 f.count) ∧ cs[9]? = some (.int .i64 f.n) ∧ cs[10]? = some (.int .i64 f.months) ∧ TrU f := by
  obtain ⟨xs, m, _, _, hl, hlen, hf⟩ := DataW.trod_struct Tryz.underlying47 h
  rw [trsCells] at hl
  have hlen9 : xs.length = 11 := hlen
  have e0 : DataW.trod enc Tryz.prog w base spare held m 3 ((cs.drop 0).take (Tryz.prog.cellsOf 3)) = xs[0]? := hf 0 _ rfl
  have e1 : DataW.trod enc Tryz.prog w base spare held m 3 ((cs.drop 1).take (Tryz.prog.cellsOf 3)) = xs[1]? := hf 1 _ rfl
  have e2 : DataW.trod enc Tryz.prog w base spare held m 3 ((cs.drop 2).take (Tryz.prog.cellsOf 3)) = xs[2]? := hf 2 _ rfl
  have e3 : DataW.trod enc Tryz.prog w base spare held m 43 ((cs.drop 3).take (Tryz.prog.cellsOf 43)) = xs[3]? := hf 3 _ rfl
  have e4 : DataW.trod enc Tryz.prog w base spare held m 43 ((cs.drop 4).take (Tryz.prog.cellsOf 43)) = xs[4]? := hf 4 _ rfl
  have e5 : DataW.trod enc Tryz.prog w base spare held m 3 ((cs.drop 5).take (Tryz.prog.cellsOf 3)) = xs[5]? := hf 5 _ rfl
  have e6 : DataW.trod enc Tryz.prog w base spare held m 3 ((cs.drop 6).take (Tryz.prog.cellsOf 3)) = xs[6]? := hf 6 _ rfl
  have e7 : DataW.trod enc Tryz.prog w base spare held m 3 ((cs.drop 7).take (Tryz.prog.cellsOf 3)) = xs[7]? := hf 7 _ rfl
  have e8 : DataW.trod enc Tryz.prog w base spare held m 3 ((cs.drop 8).take (Tryz.prog.cellsOf 3)) = xs[8]? := hf 8 _ rfl
  have e9 : DataW.trod enc Tryz.prog w base spare held m 3 ((cs.drop 9).take (Tryz.prog.cellsOf 3)) = xs[9]? := hf 9 _ rfl
  have e10 : DataW.trod enc Tryz.prog w base spare held m 3 ((cs.drop 10).take (Tryz.prog.cellsOf 3)) = xs[10]? := hf 10 _ rfl
  rw [trsCellsI, List.getElem?_eq_getElem (by omega)] at e0 e1 e2 e5 e6 e7 e8 e9 e10
  rw [trsCellsF, List.getElem?_eq_getElem (by omega)] at e3 e4
  clear hf h
  match cs, hl, e0, e1, e2, e3, e4, e5, e6, e7, e8, e9, e10 with
  | [x0, x1, x2, x3, x4, x5, x6, x7, x8, x9, x10], _, e0, e1, e2, e3, e4, e5, e6, e7, e8, e9, e10 =>
    have e0' : DataW.trod enc Tryz.prog w base spare held m 3 [x0] = some xs[0] := e0
    have e1' : DataW.trod enc Tryz.prog w base spare held m 3 [x1] = some xs[1] := e1
    have e2' : DataW.trod enc Tryz.prog w base spare held m 3 [x2] = some xs[2] := e2
    have e3' : DataW.trod enc Tryz.prog w base spare held m 43 [x3] = some xs[3] := e3
    have e4' : DataW.trod enc Tryz.prog w base spare held m 43 [x4] = some xs[4] := e4
    have e5' : DataW.trod enc Tryz.prog w base spare held m 3 [x5] = some xs[5] := e5
    have e6' : DataW.trod enc Tryz.prog w base spare held m 3 [x6] = some xs[6] := e6
    have e7' : DataW.trod enc Tryz.prog w base spare held m 3 [x7] = some xs[7] := e7
    have e8' : DataW.trod enc Tryz.prog w base spare held m 3 [x8] = some xs[8] := e8
    have e9' : DataW.trod enc Tryz.prog w base spare held m 3 [x9] = some xs[9] := e9
    have e10' : DataW.trod enc Tryz.prog w base spare held m 3 [x10] = some xs[10] := e10
    obtain ⟨a0, hd0, _, hw0⟩ := DataW.trod_int Tryz.underlying3 e0'
    obtain rfl : x0 = .int .i64 a0 := (List.cons.inj hd0).1
    obtain ⟨a1, hd1, _, hw1⟩ := DataW.trod_int Tryz.underlying3 e1'
    obtain rfl : x1 = .int .i64 a1 := (List.cons.inj hd1).1
    obtain ⟨a2, hd2, _, hw2⟩ := DataW.trod_int Tryz.underlying3 e2'
    obtain rfl : x2 = .int .i64 a2 := (List.cons.inj hd2).1
    obtain ⟨a3, hd3, hlt3⟩ := ops_f64 Tryz.underlying43 e3'
    subst hd3
    obtain ⟨a4, hd4, hlt4⟩ := ops_f64 Tryz.underlying43 e4'
    subst hd4
    obtain ⟨a5, hd5, _, hw5⟩ := DataW.trod_int Tryz.underlying3 e5'
    obtain rfl : x5 = .int .i64 a5 := (List.cons.inj hd5).1
    obtain ⟨a6, hd6, _, hw6⟩ := DataW.trod_int Tryz.underlying3 e6'
    obtain rfl : x6 = .int .i64 a6 := (List.cons.inj hd6).1
    obtain ⟨a7, hd7, _, hw7⟩ := DataW.trod_int Tryz.underlying3 e7'
    obtain rfl : x7 = .int .i64 a7 := (List.cons.inj hd7).1
    obtain ⟨a8, hd8, _, hw8⟩ := DataW.trod_int Tryz.underlying3 e8'
    obtain rfl : x8 = .int .i64 a8 := (List.cons.inj hd8).1
    obtain ⟨a9, hd9, _, hw9⟩ := DataW.trod_int Tryz.underlying3 e9'
    obtain rfl : x9 = .int .i64 a9 := (List.cons.inj hd9).1
    obtain ⟨a10, hd10, _, hw10⟩ := DataW.trod_int Tryz.underlying3 e10'
    obtain rfl : x10 = .int .i64 a10 := (List.cons.inj hd10).1
    exact ⟨⟨a0, a1, a2, a3, a4, a5, a6, a7, a8, a9, a10⟩, rfl, rfl, rfl, rfl, rfl, rfl, rfl, rfl, rfl, rfl, rfl, ⟨by show U64 ((a3 : Nat) : Int); unfold U64; omega, by show U64 ((a4 : Nat) : Int); unfold U64; omega⟩⟩
theorem trs_source {H : Type} {enc : TypeId × Value → H} {W : World} {fuel : Nat} {v : Value} {x : DataW H × List MemPlace} (h : DataW.trod enc Tryz.prog W 0 (fun _ => true) true fuel 22 [v] = some x) :
    ∃ p len cap, v = .slice p len cap ∧ len ≤ cap ∧ cap ≤ maxLen ∧ (cap = 0 ∨ cap * 88 ∈ x.1.weights Tryz.prog 22) ∧ ∃ b off l, l.length = len ∧ TSrc W p b off l ∧ ∀ i < len, TrU (l.getD i trm0) := by
  rcases Go.Deep.open_slice Tryz.underlying22 h with ⟨hcs, _⟩ | ⟨a, len, cap, m, n, D, Pl, hcs, _, hl, hm, hmm, hxx, hc⟩
  · obtain rfl := (List.cons.inj hcs).1
    exact ⟨none, 0, 0, rfl, Nat.le_refl _, Nat.zero_le _, Or.inl rfl, 0, 0, [], rfl, ⟨fun h => by simp at h, fun h => by simp at h, fun i hi => by simp at hi, fun i hi => by simp at hi, fun i hi => by simp at hi, fun i hi => by simp at hi, fun i hi => by simp at hi, fun i hi => by simp at hi, fun i hi => by simp at hi, fun i hi => by simp at hi, fun i hi => by simp at hi, fun i hi => by simp at hi, fun i hi => by simp at hi⟩, fun r hr => by omega⟩
  · obtain rfl := (List.cons.inj hcs).1
    simp only [if_true] at hmm
    subst hmm
    obtain ⟨b, off, spot⟩ := a
    refine ⟨_, len, m, rfl, hl, hm, Or.inr (by rw [hxx]; simp only [DataW.weights, Tryz.underlying22, List.length_map, List.length_range, trsBytes, Nat.add_sub_cancel' hl]; exact List.mem_cons_self), ?_⟩
    rw [trsCells] at hc
    have hv : ∀ i, i < len → ∃ f : Trm, W.cell? (Addr.add (Addr.add ⟨b, off, spot⟩ (i * 11)) 0) = some (.int .i64 f.kind) ∧ W.cell? (Addr.add (Addr.add ⟨b, off, spot⟩ (i * 11)) 1) = some (.int .i64 f.a) ∧ W.cell? (Addr.add (Addr.add ⟨b, off, spot⟩ (i * 11)) 2) = some (.int .i64 f.b) ∧ W.cell? (Addr.add (Addr.add ⟨b, off, spot⟩ (i * 11)) 3) = some (.float .f64 f.x) ∧ W.cell? (Addr.add (Addr.add ⟨b, off, spot⟩ (i * 11)) 4) = some (.float .f64 f.y) ∧ W.cell? (Addr.add (Addr.add ⟨b, off, spot⟩ (i * 11)) 5) = some (.int .i64 f.day) ∧ W.cell? (Addr.add (Addr.add ⟨b, off, spot⟩ (i * 11)) 6) = some (.int .i64 f.to) ∧ W.cell? (Addr.add (Addr.add ⟨b, off, spot⟩ (i * 11)) 7) = some (.int .i64 f.cur) ∧ W.cell? (Addr.add (Addr.add ⟨b, off, spot⟩ (i * 11)) 8) = some (.int .i64 f.count) ∧ W.cell? (Addr.add (Addr.add ⟨b, off, spot⟩ (i * 11)) 9) = some (.int .i64 f.n) ∧ W.cell? (Addr.add (Addr.add ⟨b, off, spot⟩ (i * 11)) 10) = some (.int .i64 f.months) ∧ TrU f := fun i hi => by
      obtain ⟨cs', h1, h2⟩ := hc i (by omega)
      obtain ⟨_, _, hcell⟩ := World.cells?_some h1
      obtain ⟨f, g0, g1, g2, g3, g4, g5, g6, g7, g8, g9, g10, gi⟩ := tr_cellsF h2
      exact ⟨f, (hcell 0 (by omega)).trans g0, (hcell 1 (by omega)).trans g1, (hcell 2 (by omega)).trans g2, (hcell 3 (by omega)).trans g3, (hcell 4 (by omega)).trans g4, (hcell 5 (by omega)).trans g5, (hcell 6 (by omega)).trans g6, (hcell 7 (by omega)).trans g7, (hcell 8 (by omega)).trans g8, (hcell 9 (by omega)).trans g9, (hcell 10 (by omega)).trans g10, gi⟩
    obtain ⟨F, hF⟩ : ∃ F : Nat → Trm, ∀ i, i < len → W.cell? (Addr.add (Addr.add ⟨b, off, spot⟩ (i * 11)) 0) = some (.int .i64 (F i).kind) ∧ W.cell? (Addr.add (Addr.add ⟨b, off, spot⟩ (i * 11)) 1) = some (.int .i64 (F i).a) ∧ W.cell? (Addr.add (Addr.add ⟨b, off, spot⟩ (i * 11)) 2) = some (.int .i64 (F i).b) ∧ W.cell? (Addr.add (Addr.add ⟨b, off, spot⟩ (i * 11)) 3) = some (.float .f64 (F i).x) ∧ W.cell? (Addr.add (Addr.add ⟨b, off, spot⟩ (i * 11)) 4) = some (.float .f64 (F i).y) ∧ W.cell? (Addr.add (Addr.add ⟨b, off, spot⟩ (i * 11)) 5) = some (.int .i64 (F i).day) ∧ W.cell? (Addr.add (Addr.add ⟨b, off, spot⟩ (i * 11)) 6) = some (.int .i64 (F i).to) ∧ W.cell? (Addr.add (Addr.add ⟨b, off, spot⟩ (i * 11)) 7) = some (.int .i64 (F i).cur) ∧ W.cell? (Addr.add (Addr.add ⟨b, off, spot⟩ (i * 11)) 8) = some (.int .i64 (F i).count) ∧ W.cell? (Addr.add (Addr.add ⟨b, off, spot⟩ (i * 11)) 9) = some (.int .i64 (F i).n) ∧ W.cell? (Addr.add (Addr.add ⟨b, off, spot⟩ (i * 11)) 10) = some (.int .i64 (F i).months) ∧ TrU (F i) := by
      refine ⟨fun i => if hi : i < len then (hv i hi).choose else trm0, fun i hi => ?_⟩
      dsimp only
      rw [dif_pos hi]
      exact (hv i hi).choose_spec
    have hg : ∀ i, i < len → ((List.range len).map F).getD i trm0 = F i := fun i hi => by simp [List.getD, hi]
    have hsp : 0 < len → spot = none := fun h0 => by
      have h2 := World.cell?_spot (hF 0 h0).1
      simpa [Addr.add] using h2
    have hgo : ∀ j, j < ((List.range len).map F).length → j < len ∧ spot = none := fun j hj => by
      have hj' : j < len := by simpa using hj
      exact ⟨hj', hsp (by omega)⟩
    refine ⟨b, off, (List.range len).map F, by simp, ⟨fun h0 => ?_, fun h0 => ?_, fun j hj => ?_, fun j hj => ?_, fun j hj => ?_, fun j hj => ?_, fun j hj => ?_, fun j hj => ?_, fun j hj => ?_, fun j hj => ?_, fun j hj => ?_, fun j hj => ?_, fun j hj => ?_⟩, fun i hi => ?_⟩
    · rw [hsp (by simpa using h0)]
    · have h3 := World.block_lt_of_cell? _ _ (hF 0 (by simpa using h0)).1
      simpa [Addr.add] using h3
    · obtain ⟨hj', rfl⟩ := hgo j hj
      rw [hg j hj']
      have a := (hF j hj').1
      rw [Addr.add_lit, Addr.add_lit] at a
      exact a
    · obtain ⟨hj', rfl⟩ := hgo j hj
      rw [hg j hj']
      have a := (hF j hj').2.1
      rw [Addr.add_lit, Addr.add_lit] at a
      exact a
    · obtain ⟨hj', rfl⟩ := hgo j hj
      rw [hg j hj']
      have a := (hF j hj').2.2.1
      rw [Addr.add_lit, Addr.add_lit] at a
      exact a
    · obtain ⟨hj', rfl⟩ := hgo j hj
      rw [hg j hj']
      have a := (hF j hj').2.2.2.1
      rw [Addr.add_lit, Addr.add_lit] at a
      exact a
    · obtain ⟨hj', rfl⟩ := hgo j hj
      rw [hg j hj']
      have a := (hF j hj').2.2.2.2.1
      rw [Addr.add_lit, Addr.add_lit] at a
      exact a
    · obtain ⟨hj', rfl⟩ := hgo j hj
      rw [hg j hj']
      have a := (hF j hj').2.2.2.2.2.1
      rw [Addr.add_lit, Addr.add_lit] at a
      exact a
    · obtain ⟨hj', rfl⟩ := hgo j hj
      rw [hg j hj']
      have a := (hF j hj').2.2.2.2.2.2.1
      rw [Addr.add_lit, Addr.add_lit] at a
      exact a
    · obtain ⟨hj', rfl⟩ := hgo j hj
      rw [hg j hj']
      have a := (hF j hj').2.2.2.2.2.2.2.1
      rw [Addr.add_lit, Addr.add_lit] at a
      exact a
    · obtain ⟨hj', rfl⟩ := hgo j hj
      rw [hg j hj']
      have a := (hF j hj').2.2.2.2.2.2.2.2.1
      rw [Addr.add_lit, Addr.add_lit] at a
      exact a
    · obtain ⟨hj', rfl⟩ := hgo j hj
      rw [hg j hj']
      have a := (hF j hj').2.2.2.2.2.2.2.2.2.1
      rw [Addr.add_lit, Addr.add_lit] at a
      exact a
    · obtain ⟨hj', rfl⟩ := hgo j hj
      rw [hg j hj']
      have a := (hF j hj').2.2.2.2.2.2.2.2.2.2.1
      rw [Addr.add_lit, Addr.add_lit] at a
      exact a
    · rw [hg i hi]
      exact (hF i hi).2.2.2.2.2.2.2.2.2.2.2
theorem trs_reach {H : Type} {ts : List TypeId} {ds : List (DataW H)} (h : (DataW.weightsEach Tryz.prog ts ds).all (· ≤ reachBytes) = true) {j c : Nat} {d : DataW H} (ht : ts[j]? = some 22) (hd : ds[j]? = some d) (hc : c = 0 ∨ c * 88 ∈ d.weights Tryz.prog 22) : c * 88 ≤ 140737488355328 := by
  rcases hc with rfl | hc
  · exact Nat.zero_le _
  · have h1 := of_decide_eq_true (List.all_eq_true.1 h _ (DataW.weights_mem_each ht hd _ hc))
    have h2 : reachBytes = 140737488351232 := by decide
    omega
end Go.Proofs.YtiiajhomdpfafaaGreatDoor
