/- The contract of Join where it answers. -/
import Derived.Test.YtglkhoekpafddaaQJoinC
import Derived.Deep.RegionHeld3
namespace Go.Proofs.Ytglkhoekpafddaa
open Go.RowKit

theorem RSrc.put {w : World} {p : Option Addr} {b off bb j : Nat} {rs : List Rul} {x : Value} (h : RSrc w p b off rs) (hne : b ≠ bb) : RSrc (w.setCell ⟨bb, j, none⟩ x) p b off rs := by
  have hb : (w.setCell ⟨bb, j, none⟩ x).heap[b]? = w.heap[b]? := Below.heap_setCell w ⟨bb, j, none⟩ x b hne
  have hc : ∀ o, (w.setCell ⟨bb, j, none⟩ x).cell? ⟨b, o, none⟩ = w.cell? ⟨b, o, none⟩ := fun o => World.cell?_of_block (w := w) hb
  exact ⟨h.at_, fun hx => by simpa using h.lt hx, fun i hi => by
    obtain ⟨c0, c1, c2, c3, c4, c5, c6, c7, c8⟩ := h.cell i hi
    exact ⟨(hc _).trans c0, (hc _).trans c1, (hc _).trans c2, (hc _).trans c3, (hc _).trans c4, (hc _).trans c5, (hc _).trans c6, (hc _).trans c7, (hc _).trans c8⟩⟩
/-- A slice of rules that may be written. -/
structure RSrcW (w : World) (p : Option Addr) (b off : Nat) (rs : List Rul) : Prop where
  src : RSrc w p b off rs
  frz : 0 < rs.length → ∀ j, w.frozen? ⟨b, j, none⟩ = false
theorem RSrcW.below {w w' : World} {p : Option Addr} {b off : Nat} {rs : List Rul} (h : RSrcW w p b off rs) (hb : Below w.heap.size w w') : RSrcW w' p b off rs :=
  ⟨h.src.below hb, fun hx j => (hb.frozen (p := ⟨b, j, none⟩) (h.src.lt hx)).trans (h.frz hx j)⟩
theorem RSrcW.put {w : World} {p : Option Addr} {b off bb j : Nat} {rs : List Rul} {x : Value} (h : RSrcW w p b off rs) (hne : b ≠ bb) : RSrcW (w.setCell ⟨bb, j, none⟩ x) p b off rs :=
  ⟨h.src.put hne, fun hx i => by
    have e : (w.setCell ⟨bb, j, none⟩ x).frozen? ⟨b, i, none⟩ = w.frozen? ⟨b, i, none⟩ := World.frozen?_of_block (w := w) (Below.heap_setCell w ⟨bb, j, none⟩ x b hne)
    rw [e]; exact h.frz hx i⟩
theorem own_srcW {w : World} {base n : Nat} {v : Value} {rs : List Rul} (h : w.ownsRow base 47 9 v n (rowC rs)) (hn : rs.length = n) :
    ∃ p g c, v = .slice p n c ∧ RSrcW w p g 0 rs ∧ base ≤ g := by
  obtain ⟨p, g, c, hv, hs, hb, _, _⟩ := own_src h hn
  refine ⟨p, g, c, hv, ⟨hs, fun hx j => ?_⟩, hb⟩
  rcases h.2 with ⟨rfl, rfl⟩ | ⟨g', cap, cur, rfl, _, hh, _⟩
  · omega
  · have e := hs.at_ hx
    obtain ⟨e2, _, _⟩ := slice_inj hv
    rw [e] at e2
    obtain rfl : g' = g := by
      have := Option.some.inj e2
      exact congrArg Addr.block this
    simp [World.frozen?, hh]
/-- Join's own calendar stands at bb. -/
structure JF (w : World) (W : Int) (v : Value) (W' : Int) (v' : Value) (bb g : Nat) (O : Int) (q : Option Addr) (n k : Nat) (rs : List Rul) (wr : World) : Prop where
  box : CBox3 w W v W' v' wr
  src : RSrcW wr q g 0 rs
  t0 : wr.cell? ⟨bb, 0, none⟩ = some (.int .i64 O)
  t1 : wr.cell? ⟨bb, 1, none⟩ = some (.slice q n k)
  lt : bb < wr.heap.size
  lo : w.heap.size + 3 ≤ g
theorem JF.step {w wr w' : World} {W W' O : Int} {v v' : Value} {bb g n k : Nat} {q : Option Addr} {rs : List Rul} (h : JF w W v W' v' bb g O q n k rs wr) (hb : Below wr.heap.size wr w') : JF w W v W' v' bb g O q n k rs w' :=
  ⟨h.box.step hb, h.src.below hb, (hb.cell (p := ⟨bb, 0, none⟩) h.lt).trans h.t0, (hb.cell (p := ⟨bb, 1, none⟩) h.lt).trans h.t1, Nat.lt_of_lt_of_le h.lt hb.size, h.lo⟩
/-- It was made behind the rules. -/
theorem jf_a {w wr w3 : World} {W W' O : Int} {v v' : Value} {g n k : Nat} {q : Option Addr} {rs : List Rul} {S : Obj} (hB : CBox4 w W v W' v' wr) (hs : RSrcW w3 q g 0 rs) (hg : (wr.alloc S).heap.size ≤ g) (hb : Below (wr.alloc S).heap.size (wr.alloc S) w3) :
    JF w W v W' v' w3.heap.size g O q n k rs (w3.alloc (.cells #[.int .i64 O, .slice q n k] 24)) := by
  have h3 : CBox3 w W v W' v' w3 := (hB.box.step ((Below.refl _ wr).alloc (Nat.le_refl _) S)).step hb
  have hsz := hB.sz
  have hz : (wr.alloc S).heap.size = wr.heap.size + 1 := by simp
  exact ⟨h3.step ((Below.refl _ w3).alloc (Nat.le_refl _) _), hs.below ((Below.refl _ w3).alloc (Nat.le_refl _) _), by simp, by simp, by simp, by omega⟩
/-- It was made ahead of the rules. -/
theorem jf_b {w wr w3 : World} {W W' O : Int} {v v' : Value} {bb g n k : Nat} {q : Option Addr} {rs : List Rul} {X : World} (hB : CBox3 w W v W' v' X) (hX : w.heap.size + 3 ≤ wr.heap.size) (hbb : wr.heap.size ≤ bb) (hbX : bb < X.heap.size) (y0 : X.cell? ⟨bb, 0, none⟩ = some (.int .i64 0)) (y1 : X.cell? ⟨bb, 1, none⟩ = some (.slice none 0 0)) (hs : RSrcW w3 q g 0 rs) (hg : X.heap.size ≤ g) (hb : Below X.heap.size X w3) :
    JF w W v W' v' bb g O q n k rs ((w3.setCell ⟨bb, 0, none⟩ (.int .i64 O)).setCell ⟨bb, 1, none⟩ (.slice q n k)) := by
  have h3 := hB.step hb
  have z0 := (hb.cell (p := ⟨bb, 0, none⟩) hbX).trans y0
  have z1 := (hb.cell (p := ⟨bb, 1, none⟩) hbX).trans y1
  obtain ⟨x0, x1⟩ := put2 (x := .int .i64 O) (y := .slice q n k) z0 z1
  have hbs : Below bb w3 ((w3.setCell ⟨bb, 0, none⟩ (.int .i64 O)).setCell ⟨bb, 1, none⟩ (.slice q n k)) := ((Below.refl bb w3).setCell (p := ⟨bb, 0, none⟩) (Nat.le_refl _) _).setCell (p := ⟨bb, 1, none⟩) (Nat.le_refl _) _
  exact ⟨h3.stay hbs (by omega), (hs.put (by omega)).put (by omega), x0, x1, by have := hb.size; simp; omega, by omega⟩

/-- The four cells of the two calendars. -/
def Four (w : World) (W : Int) (v : Value) (W' : Int) (v' : Value) (x : World) : Prop := x.cell? ⟨w.heap.size, 0, none⟩ = some (.int .i64 W) ∧ x.cell? ⟨w.heap.size, 1, none⟩ = some v ∧ x.cell? ⟨w.heap.size + 1, 0, none⟩ = some (.int .i64 W') ∧ x.cell? ⟨w.heap.size + 1, 1, none⟩ = some v'
theorem CBox3.four {w wr : World} {W W' : Int} {v v' : Value} (h : CBox3 w W v W' v' wr) : Four w W v W' v' wr := ⟨h.two.a0, h.two.a1, h.two.b0, h.two.b1⟩
/-- What Concat tells, in whichever order Join's own calendar is made. -/
structure JC (w : World) (W W' O : Int) (p p' : Option Addr) (c c' N N' : Nat) (rs rs' : List Rul) (wr : World) : Prop where
  a : Calls Try.prog 38 #[.slice (some ⟨wr.heap.size, 0, none⟩) 2 2] (wr.alloc (.cells #[.slice p N c, .slice p' N' c'] 22)).drew fun e w' => ∃ q g k, e = .returned (.slice q (N + N') k) ∧ Hid (CBox3 w W (.slice p N c) W' (.slice p' N' c') w') ∧ Hid (JF w W (.slice p N c) W' (.slice p' N' c') w'.heap.size g O q (N + N') k (rs ++ rs') (w'.alloc (.cells #[.int .i64 O, .slice q (N + N') k] 24)))
  b : Calls Try.prog 38 #[.slice (some ⟨wr.heap.size + 1, 0, none⟩) 2 2] ((wr.alloc (.cells #[.int .i64 0, .slice none 0 0] 24)).alloc (.cells #[.slice p N c, .slice p' N' c'] 22)).drew fun e w' => ∃ q g k, e = .returned (.slice q (N + N') k) ∧ Hid (CBox3 w W (.slice p N c) W' (.slice p' N' c') w') ∧ w'.cell? ⟨wr.heap.size, 0, none⟩ = some (.int .i64 0) ∧ w'.cell? ⟨wr.heap.size, 1, none⟩ = some (.slice none 0 0) ∧ w'.frozen? ⟨wr.heap.size, 0, none⟩ = false ∧ w'.frozen? ⟨wr.heap.size, 1, none⟩ = false ∧ Hid (JF w W (.slice p N c) W' (.slice p' N' c') wr.heap.size g O q (N + N') k (rs ++ rs') ((w'.setCell ⟨wr.heap.size, 0, none⟩ (.int .i64 O)).setCell ⟨wr.heap.size, 1, none⟩ (.slice q (N + N') k)))
  c : Calls Try.prog 38 #[.slice (some ⟨wr.heap.size, 0, none⟩) 2 2] ((wr.alloc (.cells #[.slice p N c, .slice p' N' c'] 22)).alloc (.cells #[.int .i64 0, .slice none 0 0] 24)).drew fun e w' => ∃ q g k, e = .returned (.slice q (N + N') k) ∧ Hid (CBox3 w W (.slice p N c) W' (.slice p' N' c') w') ∧ w'.cell? ⟨wr.heap.size + 1, 0, none⟩ = some (.int .i64 0) ∧ w'.cell? ⟨wr.heap.size + 1, 1, none⟩ = some (.slice none 0 0) ∧ w'.frozen? ⟨wr.heap.size + 1, 0, none⟩ = false ∧ w'.frozen? ⟨wr.heap.size + 1, 1, none⟩ = false ∧ Hid (JF w W (.slice p N c) W' (.slice p' N' c') (wr.heap.size + 1) g O q (N + N') k (rs ++ rs') ((w'.setCell ⟨wr.heap.size + 1, 0, none⟩ (.int .i64 O)).setCell ⟨wr.heap.size + 1, 1, none⟩ (.slice q (N + N') k)))

set_option maxHeartbeats 1600000 in
theorem jc_of (w : World) (W W' O : Int) (p p' : Option Addr) (c c' N N' : Nat) (rs rs' : List Rul) (wr : World) (HB : CBox4 w W (.slice p N c) W' (.slice p' N' c') wr)
    (HCc : ∀ wx bs, Below w.heap.size w wx → bs < wx.heap.size → wx.cell? ⟨bs, 0, none⟩ = some (.slice p N c) → wx.cell? ⟨bs, 1, none⟩ = some (.slice p' N' c') → Calls Try.prog 38 #[.slice (some ⟨bs, 0, none⟩) 2 2] wx fun e w' => ∃ q g k, e = .returned (.slice q (N + N') k) ∧ RSrcW w' q g 0 (rs ++ rs') ∧ wx.heap.size ≤ g ∧ Below wx.heap.size wx w') : JC w W W' O p p' c c' N N' rs rs' wr := by
  obtain ⟨S, hS⟩ : ∃ S, Obj.cells #[.slice p N c, .slice p' N' c'] 22 = S := ⟨_, rfl⟩
  obtain ⟨Bo, hBo⟩ : ∃ Bo, Obj.cells #[.int .i64 0, .slice none 0 0] 24 = Bo := ⟨_, rfl⟩
  have hlo := HB.box.sz
  have HBa : ∀ o, CBox4 w W (.slice p N c) W' (.slice p' N' c') (wr.alloc o) := fun o => HB.step ((Below.refl _ wr).alloc (Nat.le_refl _) o)
  have e1 : (wr.alloc S).cell? ⟨wr.heap.size, 0, none⟩ = some (.slice p N c) ∧ (wr.alloc S).cell? ⟨wr.heap.size, 1, none⟩ = some (.slice p' N' c') := by rw [← hS]; simp
  refine ⟨?_, ?_, ?_⟩
  · rw [hS]
    refine (HCc (wr.alloc S).drew wr.heap.size ((HBa S).box.two.bl.drew) (by simp) e1.1 e1.2).mono ?_
    rintro e w' ⟨q, g, k, he, hsr, hg, hb⟩
    have hb' : Below (wr.alloc S).heap.size (wr.alloc S) w' := ⟨hb.os, hb.tape, hb.output, hb.size, hb.block⟩
    exact ⟨q, g, k, he, (HBa S).box.step hb', jf_a HB hsr hg hb'⟩
  · have hX := (HBa Bo).step ((Below.refl _ (wr.alloc Bo)).alloc (Nat.le_refl _) S)
    have y0 : ((wr.alloc Bo).alloc S).cell? ⟨wr.heap.size, 0, none⟩ = some (.int .i64 0) := by rw [old_cell _ _ (by simp), ← hBo]; simp
    have y1 : ((wr.alloc Bo).alloc S).cell? ⟨wr.heap.size, 1, none⟩ = some (.slice none 0 0) := by rw [old_cell _ _ (by simp), ← hBo]; simp
    have yf : ∀ j, ((wr.alloc Bo).alloc S).frozen? ⟨wr.heap.size, j, none⟩ = false := fun j => by
      rw [((Below.refl _ (wr.alloc Bo)).alloc (Nat.le_refl _) S).frozen (p := ⟨wr.heap.size, j, none⟩) (by simp), ← hBo]
      exact World.frozen?_alloc_new _ _ _ _
    rw [hS, hBo]
    refine (HCc ((wr.alloc Bo).alloc S).drew (wr.heap.size + 1) (hX.box.two.bl.drew) (by simp) (by rw [← hS]; exact new_cell _ _ 0 (by simp)) (by rw [← hS]; exact new_cell _ _ 1 (by simp))).mono ?_
    rintro e w' ⟨q, g, k, he, hsr, hg, hb⟩
    have hz : wr.heap.size < ((wr.alloc Bo).alloc S).heap.size := by simp <;> omega
    have hb' : Below ((wr.alloc Bo).alloc S).heap.size ((wr.alloc Bo).alloc S) w' := ⟨hb.os, hb.tape, hb.output, hb.size, hb.block⟩
    exact ⟨q, g, k, he, hX.box.step hb', (hb'.cell (p := ⟨wr.heap.size, 0, none⟩) hz).trans y0, (hb'.cell (p := ⟨wr.heap.size, 1, none⟩) hz).trans y1, (hb'.frozen (p := ⟨wr.heap.size, 0, none⟩) hz).trans (yf 0), (hb'.frozen (p := ⟨wr.heap.size, 1, none⟩) hz).trans (yf 1), jf_b hX.box hlo (Nat.le_refl _) hz y0 y1 hsr hg hb'⟩
  · have hX := (HBa S).step ((Below.refl _ (wr.alloc S)).alloc (Nat.le_refl _) Bo)
    have y0 : ((wr.alloc S).alloc Bo).cell? ⟨wr.heap.size + 1, 0, none⟩ = some (.int .i64 0) := by rw [← hBo]; exact new_cell _ _ 0 (by simp)
    have y1 : ((wr.alloc S).alloc Bo).cell? ⟨wr.heap.size + 1, 1, none⟩ = some (.slice none 0 0) := by rw [← hBo]; exact new_cell _ _ 1 (by simp)
    have yf : ∀ j, ((wr.alloc S).alloc Bo).frozen? ⟨wr.heap.size + 1, j, none⟩ = false := fun j => by
      rw [← hBo, show wr.heap.size + 1 = (wr.alloc S).heap.size by simp]
      exact World.frozen?_alloc_new _ _ _ _
    rw [hS, hBo]
    refine (HCc ((wr.alloc S).alloc Bo).drew wr.heap.size (hX.box.two.bl.drew) (by simp <;> omega) ((old_cell Bo ⟨wr.heap.size, 0, none⟩ (by simp)).trans e1.1) ((old_cell Bo ⟨wr.heap.size, 1, none⟩ (by simp)).trans e1.2)).mono ?_
    rintro e w' ⟨q, g, k, he, hsr, hg, hb⟩
    have hz : wr.heap.size + 1 < ((wr.alloc S).alloc Bo).heap.size := by simp
    have hb' : Below ((wr.alloc S).alloc Bo).heap.size ((wr.alloc S).alloc Bo) w' := ⟨hb.os, hb.tape, hb.output, hb.size, hb.block⟩
    exact ⟨q, g, k, he, hX.box.step hb', (hb'.cell (p := ⟨wr.heap.size + 1, 0, none⟩) hz).trans y0, (hb'.cell (p := ⟨wr.heap.size + 1, 1, none⟩) hz).trans y1, (hb'.frozen (p := ⟨wr.heap.size + 1, 0, none⟩) hz).trans (yf 0), (hb'.frozen (p := ⟨wr.heap.size + 1, 1, none⟩) hz).trans (yf 1), jf_b hX.box hlo (by omega) hz y0 y1 hsr hg hb'⟩

/-- What Join tells of two calendars that may be. -/
def JoinO (A O : Int) (n : Nat) (rs : List Rul) (w : World) (e : Ending) (w' : World) : Prop :=
  (A ≠ 0 ∧ e = .returned (.tuple #[.agg #[.int .i64 0, .slice none 0 0], .int .i64 A])) ∨ (A = 0 ∧ ∃ p2 g c2, e = .returned (.tuple #[.agg #[.int .i64 O, .slice p2 n c2], .int .i64 0]) ∧ RSrcW w' p2 g 0 rs ∧ w.heap.size ≤ g)
set_option maxRecDepth 10000 in
set_option maxHeartbeats 6400000 in
theorem joinP_on (W W' : Int) (p p' : Option Addr) (b off c b' off' c' N N' : Nat) (rs rs' : List Rul) (A B : Int) (w : World) (H : Hid (JoinQ w W W' p p' c c' rs rs' N N')) (hf : joinFree W W' rs rs') (hN : Hid (rs.length = N)) (hN' : Hid (rs'.length = N')) (hl : N ≤ 64) (hl' : N' ≤ 64) (hs : Hid (RSrc w p b off rs)) (hs' : Hid (RSrc w p' b' off' rs')) (hnil : Hid (p = none → N = 0 ∧ c = 0)) (hnil' : Hid (p' = none → N' = 0 ∧ c' = 0)) (hchk : Hid (ChkR (orI W W') (rs ++ rs') A B)) :
    Calls Try.prog 17 #[.agg #[.int .i64 W, .slice p N c], .agg #[.int .i64 W', .slice p' N' c']] w fun e w' => JoinO A (orI W W') (N + N') (rs ++ rs') w e w' ∧ Below w.heap.size w w' := by
  have HB0 := hideS (CBox4.first w W (.slice p N c) W' (.slice p' N' c'))
  have HM := hideS H.out.mov
  have HM' := hideS H.out.mov'
  have hor : bits .or .i64 W W' = orI W W' := rfl
  obtain ⟨O, hO⟩ : ∃ O, orI W W' = O := ⟨_, rfl⟩
  rw [hO] at hor hchk ⊢
  clear hO
  have HCc : Hid (∀ wx bs, Below w.heap.size w wx → bs < wx.heap.size → wx.cell? ⟨bs, 0, none⟩ = some (.slice p N c) → wx.cell? ⟨bs, 1, none⟩ = some (.slice p' N' c') → Calls Try.prog 38 #[.slice (some ⟨bs, 0, none⟩) 2 2] wx fun e w' => ∃ q g k, e = .returned (.slice q (N + N') k) ∧ RSrcW w' q g 0 (rs ++ rs') ∧ wx.heap.size ≤ g ∧ Below wx.heap.size wx w') := fun wx bs hb h1 h2 h3 => by
    refine (concat_any p p' b off c b' off' c' N N' bs rs rs' wx (hs.out.below hb) (hs'.out.below hb) hN.out hN'.out hl hl' hnil.out hnil'.out h1 h2 h3).mono ?_
    rintro e w' ⟨v, rfl, ho, hb2⟩
    obtain ⟨q, g, k, rfl, hsrc, hlo⟩ := own_srcW ho (by rw [List.length_append, hN.out, hN'.out])
    exact ⟨q, g, k, rfl, hsrc, hlo, hb2⟩
  have HCk : Hid (∀ wx q g k, RSrc wx q g 0 (rs ++ rs') → Calls Try.prog 10 #[.agg #[.int .i64 O, .slice q (N + N') k]] wx fun e w' => e = .returned (.tuple #[.int .i64 A, .int .i64 B]) ∧ Below wx.heap.size wx w') := fun wx q g k h => by
    have hlen : (rs ++ rs').length = N + N' := by rw [List.length_append, hN.out, hN'.out]
    have := check_any O q g 0 k (rs ++ rs') A B wx hchk.out h (by rw [hlen]; omega)
    rw [hlen] at this
    exact this
  clear hs hs' hnil hnil' hchk
  rcases hf with rfl | ⟨hW, hm, hm2⟩
  · go_enter Try.func17, Try.ntmps17
    go_wp2_with fail
    go_loopw [17] (fun i wr => ∃ (k : Nat), k ≤ 2 ∧ i = .int .i64 k ∧ Hid (CBox4 w W (.slice p N c) W (.slice p' N' c') wr)) (fun i _ => 2 - (intOf i).toNat)
    case atStart => exact ⟨0, by omega, rfl, HB0⟩
    case round =>
      clear HB0
      obtain ⟨k, hk, rfl, HB⟩ := hrel
      have s0 := HB.out.s0
      have s1 := HB.out.s1
      have s2 := HB.out.s2
      have s3 := HB.out.s3
      have HBa : Hid (∀ o, Below w.heap.size w (wr.alloc o)) := fun o => (HB.out.step ((Below.refl _ wr).alloc (Nat.le_refl _) o)).box.two.bl
      rcases (show k = 0 ∨ k = 1 ∨ k = 2 by omega) with rfl | rfl | rfl
      · go_wp2_with (go_at_call 10; refine (H.out.chk _ (HBa.out _)).mono ?_; rintro e w2 ⟨rfl, hb2⟩; have HB2 := hideS (HB.out.step (((Below.refl _ wr).alloc (Nat.le_refl _) _).trans (hb2.mono (by simp)))); clear hb2)
        go_roundw
        case rel => exact ⟨1, by omega, rfl, HB2⟩
        case measure => simp [intOf]
      · go_wp2_with (go_at_call 10; refine (H.out.chk' _ (HBa.out _)).mono ?_; rintro e w2 ⟨rfl, hb2⟩; have HB2 := hideS (HB.out.step (((Below.refl _ wr).alloc (Nat.le_refl _) _).trans (hb2.mono (by simp)))); clear hb2)
        go_roundw
        case rel => exact ⟨2, by omega, rfl, HB2⟩
        case measure => simp [intOf]
      · have a0 := HB.out.box.two.a0
        have a1 := HB.out.box.two.a1
        have b0 := HB.out.box.two.b0
        have b1 := HB.out.box.two.b1
        clear s0 s1 s2 s3
        have HJ := hideS (jc_of w W W O p p' c c' N N' rs rs' wr HB.out HCc.out)
        have K0 : Hid (Four w W (.slice p N c) W (.slice p' N' c') wr) := HB.out.box.four
        have K1 : Hid (∀ o, Four w W (.slice p N c) W (.slice p' N' c') (wr.alloc o)) := fun o => (HB.out.step ((Below.refl _ wr).alloc (Nat.le_refl _) o)).box.four
        have K2 : Hid (∀ o o', Four w W (.slice p N c) W (.slice p' N' c') ((wr.alloc o).alloc o')) := fun o o' => ((HB.out.step ((Below.refl _ wr).alloc (Nat.le_refl _) o)).step ((Below.refl _ (wr.alloc o)).alloc (Nat.le_refl _) o')).box.four
        go_wp2_with fail
        go_region_held3 (fun x => x.cell? ⟨w.heap.size, 0, none⟩ = some (.int .i64 W) ∧ x.cell? ⟨w.heap.size, 1, none⟩ = some (.slice p N c) ∧ x.cell? ⟨w.heap.size + 1, 0, none⟩ = some (.int .i64 W) ∧ x.cell? ⟨w.heap.size + 1, 1, none⟩ = some (.slice p' N' c')) (first | exact K0.out | exact K1.out _ | exact K2.out _ _ | exact K3.out | exact K4.out _ | exact HF.out.box.four | go_keep) (first | ((go_at_call 38; (with_reducible refine HJ.out.a.mono ?_); rintro e w3 ⟨q, g, k, rfl, HX3, HF⟩; have K3 := hideS HX3.out.four; have K4 : Hid (∀ o, Four w W (.slice p N c) W (.slice p' N' c') (w3.alloc o)) := fun o => (HX3.out.step ((Below.refl _ w3).alloc (Nat.le_refl _) o)).four)) | ((go_at_call 38; (with_reducible refine HJ.out.b.mono ?_); rintro e w3 ⟨q, g, k, rfl, HX3, y0, y1, yf0, yf1, HF⟩; have K3 := hideS HX3.out.four)) | ((go_at_call 38; (with_reducible refine HJ.out.c.mono ?_); rintro e w3 ⟨q, g, k, rfl, HX3, y0, y1, yf0, yf1, HF⟩; have K3 := hideS HX3.out.four)))
        · generalize w3.alloc (.cells #[.int .i64 O, .slice q (N + N') k] 24) = w4 at *
          have t0 := HF.out.t0
          have t1 := HF.out.t1
          clear K0 K1 K2 K3 HJ
          go_wp2_with fail
          refine (HCk.out _ q g k HF.out.src.src).mono ?_
          rintro e w5 ⟨rfl, hb5⟩
          have H5 := hideS (HF.out.step hb5)
          clear hb5 t0 t1 HF
          obtain ⟨_, d0, d1, f0, f1, _⟩ := H5.out.box
          have t0 := H5.out.t0
          have t1 := H5.out.t1
          by_cases hA : A = 0
          · subst hA
            go_wp2_with fail
            obtain ⟨x0, x1⟩ := put2 (x := .int .i64 O) (y := .slice q (N + N') k) d0 d1
            have hlo := H5.out.lo
            exact bodyPost_ret (v := .tuple #[.agg #[.int .i64 O, .slice q (N + N') k], .int .i64 0]) (by simp [results, Try.results17, go_sem, x0, x1]) rfl ⟨Or.inr ⟨rfl, q, g, k, rfl, (H5.out.src.put (by omega)).put (by omega), by omega⟩, put2_below H5.out.box.two.bl⟩
          · have hA' : (A != 0) = true := bne_iff_ne.2 hA
            go_wp2_with fail
            obtain ⟨x0, x1⟩ := put2 (x := .int .i64 0) (y := .slice none 0 0) d0 d1
            exact bodyPost_ret (v := .tuple #[.agg #[.int .i64 0, .slice none 0 0], .int .i64 A]) (by simp [results, Try.results17, go_sem, x0, x1]) rfl ⟨Or.inl ⟨hA, rfl⟩, put2_below H5.out.box.two.bl⟩
        · generalize (w3.setCell ⟨wr.heap.size + 1, 0, none⟩ (.int .i64 O)).setCell ⟨wr.heap.size + 1, 1, none⟩ (.slice q (N + N') k) = w4 at *
          have t0 := HF.out.t0
          have t1 := HF.out.t1
          clear K0 K1 K2 K3 HJ
          go_wp2_with fail
          refine (HCk.out _ q g k HF.out.src.src).mono ?_
          rintro e w5 ⟨rfl, hb5⟩
          have H5 := hideS (HF.out.step hb5)
          clear hb5 t0 t1 HF
          obtain ⟨_, d0, d1, f0, f1, _⟩ := H5.out.box
          have t0 := H5.out.t0
          have t1 := H5.out.t1
          by_cases hA : A = 0
          · subst hA
            go_wp2_with fail
            obtain ⟨x0, x1⟩ := put2 (x := .int .i64 O) (y := .slice q (N + N') k) d0 d1
            have hlo := H5.out.lo
            exact bodyPost_ret (v := .tuple #[.agg #[.int .i64 O, .slice q (N + N') k], .int .i64 0]) (by simp [results, Try.results17, go_sem, x0, x1]) rfl ⟨Or.inr ⟨rfl, q, g, k, rfl, (H5.out.src.put (by omega)).put (by omega), by omega⟩, put2_below H5.out.box.two.bl⟩
          · have hA' : (A != 0) = true := bne_iff_ne.2 hA
            go_wp2_with fail
            obtain ⟨x0, x1⟩ := put2 (x := .int .i64 0) (y := .slice none 0 0) d0 d1
            exact bodyPost_ret (v := .tuple #[.agg #[.int .i64 0, .slice none 0 0], .int .i64 A]) (by simp [results, Try.results17, go_sem, x0, x1]) rfl ⟨Or.inl ⟨hA, rfl⟩, put2_below H5.out.box.two.bl⟩
        · generalize (w3.setCell ⟨wr.heap.size, 0, none⟩ (.int .i64 O)).setCell ⟨wr.heap.size, 1, none⟩ (.slice q (N + N') k) = w4 at *
          have t0 := HF.out.t0
          have t1 := HF.out.t1
          clear K0 K1 K2 K3 HJ
          go_wp2_with fail
          refine (HCk.out _ q g k HF.out.src.src).mono ?_
          rintro e w5 ⟨rfl, hb5⟩
          have H5 := hideS (HF.out.step hb5)
          clear hb5 t0 t1 HF
          obtain ⟨_, d0, d1, f0, f1, _⟩ := H5.out.box
          have t0 := H5.out.t0
          have t1 := H5.out.t1
          by_cases hA : A = 0
          · subst hA
            go_wp2_with fail
            obtain ⟨x0, x1⟩ := put2 (x := .int .i64 O) (y := .slice q (N + N') k) d0 d1
            have hlo := H5.out.lo
            exact bodyPost_ret (v := .tuple #[.agg #[.int .i64 O, .slice q (N + N') k], .int .i64 0]) (by simp [results, Try.results17, go_sem, x0, x1]) rfl ⟨Or.inr ⟨rfl, q, g, k, rfl, (H5.out.src.put (by omega)).put (by omega), by omega⟩, put2_below H5.out.box.two.bl⟩
          · have hA' : (A != 0) = true := bne_iff_ne.2 hA
            go_wp2_with fail
            obtain ⟨x0, x1⟩ := put2 (x := .int .i64 0) (y := .slice none 0 0) d0 d1
            exact bodyPost_ret (v := .tuple #[.agg #[.int .i64 0, .slice none 0 0], .int .i64 A]) (by simp [results, Try.results17, go_sem, x0, x1]) rfl ⟨Or.inl ⟨hA, rfl⟩, put2_below H5.out.box.two.bl⟩
  · have hW' : (W != W') = true := bne_iff_ne.2 hW
    rw [hm] at HM
    rw [hm2] at HM'
    clear hW hm hm2
    go_enter Try.func17, Try.ntmps17
    go_wp2_with fail
    go_loopw [17] (fun i wr => ∃ (k : Nat), k ≤ 2 ∧ i = .int .i64 k ∧ Hid (CBox4 w W (.slice p N c) W' (.slice p' N' c') wr)) (fun i _ => 2 - (intOf i).toNat)
    case atStart => exact ⟨0, by omega, rfl, HB0⟩
    case round =>
      clear HB0
      obtain ⟨k, hk, rfl, HB⟩ := hrel
      have s0 := HB.out.s0
      have s1 := HB.out.s1
      have s2 := HB.out.s2
      have s3 := HB.out.s3
      have HBa : Hid (∀ o, Below w.heap.size w (wr.alloc o)) := fun o => (HB.out.step ((Below.refl _ wr).alloc (Nat.le_refl _) o)).box.two.bl
      rcases (show k = 0 ∨ k = 1 ∨ k = 2 by omega) with rfl | rfl | rfl
      · go_wp2_with (go_at_call 10; refine (H.out.chk _ (HBa.out _)).mono ?_; rintro e w2 ⟨rfl, hb2⟩; have HB2 := hideS (HB.out.step (((Below.refl _ wr).alloc (Nat.le_refl _) _).trans (hb2.mono (by simp)))); clear hb2)
        go_roundw
        case rel => exact ⟨1, by omega, rfl, HB2⟩
        case measure => simp [intOf]
      · go_wp2_with (go_at_call 10; refine (H.out.chk' _ (HBa.out _)).mono ?_; rintro e w2 ⟨rfl, hb2⟩; have HB2 := hideS (HB.out.step (((Below.refl _ wr).alloc (Nat.le_refl _) _).trans (hb2.mono (by simp)))); clear hb2)
        go_roundw
        case rel => exact ⟨2, by omega, rfl, HB2⟩
        case measure => simp [intOf]
      · have a0 := HB.out.box.two.a0
        have a1 := HB.out.box.two.a1
        have b0 := HB.out.box.two.b0
        have b1 := HB.out.box.two.b1
        clear s0 s1 s2 s3
        go_wp2_with fail
        refine (HM.out _ HB.out.box.two.bl).mono ?_
        rintro e w8 ⟨rfl, hb8⟩
        have HB8 := hideS (HB.out.step hb8)
        clear hb8 a0 a1 b0 b1
        have b0 := HB8.out.box.two.b0
        have b1 := HB8.out.box.two.b1
        go_wp2_with fail
        refine (HM'.out _ HB8.out.box.two.bl).mono ?_
        rintro e w9 ⟨rfl, hb9⟩
        have HB9 := hideS (HB8.out.step hb9)
        clear hb9 b0 b1 HB8 HB HBa
        have a0 := HB9.out.box.two.a0
        have a1 := HB9.out.box.two.a1
        have b0 := HB9.out.box.two.b0
        have b1 := HB9.out.box.two.b1
        have HJ := hideS (jc_of w W W' O p p' c c' N N' rs rs' w9 HB9.out HCc.out)
        have K0 : Hid (Four w W (.slice p N c) W' (.slice p' N' c') w9) := HB9.out.box.four
        have K1 : Hid (∀ o, Four w W (.slice p N c) W' (.slice p' N' c') (w9.alloc o)) := fun o => (HB9.out.step ((Below.refl _ w9).alloc (Nat.le_refl _) o)).box.four
        have K2 : Hid (∀ o o', Four w W (.slice p N c) W' (.slice p' N' c') ((w9.alloc o).alloc o')) := fun o o' => ((HB9.out.step ((Below.refl _ w9).alloc (Nat.le_refl _) o)).step ((Below.refl _ (w9.alloc o)).alloc (Nat.le_refl _) o')).box.four
        go_wp2_with fail
        go_region_held3 (fun x => x.cell? ⟨w.heap.size, 0, none⟩ = some (.int .i64 W) ∧ x.cell? ⟨w.heap.size, 1, none⟩ = some (.slice p N c) ∧ x.cell? ⟨w.heap.size + 1, 0, none⟩ = some (.int .i64 W') ∧ x.cell? ⟨w.heap.size + 1, 1, none⟩ = some (.slice p' N' c')) (first | exact K0.out | exact K1.out _ | exact K2.out _ _ | exact K3.out | exact K4.out _ | exact HF.out.box.four | go_keep) (first | ((go_at_call 38; (with_reducible refine HJ.out.a.mono ?_); rintro e w3 ⟨q, g, k, rfl, HX3, HF⟩; have K3 := hideS HX3.out.four; have K4 : Hid (∀ o, Four w W (.slice p N c) W' (.slice p' N' c') (w3.alloc o)) := fun o => (HX3.out.step ((Below.refl _ w3).alloc (Nat.le_refl _) o)).four)) | ((go_at_call 38; (with_reducible refine HJ.out.b.mono ?_); rintro e w3 ⟨q, g, k, rfl, HX3, y0, y1, yf0, yf1, HF⟩; have K3 := hideS HX3.out.four)) | ((go_at_call 38; (with_reducible refine HJ.out.c.mono ?_); rintro e w3 ⟨q, g, k, rfl, HX3, y0, y1, yf0, yf1, HF⟩; have K3 := hideS HX3.out.four)))
        · generalize w3.alloc (.cells #[.int .i64 O, .slice q (N + N') k] 24) = w4 at *
          have t0 := HF.out.t0
          have t1 := HF.out.t1
          clear K0 K1 K2 K3 HJ
          go_wp2_with fail
          refine (HCk.out _ q g k HF.out.src.src).mono ?_
          rintro e w5 ⟨rfl, hb5⟩
          have H5 := hideS (HF.out.step hb5)
          clear hb5 t0 t1 HF
          obtain ⟨_, d0, d1, f0, f1, _⟩ := H5.out.box
          have t0 := H5.out.t0
          have t1 := H5.out.t1
          by_cases hA : A = 0
          · subst hA
            go_wp2_with fail
            obtain ⟨x0, x1⟩ := put2 (x := .int .i64 O) (y := .slice q (N + N') k) d0 d1
            have hlo := H5.out.lo
            exact bodyPost_ret (v := .tuple #[.agg #[.int .i64 O, .slice q (N + N') k], .int .i64 0]) (by simp [results, Try.results17, go_sem, x0, x1]) rfl ⟨Or.inr ⟨rfl, q, g, k, rfl, (H5.out.src.put (by omega)).put (by omega), by omega⟩, put2_below H5.out.box.two.bl⟩
          · have hA' : (A != 0) = true := bne_iff_ne.2 hA
            go_wp2_with fail
            obtain ⟨x0, x1⟩ := put2 (x := .int .i64 0) (y := .slice none 0 0) d0 d1
            exact bodyPost_ret (v := .tuple #[.agg #[.int .i64 0, .slice none 0 0], .int .i64 A]) (by simp [results, Try.results17, go_sem, x0, x1]) rfl ⟨Or.inl ⟨hA, rfl⟩, put2_below H5.out.box.two.bl⟩
        · generalize (w3.setCell ⟨w9.heap.size + 1, 0, none⟩ (.int .i64 O)).setCell ⟨w9.heap.size + 1, 1, none⟩ (.slice q (N + N') k) = w4 at *
          have t0 := HF.out.t0
          have t1 := HF.out.t1
          clear K0 K1 K2 K3 HJ
          go_wp2_with fail
          refine (HCk.out _ q g k HF.out.src.src).mono ?_
          rintro e w5 ⟨rfl, hb5⟩
          have H5 := hideS (HF.out.step hb5)
          clear hb5 t0 t1 HF
          obtain ⟨_, d0, d1, f0, f1, _⟩ := H5.out.box
          have t0 := H5.out.t0
          have t1 := H5.out.t1
          by_cases hA : A = 0
          · subst hA
            go_wp2_with fail
            obtain ⟨x0, x1⟩ := put2 (x := .int .i64 O) (y := .slice q (N + N') k) d0 d1
            have hlo := H5.out.lo
            exact bodyPost_ret (v := .tuple #[.agg #[.int .i64 O, .slice q (N + N') k], .int .i64 0]) (by simp [results, Try.results17, go_sem, x0, x1]) rfl ⟨Or.inr ⟨rfl, q, g, k, rfl, (H5.out.src.put (by omega)).put (by omega), by omega⟩, put2_below H5.out.box.two.bl⟩
          · have hA' : (A != 0) = true := bne_iff_ne.2 hA
            go_wp2_with fail
            obtain ⟨x0, x1⟩ := put2 (x := .int .i64 0) (y := .slice none 0 0) d0 d1
            exact bodyPost_ret (v := .tuple #[.agg #[.int .i64 0, .slice none 0 0], .int .i64 A]) (by simp [results, Try.results17, go_sem, x0, x1]) rfl ⟨Or.inl ⟨hA, rfl⟩, put2_below H5.out.box.two.bl⟩
        · generalize (w3.setCell ⟨w9.heap.size, 0, none⟩ (.int .i64 O)).setCell ⟨w9.heap.size, 1, none⟩ (.slice q (N + N') k) = w4 at *
          have t0 := HF.out.t0
          have t1 := HF.out.t1
          clear K0 K1 K2 K3 HJ
          go_wp2_with fail
          refine (HCk.out _ q g k HF.out.src.src).mono ?_
          rintro e w5 ⟨rfl, hb5⟩
          have H5 := hideS (HF.out.step hb5)
          clear hb5 t0 t1 HF
          obtain ⟨_, d0, d1, f0, f1, _⟩ := H5.out.box
          have t0 := H5.out.t0
          have t1 := H5.out.t1
          by_cases hA : A = 0
          · subst hA
            go_wp2_with fail
            obtain ⟨x0, x1⟩ := put2 (x := .int .i64 O) (y := .slice q (N + N') k) d0 d1
            have hlo := H5.out.lo
            exact bodyPost_ret (v := .tuple #[.agg #[.int .i64 O, .slice q (N + N') k], .int .i64 0]) (by simp [results, Try.results17, go_sem, x0, x1]) rfl ⟨Or.inr ⟨rfl, q, g, k, rfl, (H5.out.src.put (by omega)).put (by omega), by omega⟩, put2_below H5.out.box.two.bl⟩
          · have hA' : (A != 0) = true := bne_iff_ne.2 hA
            go_wp2_with fail
            obtain ⟨x0, x1⟩ := put2 (x := .int .i64 0) (y := .slice none 0 0) d0 d1
            exact bodyPost_ret (v := .tuple #[.agg #[.int .i64 0, .slice none 0 0], .int .i64 A]) (by simp [results, Try.results17, go_sem, x0, x1]) rfl ⟨Or.inl ⟨hA, rfl⟩, put2_below H5.out.box.two.bl⟩
end Go.Proofs.Ytglkhoekpafddaa
