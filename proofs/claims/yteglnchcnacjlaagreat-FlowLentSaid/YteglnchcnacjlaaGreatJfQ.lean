/- The contract of package flow's sumByKey. -/
import Derived.Test.YteglnchcnacjlaaGreatHba
import Derived.Test.YteglnchcnacjlaaGreatHao
namespace Go.Proofs.YteglnchcnacjlaaGreat
open Go.RowKit

theorem kyown_below {w w' : World} {base n : Nat} {v : Value} {xs : List Value} (h : w.ownsRow base 61 2 v n xs) (hb : Below w.heap.size w w') : w'.ownsRow base 61 2 v n xs :=
  kyown_wrote (F := fun _ => False) h (A.wrote_below hb) (fun _ _ => id)
structure SumS (w : World) (wr : World) (vk : Value) (ks : List (Int × Int)) (pb : Int × Int → Nat) (vv : Int × Int → Value) (S : Int × Int → A.St) (n L : Nat) : Prop where
  own : wr.ownsRow w.heap.size 61 2 vk ks.length (rowK ks)
  map : MapK wr w.heap.size n ks pb
  fam : Fam wr w.heap.size ks pb vv L S
  bl : Below w.heap.size w wr
theorem SumS.below {w wr w' : World} {vk : Value} {ks : List (Int × Int)} {pb : Int × Int → Nat} {vv : Int × Int → Value} {S : Int × Int → A.St} {n L : Nat} (h : SumS w wr vk ks pb vv S n L) (hb : Below wr.heap.size wr w') : SumS w w' vk ks pb vv S n L :=
  ⟨kyown_below h.own hb, h.map.below hb, h.fam.below hb, h.bl.trans (hb.mono h.bl.size)⟩
theorem fam_map {w : World} {B L n bm : Nat} {ks ks' : List (Int × Int)} {pb pb' : Int × Int → Nat} {vv : Int × Int → Value} {S : Int × Int → A.St} (h : Fam w B ks pb vv L S) (hm : MapK w bm n ks' pb') {x : Int × Int} (hx : x ∈ ks) : ¬ A.Ft (pb x) (vv x) bm := fun hk => by
  obtain ⟨c, t, _, e⟩ := h.obj hx hk
  obtain ⟨es, d, e'⟩ := hm.obj
  rw [e] at e'; cases e'
theorem fam_own {w : World} {B L m : Nat} {ks : List (Int × Int)} {pb : Int × Int → Nat} {vv : Int × Int → Value} {S : Int × Int → A.St} {v : Value} {xs : List Value} (h : Fam w B ks pb vv L S) (ho : w.ownsRow B 61 2 v m xs) {x : Int × Int} (hx : x ∈ ks) {k : Nat} (hk : A.Ft (pb x) (vv x) k) : v.ownBlock ≠ some k := fun he => by
  obtain ⟨c, t, ht, e⟩ := h.obj hx hk
  obtain ⟨c', e'⟩ := kyown_obj ho he
  rw [e] at e'
  simp only [Option.some.injEq, Obj.cells.injEq] at e'
  rcases ht with rfl | rfl
  · exact absurd e'.2.1 (by decide)
  · exact absurd e'.2.1 (by decide)
theorem own_map {w : World} {B m n bm : Nat} {ks' : List (Int × Int)} {pb' : Int × Int → Nat} {v : Value} {xs : List Value} (ho : w.ownsRow B 61 2 v m xs) (hm : MapK w bm n ks' pb') : v.ownBlock ≠ some bm := fun he => by
  obtain ⟨c', e'⟩ := kyown_obj ho he
  obtain ⟨es, d, e⟩ := hm.obj
  rw [e] at e'; cases e'
theorem SumS.did {w wr w' : World} {vk v' : Value} {ks : List (Int × Int)} {pb : Int × Int → Nat} {vv : Int × Int → Value} {S : Int × Int → A.St} {n L L' : Nat} {x : Int × Int} {a : A.St} (h : SumS w wr vk ks pb vv S n L) (hx : x ∈ ks) (hd : A.Did wr w' w.heap.size (pb x) (vv x) L' a v') (hL : L ≤ L') :
    SumS w w' vk ks pb (upd vv x v') (upd S x a) n L' :=
  ⟨kyown_wrote h.own hd.wrote (fun _ hk hF => fam_own h.fam h.own hx hF hk), h.map.wrote hd.wrote (fam_map h.fam h.map hx), h.fam.did hx hd hL, h.bl.trans (hd.wrote.below (fun k hk => ((h.fam.acc x hx).base k hk).1) h.bl.size)⟩
theorem SumS.stored {w w5 w6 w7 : World} {vk : Value} {ks : List (Int × Int)} {pb : Int × Int → Nat} {vv : Int × Int → Value} {S : Int × Int → A.St} {n L : Nat} (h : SumS w w5 vk ks pb vv S n L) (h6 : Below w5.heap.size w5 w6) (hg : w6.grownBy w7 (some w.heap.size)) : w7.ownsRow w.heap.size 61 2 vk ks.length (rowK ks) ∧ Below w.heap.size w w7 := by
  have h' := h.below h6
  refine ⟨kyown_wrote h'.own (A.wrote_grown hg) (fun k hk e => ?_), h'.bl.trans ((Below.refl _ _).grown hg h'.bl.size (fun _ hk => ?_))⟩
  · obtain rfl := Option.some.inj e
    exact own_map h'.own h'.map hk
  · obtain rfl := Option.some.inj hk
    exact Nat.le_refl _
theorem SumS.fresh {w w5 w6 w7 w8 w9 : World} {vk v9 : Value} {ks : List (Int × Int)} {pb : Int × Int → Nat} {vv : Int × Int → Value} {S : Int × Int → A.St} {n L : Nat} {x : Int × Int} (h : SumS w w5 vk ks pb vv S n L) (hx : x ∉ ks) (h6 : Below w5.heap.size w5 w6) (ha : A.AccAt w6 w.heap.size w5.heap.size (.slice none 0 0) 0 ⟨0, 0⟩)
    (hm : MapK w7 w.heap.size (n + 1) (ks ++ [x]) (upd pb x w5.heap.size)) (hg : w6.grownBy w7 (some w.heap.size)) (h8 : Below w7.heap.size w7 w8) (ho : w9.ownsRow w.heap.size 61 2 v9 (ks.length + 1) (rowK (ks ++ [x]))) (hg9 : w8.grownBy w9 vk.ownBlock) :
    SumS w w9 v9 (ks ++ [x]) (upd pb x w5.heap.size) (upd vv x (.slice none 0 0)) (upd S x ⟨0, 0⟩) (n + 1) L := by
  obtain ⟨o7, b7⟩ := h.stored h6 hg
  have f6 := h.fam.join h6 hx (ha.mono (Nat.zero_le L))
  have f7 := f6.wrote (A.wrote_grown hg) (fun y hy k hk e => by
    obtain rfl := Option.some.inj e
    exact fam_map f6 (h.map.below h6) hy hk)
  have f8 := f7.below h8
  have o8 := kyown_below o7 h8
  have m8 := hm.below h8
  have b8 := b7.trans (h8.mono b7.size)
  refine ⟨by rw [List.length_append]; exact ho, m8.wrote (A.wrote_grown hg9) (own_map o8 m8), f8.wrote (A.wrote_grown hg9) (fun y hy k hk e => fam_own f8 o8 hy hk e), b8.trans (kygrown_below o8 hg9 b8.size)⟩
theorem SumS.congr {w wr : World} {vk : Value} {ks : List (Int × Int)} {pb : Int × Int → Nat} {vv : Int × Int → Value} {S S' : Int × Int → A.St} {n L : Nat} (h : SumS w wr vk ks pb vv S n L) (hS : ∀ x ∈ ks, S x = S' x) : SumS w wr vk ks pb vv S' n L :=
  ⟨h.own, h.map, h.fam.congr hS, h.bl⟩
theorem MapK.more {w : World} {bm n n' : Nat} {ks : List (Int × Int)} {pb : Int × Int → Nat} (h : MapK w bm n ks pb) (hn : n ≤ n') : MapK w bm n' ks pb := by
  obtain ⟨D, ho, h1, h2⟩ := h
  exact ⟨D, ho.mono hn, h1, h2⟩
theorem sumN_none {l : List Flw} {x : Int × Int} : ∀ {k : Nat}, x ∉ keysN l k → sumN l x k = ⟨0, 0⟩
  | 0, _ => rfl
  | k + 1, h => by
    have hm : ¬ ∃ i < k + 1, keyF (l.getD i flw0) = x := fun h' => h ((keysN_mem l x (k + 1)).2 h')
    have h1 : x ∉ keysN l k := fun h' => by
      obtain ⟨i, hi, he⟩ := (keysN_mem l x k).1 h'
      exact hm ⟨i, by omega, he⟩
    show (if keyF (l.getD k flw0) = x then _ else _) = _
    rw [if_neg (fun e => hm ⟨k, by omega, e⟩)]
    exact sumN_none h1
def zeroKy : Obj := .cells #[.int .i64 0, .int .i64 0] 61
def setKy (w : World) (g : Nat) (x : Int × Int) : World := (w.setCell ⟨g, 0, none⟩ (.int .i64 x.1)).setCell ⟨g, 1, none⟩ (.int .i64 x.2)
theorem zeroKy_cells (w : World) : ((w.alloc zeroKy).cell? ⟨w.heap.size, 0, none⟩ = some (.int .i64 0) ∧ (w.alloc zeroKy).cell? ⟨w.heap.size, 1, none⟩ = some (.int .i64 0)) ∧ ∀ i, (w.alloc zeroKy).frozen? ⟨w.heap.size, i, none⟩ = false := by
  have h := heap_alloc_new w zeroKy
  unfold zeroKy at h
  refine ⟨⟨by unfold zeroKy; simp, by unfold zeroKy; simp⟩, fun i => frozen_of_row _ _ i _ _ h⟩
structure KBx (w : World) (x : Int × Int) (wr : World) : Prop where
  t0 : wr.cell? ⟨w.heap.size, 0, none⟩ = some (.int .i64 x.1)
  t1 : wr.cell? ⟨w.heap.size, 1, none⟩ = some (.int .i64 x.2)
  bl : Below w.heap.size w wr
  lt : w.heap.size < wr.heap.size
theorem setKy_box (w : World) (x : Int × Int) : KBx w x (setKy (w.alloc zeroKy) w.heap.size x) := by
  have h := heap_alloc_new w zeroKy
  unfold zeroKy at h
  have h3 : (setKy (w.alloc zeroKy) w.heap.size x).heap[w.heap.size]? = some (.cells #[.int .i64 x.1, .int .i64 x.2] 61) := set_blockJ _ (set_blockJ _ h)
  refine ⟨?_, ?_, (((Below.refl _ w).alloc (Nat.le_refl _) _).setCell (p := ⟨w.heap.size, 0, none⟩) (Nat.le_refl _) _).setCell (p := ⟨w.heap.size, 1, none⟩) (Nat.le_refl _) _, (Array.getElem?_eq_some_iff.1 h3).1⟩
  all_goals
    simp only [World.cell?, h3, Option.isSome_none, Bool.false_eq_true, if_false]
    rfl
theorem KBx.step {w wr w' : World} {x : Int × Int} (h : KBx w x wr) (hb : Below wr.heap.size wr w') : KBx w x w' :=
  ⟨(hb.cell (p := ⟨w.heap.size, 0, none⟩) h.lt).trans h.t0, (hb.cell (p := ⟨w.heap.size, 1, none⟩) h.lt).trans h.t1, h.bl.trans (hb.mono h.bl.size), Nat.lt_of_lt_of_le h.lt hb.size⟩
theorem cell_kept {w w' : World} {r : Option Nat} {b : Nat} (hg : w.grownBy w' r) (hb : b < w.heap.size) (hne : r ≠ some b) (o : Nat) : w'.cell? ⟨b, o, none⟩ = w.cell? ⟨b, o, none⟩ := by
  simp only [World.cell?, hg.block b hb (fun e => hne e.symm)]
theorem kyown_lt {w : World} {base n : Nat} {v : Value} {xs : List Value} (h : w.ownsRow base 61 2 v n xs) {k : Nat} (hk : v.ownBlock = some k) : k < w.heap.size := by
  obtain ⟨c, e⟩ := kyown_obj h hk
  exact (Array.getElem?_eq_some_iff.1 e).1

set_option maxRecDepth 20000 in
set_option maxHeartbeats 6400000 in
theorem jSum_any (l : List Flw) (p : Option Addr) (b off c N : Nat) (w : World) (hl : JSrc aF w p b off l) (hN : l.length = N) (hN2 : N ≤ 4096) (hf : FitJ l) (hk : ∀ i < N, KeyB (keyF (l.getD i flw0))) :
    Calls Tryz.prog 22 #[.slice p N c] w fun e w' => ∃ vk pb vv, e = .returned (.tuple #[vk, .map (some w.heap.size)]) ∧ SumS w w' vk (keysN l N) pb vv (fun x => sumN l x N) N (71 + N) := by
  have HN := hideS hN
  have HQ := hideS hl
  have HP : Hid (0 < N → p = some ⟨b, off, none⟩) := fun h => hl.at_ (by omega)
  have HF := hideS hf
  have HK := hideS hk
  have HS0 : Hid (SumS w (w.alloc (.map #[] 0)) (.slice none 0 0) (keysN l 0) (fun _ => 0) (fun _ => .slice none 0 0) (fun x => sumN l x 0) 0 (71 + 0)) :=
    ⟨kyown_nil _ _, MapK.made w _, Fam.nil _ _ _ _ _ _, (Below.refl _ _).alloc (Nat.le_refl _) _⟩
  have hmm := @run_makeMap Tryz.prog
  clear hl hN hf hk
  go_enter Tryz.func22, Tryz.ntmps22
  go_wp2_with fail
  go_loopw [4, 14] (fun vk i wr => ∃ (k : Nat) (pb : Int × Int → Nat) (vv : Int × Int → Value), k ≤ N ∧ i = .int .i64 k ∧ Hid (SumS w wr vk (keysN l k) pb vv (fun x => sumN l x k) k (71 + k))) (fun _ i _ => N - (intOf i).toNat)
  case atStart => exact ⟨0, _, _, Nat.zero_le _, rfl, HS0⟩
  case round =>
    clear HS0
    obtain ⟨k, pb, vv, hk, rfl, HS⟩ := hrel
    by_cases hlt : k < N
    · obtain rfl := HP.out (by omega)
      obtain ⟨c0, c1, c2⟩ := (HQ.out.stay HS.out.bl (fun h => HQ.out.lt h)).cell k (by rw [HN.out]; exact hlt)
      have HKb := hideS (HK.out k hlt)
      have HFt := hideS (HF.out k)
      have HKs : Hid (keysN l (k + 1) = kadd (keysN l k) (keyF (l.getD k flw0))) := rfl
      have HSm : Hid (∀ x, sumN l x (k + 1) = if keyF (l.getD k flw0) = x then (sumN l x k).merge (A.oneS (l.getD k flw0).am) else sumN l x k) := fun _ => rfl
      have HQB := hideS (setF_box wr (l.getD k flw0))
      obtain ⟨⟨z0, z1, z2⟩, fz⟩ := zeroF_cells wr
      have y0 := fz 0
      have y1 := fz 1
      have y2 := fz 2
      clear fz
      obtain ⟨f, hf⟩ : ∃ f, l.getD k flw0 = f := ⟨_, rfl⟩
      rw [hf] at HQB c0 c1 c2 HKb HFt HKs HSm
      clear hf
      obtain ⟨qd, qa, qc⟩ := f
      unfold keyF at HKb HKs HSm
      dsimp only [aF] at *
      obtain ⟨w2, hw2⟩ : ∃ w2, wr.alloc zeroF = w2 := ⟨_, rfl⟩
      rw [hw2] at z0 z1 z2 y0 y1 y2 HQB
      unfold zeroF at hw2
      obtain ⟨w3, hw3⟩ : ∃ w3, setF w2 wr.heap.size ⟨qd, qa, qc⟩ = w3 := ⟨_, rfl⟩
      rw [hw3] at HQB
      unfold setF at hw3
      dsimp only at hw3
      have t0 := HQB.out.t0
      have t1 := HQB.out.t1
      have t2 := HQB.out.t2
      dsimp only at t0 t1 t2
      have HKB := hideS (setKy_box w3 (qc, qd))
      obtain ⟨⟨m0, m1⟩, fm⟩ := zeroKy_cells w3
      have n0 := fm 0
      have n1 := fm 1
      clear fm
      obtain ⟨w4, hw4⟩ : ∃ w4, w3.alloc zeroKy = w4 := ⟨_, rfl⟩
      rw [hw4] at m0 m1 n0 n1 HKB
      unfold zeroKy at hw4
      obtain ⟨w5, hw5⟩ : ∃ w5, setKy w4 w3.heap.size (qc, qd) = w5 := ⟨_, rfl⟩
      rw [hw5] at HKB
      unfold setKy at hw5
      dsimp only at hw5
      have e0 := HKB.out.t0
      have e1 := HKB.out.t1
      dsimp only at e0 e1
      have HF5 := hideS (HQB.out.step HKB.out.bl)
      have s1 := HF5.out.t1
      dsimp only at s1
      have HS5 := hideS (HS.out.below HF5.out.bl)
      have hst := store_flj
      have hU : U64 (qa : Int) := by have := HFt.out; unfold U64; omega
      by_cases hx : (qc, qd) ∈ keysN l k
      · have hlk : (Instr.lookup 56 (.map (some w.heap.size)) (.agg #[.int .i64 qc, .int .i64 qd]) true).run Tryz.prog w5 = .ok (.tuple #[.pointer (some ⟨pb (qc, qd), 0, none⟩), .bool true]) w5 := (HS5.out.map.there hx).1
        have HAd := hideS (A.add_any w.heap.size (pb (qc, qd)) (vv (qc, qd)) (71 + k) (sumN l (qc, qd) k) qa qa w5 (HS5.out.fam.acc _ hx) HS5.out.bl.size rfl hU (by omega))
        have HKs2 : Hid (keysN l (k + 1) = keysN l k) := by show _ = _; rw [HKs.out]; exact if_pos hx
        have HX := hideS hx
        clear hU hx
        go_wp2_with fail
        clear hst hw2 hw3 hw4 hw5 z0 z1 z2 y0 y1 y2 t0 t1 t2 m0 m1 n0 n1 e0 e1 s1 hlk c0 c1 c2
        refine HAd.out.mono ?_
        rintro e w6 ⟨rfl, v6, hd⟩
        have HS6 : Hid (SumS w w6 u4 (keysN l (k + 1)) pb (upd vv (qc, qd) v6) (fun x => sumN l x (k + 1)) (k + 1) (71 + (k + 1))) := by
          have h1 := HS5.out.did HX.out hd (by omega)
          have h2 := h1.congr (S' := fun x => sumN l x (k + 1)) (fun x _ => by
            rw [HSm.out x]
            unfold upd
            by_cases e : x = (qc, qd)
            · subst e; simp
            · rw [if_neg e, if_neg (fun e' => e e'.symm)])
          rw [← HKs2.out] at h2
          exact ⟨h2.own, h2.map.more (by omega), ⟨fun x hx => (h2.fam.acc x hx).mono (by omega), h2.fam.ap⟩, h2.bl⟩
        clear hd
        go_wp2_with fail
        go_roundw
        case rel => exact ⟨k + 1, pb, _, by omega, by go_num, HS6⟩
        case measure => simp [intOf]; omega
      · have hlk : (Instr.lookup 56 (.map (some w.heap.size)) (.agg #[.int .i64 qc, .int .i64 qd]) true).run Tryz.prog w5 = .ok (.tuple #[.pointer none, .bool false]) w5 := HS5.out.map.lacks HKb.out hx
        have HNw := hideS (A.new_any w5 w.heap.size HS5.out.bl.size)
        have HX := hideS hx
        have HKs2 : Hid (keysN l (k + 1) = keysN l k ++ [(qc, qd)]) := by show _ = _; rw [HKs.out]; exact if_neg hx
        have HU := hideS hU
        have HSN := hideS (sumN_none hx)
        clear hU hx
        go_wp2_with fail
        clear hst hw2 hw3 hw4 hw5 z0 z1 z2 y0 y1 y2 t0 t1 t2 m0 m1 n0 n1 e0 e1 s1 hlk c0 c1 c2
        refine HNw.out.mono ?_
        rintro e w6 ⟨rfl, ha, hb6⟩
        obtain ⟨w7, hup, hm7, hg7⟩ := (HS5.out.map.below hb6).put HKb.out HX.out (by unfold maxLen; omega) w5.heap.size
        change (Instr.mapUpdate 56 (.map (some w.heap.size)) (.agg #[.int .i64 qc, .int .i64 qd]) (.pointer (some ⟨w5.heap.size, 0, none⟩))).run Tryz.prog w6 = .ok () w7 at hup
        have HK6 := hideS (HKB.out.step hb6)
        have e0 := HK6.out.t0
        have e1 := HK6.out.t1
        dsimp only at e0 e1
        have hmp : w.heap.size < wr.heap.size := HS.out.map.lt
        have h3 : wr.heap.size < w3.heap.size := HQB.out.lt
        have g0 := (cell_kept hg7 HK6.out.lt (by simp; omega) 0).trans e0
        have g1 := (cell_kept hg7 HK6.out.lt (by simp; omega) 1).trans e1
        obtain ⟨o7, b7⟩ := HS5.out.stored hb6 hg7
        have HB8 := hideS ((Below.refl w7.heap.size w7).alloc (Nat.le_refl _) (.cells #[.int .i64 qc, .int .i64 qd] 61))
        have HO8 := hideS (kyown_below o7 HB8.out)
        have HL8 : Hid (w.heap.size ≤ (w7.alloc (.cells #[.int .i64 qc, .int .i64 qd] 61)).heap.size) := Nat.le_trans b7.size HB8.out.size
        have HF6 := hideS (HF5.out.step hb6)
        have a7 : w7.cell? ⟨wr.heap.size, 1, none⟩ = some (.float .f64 qa) := (cell_kept hg7 HF6.out.lt (by simp; omega) 1).trans HF6.out.t1
        have h67 : w6.heap.size ≤ w7.heap.size := hg7.size
        have hlw7 : wr.heap.size < w7.heap.size := Nat.lt_of_lt_of_le HF6.out.lt h67
        have HA8 : Hid ((w7.alloc (.cells #[.int .i64 qc, .int .i64 qd] 61)).cell? ⟨wr.heap.size, 1, none⟩ = some (.float .f64 qa)) := (HB8.out.cell (p := ⟨wr.heap.size, 1, none⟩) hlw7).trans a7
        have HFr := hideS (fun w9 v9 => HS5.out.fresh (w8 := w7.alloc (.cells #[.int .i64 qc, .int .i64 qd] 61)) (w9 := w9) (v9 := v9) HX.out hb6 ha hm7 hg7 HB8.out)
        have HVk : Hid (u4.ownBlock ≠ some wr.heap.size) := fun e => by have := kyown_lt HS.out.own e; omega
        have HL7 := hideS hlw7
        have HKl : Hid ((keysN l k).length ≤ 4096) := by have := keysN_len l k; show _ ≤ _; omega
        clear ha hb6 hm7 hg7 o7 b7 h3 a7 h67 hlw7 HNw
        go_wp2_with (at_builtin; refine wpList_append_key _ rfl (.tmp 35) (.tmp 37) rfl w.heap.size u4 (keysN l k).length (keysN l k) rfl HO8.out w7.heap.size (qc, qd) rfl (by simp) (by simp) (by have := HKl.out; omega) HL8.out ?_; intro v9 w9 ho9 hg9; have s9 := (cell_kept hg9 (by have := HL7.out; simp; omega) HVk.out 1).trans HA8.out; have HS9 := hideS (HFr.out w9 v9 ho9 hg9); clear ho9 hg9)
        have hx9 : (qc, qd) ∈ keysN l k ++ [(qc, qd)] := by simp
        have HAd := hideS (A.add_any w.heap.size _ _ (71 + k) _ qa qa w9 (HS9.out.fam.acc _ hx9) HS9.out.bl.size rfl HU.out (by omega))
        rw [upd_same, upd_same, upd_same] at HAd
        refine HAd.out.mono ?_
        rintro e w10 ⟨rfl, v10, hd⟩
        have HS10 : Hid (SumS w w10 v9 (keysN l (k + 1)) (upd pb (qc, qd) w5.heap.size) (upd (upd vv (qc, qd) (.slice none 0 0)) (qc, qd) v10) (fun x => sumN l x (k + 1)) (k + 1) (71 + (k + 1))) := by
          have hd2 : A.Did w9 w10 w.heap.size (upd pb (qc, qd) w5.heap.size (qc, qd)) (upd vv (qc, qd) (.slice none 0 0) (qc, qd)) (max (71 + k) 70 + 1) ((⟨0, 0⟩ : A.St).merge (A.oneS (qa : Int))) v10 := by rw [upd_same, upd_same]; exact hd
          have h1 := HS9.out.did hx9 hd2 (by omega)
          have h2 := h1.congr (S' := fun x => sumN l x (k + 1)) (fun x _ => by
            rw [HSm.out x]
            unfold upd
            by_cases e : x = (qc, qd)
            · subst e; simp [HSN.out]
            · rw [if_neg e, if_neg e, if_neg (fun e' => e e'.symm)])
          rw [← HKs2.out] at h2
          exact ⟨h2.own, h2.map, ⟨fun x hx => (h2.fam.acc x hx).mono (by omega), h2.fam.ap⟩, h2.bl⟩
        clear hd HAd hx9
        go_wp2_with fail
        go_roundw
        case rel => exact ⟨k + 1, _, _, by omega, by go_num, HS10⟩
        case measure => simp [intOf]; omega
    · obtain rfl : k = N := by omega
      go_wp2_with fail
      go_ret2
      exact ⟨_, pb, vv, rfl, HS.out⟩
end Go.Proofs.YteglnchcnacjlaaGreat
