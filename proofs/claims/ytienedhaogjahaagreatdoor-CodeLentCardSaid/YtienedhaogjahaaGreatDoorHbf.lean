/- Package code: compiled, by the states that its loop goes through. Package code: Compile of the tree of awake18. Package code: the code of awake18 may be, with two marks at most. Package deal: the deal of awake18 is read. Package deal: Parse of the deal of awake18. Package deal: a term's fields may be by the program where they may be by the document. -/
import Derived.Test.YtienedhaogjahaaGreatDoorHbe
import Derived.Test.YtienedhaogjahaaGreatDoorHbc
import Derived.Recover
import Derived.Tactics
import Derived.Tactics2
import Derived.Defers
import Derived.Laws.Pointers
import Derived.Test.YtienedhaogjahaaGreatDoorHba
namespace Go.Proofs.YtienedhaogjahaaGreatDoor
open Go.RowKit

noncomputable def maxK (P : Nat → Prop) : Nat → Nat
  | 0 => 0
  | K + 1 => by classical exact if P (K + 1) then K + 1 else maxK P K
theorem maxK_le (P : Nat → Prop) : ∀ K, maxK P K ≤ K
  | 0 => Nat.le_refl _
  | K + 1 => by
    unfold maxK
    split
    · exact Nat.le_refl _
    · exact Nat.le_succ_of_le (maxK_le P K)
theorem le_maxK {P : Nat → Prop} {k : Nat} (h : P k) : ∀ K, k ≤ K → k ≤ maxK P K
  | 0, hk => by omega
  | K + 1, hk => by
    unfold maxK
    split
    · exact hk
    · rename_i hn
      refine le_maxK h K ?_
      rcases Nat.lt_or_ge k (K + 1) with h' | h'
      · omega
      · exact absurd ((show k = K + 1 by omega) ▸ h) hn
theorem maxK_sat {P : Nat → Prop} {k : Nat} (h : P k) : ∀ K, k ≤ K → P (maxK P K)
  | 0, hk => by
    obtain rfl : k = 0 := by omega
    exact h
  | K + 1, hk => by
    unfold maxK
    split
    · assumption
    · rename_i hn
      refine maxK_sat h K ?_
      rcases Nat.lt_or_ge k (K + 1) with h' | h'
      · omega
      · exact absurd ((show k = K + 1 by omega) ▸ h) hn
theorem orow_apart {B B' sz sz' n n' : Nat} {T T' : TypeId} {v v' : Value} {xs xs' : List Value} {w : World} (h : w.ownsRow B T sz v n xs) (h' : w.ownsRow B' T' sz' v' n' xs') (hT : T ≠ T') : v.ownBlock = none ∨ v.ownBlock ≠ v'.ownBlock := by
  rcases h.2 with ⟨rfl, _⟩ | ⟨g, cap, cur, rfl, _, hg, _⟩
  · exact .inl rfl
  · refine .inr fun e => ?_
    rcases h'.2 with ⟨rfl, _⟩ | ⟨g', cap', cur', rfl, _, hg', _⟩
    · cases e
    · have e' : g = g' := by simpa [Value.ownBlock] using e
      subst e'
      rw [hg] at hg'
      injection hg' with hg'
      injection hg' with _ hg'
      exact hT hg'
def viC (v : Int × Bool) : Array Value := #[.int .i64 v.1, .bool v.2]
theorem viC_size (v : Int × Bool) : (viC v).size = 2 := rfl
theorem viC_one (v : Int × Bool) : ∀ u ∈ (viC v).toList, u.oneCell' = true := fun u h => by
  simp only [viC, List.mem_cons, List.not_mem_nil, or_false] at h
  rcases h with rfl | rfl <;> rfl
theorem opC_size (o : Opr) : (opC o).size = 9 := rfl
theorem opC_one (o : Opr) : ∀ u ∈ (opC o).toList, u.oneCell' = true := fun u h => by
  simp only [opC, List.mem_cons, List.not_mem_nil, or_false] at h
  rcases h with rfl | rfl | rfl | rfl | rfl | rfl | rfl | rfl | rfl <;> rfl
theorem info_vis : (Tryz.prog.info? 95).map (fun i => (i.zero, i.size, i.bytes)) = some (some (.agg #[.int .i64 0, .bool false]), 2, 16) := by kernel_rfl
theorem info_opC : (Tryz.prog.info? 47).map (fun i => (i.zero, i.size, i.bytes)) = some (some (.agg #[.int .i64 0, .float .f64 0, .float .f64 0, .int .i64 0, .int .i64 0, .int .i64 0, .int .i64 0, .int .i64 0, .int .i64 0]), 9, 72) := by kernel_rfl
theorem rowV_last {α : Type} {f : α → Array Value} {s : Nat} (hf : ∀ o, (f o).size = s) (r : List α) (v : α) : (rowV f (r ++ [v])).take (r.length * s) = rowV f r := by
  rw [rowV_append, List.take_left' (rowV_len hf r)]
theorem rowV_end {α : Type} {f : α → Array Value} {s : Nat} (hf : ∀ o, (f o).size = s) (r : List α) (v : α) (j : Nat) (hj : j < s) : (rowV f (r ++ [v]))[r.length * s + j]? = (f v)[j]? := by
  rw [rowV_get hf v (r ++ [v]) r.length j (by simp) hj]
  simp [List.getD]
def markO : Opr := ⟨1, 0, 0, 0, 0, 0, 0, 0, 0⟩
inductive CStep (x : Trm) (l : List Opr) (r : List (Int × Bool)) (v : Int × Bool) : List Opr × List (Int × Bool) → Prop
  | zero : x.kind = 1 → CStep x l r v (l, r)
  | both : x.kind = 5 → CStep x l r v (l, r ++ [(x.b, false), (x.a, false)])
  | op : x.kind ≠ 1 → x.kind ≠ 5 → (v.2 || !tTk x.kind) = true → CStep x l r v (l ++ [opT x], r)
  | mark : x.kind ≠ 1 → x.kind ≠ 5 → (v.2 || !tTk x.kind) = false → CStep x l r v (l ++ [markO], r ++ [(v.1, true), (x.a, false)])
structure CmI (w : World) (S : Nat → List Opr × List (Int × Bool)) (lv sv : Value) (wr : World) (k : Nat) : Prop where
  l : wr.ownsRow w.heap.size 47 9 lv (S k).1.length (rowV opC (S k).1)
  s : wr.ownsRow w.heap.size 95 2 sv (S k).2.length (rowV viC (S k).2)
  b : Below w.heap.size w wr
theorem CmI.next {w wr : World} {S : Nat → List Opr × List (Int × Bool)} {lv sv : Value} {k : Nat} {l : List Opr} {r : List (Int × Bool)} (e : S k = (l, r)) (hl : wr.ownsRow w.heap.size 47 9 lv l.length (rowV opC l)) (hs : wr.ownsRow w.heap.size 95 2 sv r.length (rowV viC r)) (hb : Below w.heap.size w wr) : CmI w S lv sv wr k :=
  ⟨by rw [e]; exact hl, by rw [e]; exact hs, hb⟩
theorem row_more {α : Type} {f : α → Array Value} {w : World} {B sz n : Nat} {T : TypeId} {v : Value} {a b : List α} (h : w.ownsRow B T sz v (a.length + n) (rowV f a ++ rowV f b)) (hn : b.length = n) : w.ownsRow B T sz v (a ++ b).length (rowV f (a ++ b)) := by
  rw [rowV_append, List.length_append, hn]
  exact h
set_option maxRecDepth 20000 in
set_option maxHeartbeats 25600000 in
theorem compiled_go (t : List Trm) (n g c K : Nat) (hn : t.length = n) (hn2 : n ≤ 100000) (S : Nat → List Opr × List (Int × Bool)) (hS0 : S 0 = ([], [((n : Int) - 1, false)])) (hSK : (S K).2 = [])
    (hS : ∀ k < K, ∃ (r : List (Int × Bool)) (i : Nat) (vb : Bool), (S k).2 = r ++ [((i : Int), vb)] ∧ i < n ∧ CStep (t.getD i trm0) (S k).1 r ((i : Int), vb) (S (k + 1)))
    (hl : ∀ k ≤ K, (S k).1.length ≤ 100000 ∧ (S k).2.length ≤ 100000) (w : World) (ht : TmR w g t) :
    Calls Tryz.prog 22 #[.slice (some ⟨g, 0, none⟩) n c] w fun e w' => ∃ v, e = .returned v ∧ w'.ownsRow w.heap.size 47 9 v (S K).1.length (rowV opC (S K).1) ∧ Below w.heap.size w w' := by
  have HT := hidD ht
  have HN := hidD hn
  have HS := hidD hS
  have HK := hidD hSK
  have HL := hidD hl
  have HO0 := hidD (orow_nil w.heap.size w 47 9)
  have hst := store_fltD
  have hf2 := fieldC2
  have H0 : Hid (CmI w S (.slice none 0 0) (.slice (some ⟨w.heap.size, 0, none⟩) 1 1) (w.alloc (.cells #[.int .i64 ((n : Int) - 1), .bool false] 95)) 0) := by
    refine CmI.next hS0 (orow_below (orow_nil _ _ _ _) (al_bel _ _)) ?_ (al_bel _ _)
    exact ⟨rfl, .inr ⟨w.heap.size, 1, _, rfl, Nat.le_refl _, heap_alloc_new _ _, Nat.le_refl _, by decide, rfl, rfl⟩⟩
  have i9 : (0 : Int) ≤ (n : Int) := by omega
  have i8 : (n : Int) ≤ 100000 := by omega
  clear ht hn hS hSK hl hS0
  go_enter Tryz.func22, Tryz.ntmps22
  go_wp2_with fail
  go_loopw [3, 4] (fun lv sv wr => ∃ k, k ≤ K ∧ Hid (CmI w S lv sv wr k)) (fun lv sv wr => K - maxK (CmI w S lv sv wr) K)
  case atStart => exact ⟨0, Nat.zero_le _, H0⟩
  case round =>
    clear H0
    obtain ⟨k0, hk0, H0⟩ := hrel
    have hkm := maxK_le (CmI w S u3 u4 wr) K
    have HI := hidD (maxK_sat H0.out K hk0)
    have HM : Hid (∀ lv' sv' wr', CmI w S lv' sv' wr' (maxK (CmI w S u3 u4 wr) K + 1) → maxK (CmI w S u3 u4 wr) K < K → K - maxK (CmI w S lv' sv' wr') K < K - maxK (CmI w S u3 u4 wr) K) := fun lv' sv' wr' h hk => by
      have := le_maxK h K (by omega)
      have := maxK_le (CmI w S lv' sv' wr') K
      omega
    obtain ⟨k, ek⟩ : ∃ k, maxK (CmI w S u3 u4 wr) K = k := ⟨_, rfl⟩
    have HM2 : Hid (∀ lv' sv' wr', CmI w S lv' sv' wr' (k + 1) → k < K → K - maxK (CmI w S lv' sv' wr') K < K - maxK (CmI w S u3 u4 wr) K) := fun lv' sv' wr' h hk => HM.out lv' sv' wr' (by rw [ek]; exact h) (by rw [ek]; exact hk)
    rw [ek] at hkm HI
    clear H0 hk0 HM ek
    by_cases hk : k < K
    · obtain ⟨r, i, vb, er, hi, st⟩ := HS.out k hk
      obtain ⟨hl1, hl2⟩ := HL.out k hkm
      obtain ⟨ps, cs, gs, hsv, hcs, _, hps, _, _, hcl, htk⟩ := orow_src HI.out.s
      obtain ⟨pl, cl, gl, hlv, _⟩ := orow_src HI.out.l
      have HLo := hidD HI.out.l
      have HB := hidD HI.out.b
      subst hsv hlv
      rw [er] at hcs hps hcl htk hl2 HM2 ⊢
      rw [List.length_append, List.length_singleton] at hcs hps hcl htk hl2 HM2 ⊢
      obtain rfl := hps (by omega)
      have c0 : wr.cell? ⟨gs, r.length * 2, none⟩ = some (.int .i64 (i : Int)) := (hcl _ (by omega)).trans (rowV_end viC_size r ((i : Int), vb) 0 (by decide))
      have c1 : wr.cell? ⟨gs, r.length * 2 + 1, none⟩ = some (.bool vb) := (hcl _ (by omega)).trans (rowV_end viC_size r ((i : Int), vb) 1 (by decide))
      have HSo := hidD (htk r.length (by omega))
      rw [rowV_last viC_size] at HSo
      have HTr := hidD (HT.out.below HB.out)
      have hil : i < t.length := by rw [HN.out]; exact hi
      have t0 := HTr.out.c0 i hil
      have t1 := HTr.out.c1 i hil
      have t2 := HTr.out.c2 i hil
      have t3 := HTr.out.c3 i hil
      have t4 := HTr.out.c4 i hil
      have t5 := HTr.out.c5 i hil
      have t6 := HTr.out.c6 i hil
      have t7 := HTr.out.c7 i hil
      have t8 := HTr.out.c8 i hil
      have t9 := HTr.out.c9 i hil
      have t10 := HTr.out.c10 i hil
      obtain ⟨x, hx⟩ : ∃ x, t.getD i trm0 = x := ⟨_, rfl⟩
      rw [hx] at st t0 t1 t2 t3 t4 t5 t6 t7 t8 t9 t10
      have HKF : Hid (∀ wx, Calls Tryz.prog 42 #[.agg (trC x)] wx fun e w' => (∃ xo xt, e = .returned (.agg #[.int .i64 xo, .int .i64 xt, .bool (tTk x.kind)])) ∧ Below wx.heap.size wx w') := fun wx => (kindFor_any x wx).mono fun e w' ⟨xo, xt, xb, he, ha, hb⟩ => ⟨⟨xo, xt, by rw [he, (ans_term ha).2]⟩, hb⟩
      have HOP := hidD (opOf_any x)
      have HW1 : Hid (Below wr.heap.size wr ((wr.alloc (.cells #[.int .i64 (i : Int), .bool vb] 95)).alloc (.cells #[.int .i64 x.kind, .int .i64 x.a, .int .i64 x.b, .float .f64 x.x, .float .f64 x.y, .int .i64 x.day, .int .i64 x.to, .int .i64 x.cur, .int .i64 x.count, .int .i64 x.n, .int .i64 x.months] 50))) := ((Below.refl _ _).alloc (Nat.le_refl _) _).alloc (by simp) _
      have HX1 : Hid (((wr.alloc (.cells #[.int .i64 (i : Int), .bool vb] 95)).alloc (.cells #[.int .i64 x.kind, .int .i64 x.a, .int .i64 x.b, .float .f64 x.x, .float .f64 x.y, .int .i64 x.day, .int .i64 x.to, .int .i64 x.cur, .int .i64 x.count, .int .i64 x.n, .int .i64 x.months] 50)).heap[wr.heap.size + 1]? = some (.cells #[.int .i64 x.kind, .int .i64 x.a, .int .i64 x.b, .float .f64 x.x, .float .f64 x.y, .int .i64 x.day, .int .i64 x.to, .int .i64 x.cur, .int .i64 x.count, .int .i64 x.n, .int .i64 x.months] 50)) := by
        show _ = _
        rw [al_at, sz_al, if_pos rfl]
      have HV1 : Hid (((wr.alloc (.cells #[.int .i64 (i : Int), .bool vb] 95)).alloc (.cells #[.int .i64 x.kind, .int .i64 x.a, .int .i64 x.b, .float .f64 x.x, .float .f64 x.y, .int .i64 x.day, .int .i64 x.to, .int .i64 x.cur, .int .i64 x.count, .int .i64 x.n, .int .i64 x.months] 50)).heap[wr.heap.size]? = some (.cells #[.int .i64 (i : Int), .bool vb] 95)) := by
        show _ = _
        rw [al_at, sz_al, if_neg (by omega)]; exact heap_alloc_new _ _
      have HS1 := hidD (orow_below HSo.out HW1.out)
      have HL1 := hidD (orow_below HLo.out HW1.out)
      have HLt : Hid (∀ j, (Value.slice pl (S k).1.length cl).ownBlock = some j → ¬ wr.heap.size ≤ j) := fun j hj h => by have := (HLo.out.lt j hj).2; omega
      have HB1 := hidD (HB.out.trans (HW1.out.mono HB.out.size))
      have hgt : g < wr.heap.size := HTr.out.lt (by omega)
      have hgn : g ≠ wr.heap.size := Nat.ne_of_lt hgt
      have HSl : Hid (r.length = r.length) := rfl
      obtain ⟨N, hN⟩ : ∃ N, r.length = N := ⟨_, rfl⟩
      obtain ⟨L, hL⟩ : ∃ L, (S k).1.length = L := ⟨_, rfl⟩
      have HNr := hidD hN
      have HLr := hidD hL
      rw [hN] at hcs c0 c1 HS1 hl2 HM2 ⊢
      rw [hL] at HL1 hl1 HM2 HLt ⊢
      have i0 : (((N + 1 : Nat) : Int) - 1) = (N : Int) := by omega
      have i1 : ¬ (N : Int) < 0 := by omega
      have i2 : (0 : Int) ≤ (N : Int) := by omega
      have i3 : (N : Int) ≤ (cs : Int) := by omega
      have i4 : ¬ (cs : Int) < (N : Int) := by omega
      have i5 : (N : Int) < ((N + 1 : Nat) : Int) := by omega
      have i6 : (0 : Int) < ((N + 1 : Nat) : Int) := by omega
      have i7 : (0 : Int) ≤ (i : Int) := by omega
      have i10 : (i : Int) < (n : Int) := by omega
      clear hN hL er hcl htk hx HSo HLo HTr HI HS HL hil HB
      unfold trC at HKF HOP
      unfold opC at HOP
      have HNe : Hid (∀ j, wr.heap.size ≤ j → some j ≠ (Value.slice pl L cl).ownBlock) := fun j hj e => HLt.out j e.symm hj
      rcases hst' : S (k + 1) with ⟨l', s'⟩
      rw [hst'] at st
      have HNx := hidD hst'
      clear hst'
      cases st with
      | zero hz =>
        have z1 : (x.kind == 1) = true := by rw [hz]; rfl
        clear hz
        go_wp2_with fail
        have HI2 : Hid (CmI w S (.slice pl L cl) (.slice (some ⟨gs, 0, none⟩) N cs) ((wr.alloc (.cells #[.int .i64 (i : Int), .bool vb] 95)).alloc (.cells #[.int .i64 x.kind, .int .i64 x.a, .int .i64 x.b, .float .f64 x.x, .float .f64 x.y, .int .i64 x.day, .int .i64 x.to, .int .i64 x.cur, .int .i64 x.count, .int .i64 x.n, .int .i64 x.months] 50)) (k + 1)) := CmI.next HNx.out (by rw [HLr.out]; exact HL1.out) (by rw [HNr.out]; exact HS1.out) HB1.out
        exact ⟨⟨k + 1, hk, HI2⟩, HM2.out _ _ _ HI2.out hk⟩
      | both hz =>
        have z1 : (x.kind == 1) = false := by rw [hz]; rfl
        have z5 : (x.kind == 5) = true := by rw [hz]; rfl
        clear hz
        have HW4 := hidD (al_bel ((wr.alloc (.cells #[.int .i64 (i : Int), .bool vb] 95)).alloc (.cells #[.int .i64 x.kind, .int .i64 x.a, .int .i64 x.b, .float .f64 x.x, .float .f64 x.y, .int .i64 x.day, .int .i64 x.to, .int .i64 x.cur, .int .i64 x.count, .int .i64 x.n, .int .i64 x.months] 50)) (.cells #[.int .i64 x.b, .bool false, .int .i64 x.a, .bool false] 95))
        have HS4 := hidD (orow_below HS1.out HW4.out)
        have HL4 := hidD (orow_below HL1.out HW4.out)
        have HB4 := hidD (HB1.out.trans (HW4.out.mono HB1.out.size))
        have HC4 : Hid (∀ j u, (rowV viC [(x.b, false), (x.a, false)])[j]? = some u → (((wr.alloc (.cells #[.int .i64 (i : Int), .bool vb] 95)).alloc (.cells #[.int .i64 x.kind, .int .i64 x.a, .int .i64 x.b, .float .f64 x.x, .float .f64 x.y, .int .i64 x.day, .int .i64 x.to, .int .i64 x.cur, .int .i64 x.count, .int .i64 x.n, .int .i64 x.months] 50)).alloc (.cells #[.int .i64 x.b, .bool false, .int .i64 x.a, .bool false] 95)).cell? ⟨wr.heap.size + 1 + 1, j, none⟩ = some u) := fun j u hj => by
          have := new_cells ((wr.alloc (.cells #[.int .i64 (i : Int), .bool vb] 95)).alloc (.cells #[.int .i64 x.kind, .int .i64 x.a, .int .i64 x.b, .float .f64 x.x, .float .f64 x.y, .int .i64 x.day, .int .i64 x.to, .int .i64 x.cur, .int .i64 x.count, .int .i64 x.n, .int .i64 x.months] 50)) #[.int .i64 x.b, .bool false, .int .i64 x.a, .bool false] 95 j u hj
          rw [sz_al, sz_al] at this
          exact this
        go_wp2_with (at_builtin; refine wpList_append_g _ Tryz.underlying96 info_vis rfl (by decide) rfl (.tmp 52) (.tmp 59) rfl w.heap.size (.slice (some ⟨gs, 0, none⟩) N cs) N (rowV viC r) rfl HS4.out HB4.out.size (wr.heap.size + 1 + 1) 2 2 (rowV viC [(x.b, false), (x.a, false)]) rfl rfl HC4.out (rowV_one viC_one _) (by omega) (by omega) ?_; intro v5 w5 ho5 hg5; have HS5 := hidD ho5; have HL5 := hidD (HL4.out.kept hg5 (orow_apart HL4.out HS4.out (by decide))); have HB5 := hidD (HB4.out.trans (orow_grown HS4.out hg5 HB4.out.size)); clear ho5 hg5)
        have HI2 : Hid (CmI w S (.slice pl L cl) v5 w5 (k + 1)) := CmI.next HNx.out (by rw [HLr.out]; exact HL5.out) (row_more (by rw [HNr.out]; exact HS5.out) rfl) HB5.out
        exact ⟨⟨k + 1, hk, HI2⟩, HM2.out _ _ _ HI2.out hk⟩
      | op h1 h5 ho =>
        have z1 : (x.kind == 1) = false := beq_eq_false_iff_ne.2 h1
        have z5 : (x.kind == 5) = false := beq_eq_false_iff_ne.2 h5
        have ho' : (vb || !tTk x.kind) = true := ho
        clear h1 h5 ho
        have HGo : Hid (∀ w2, Below ((wr.alloc (.cells #[.int .i64 (i : Int), .bool vb] 95)).alloc (.cells #[.int .i64 x.kind, .int .i64 x.a, .int .i64 x.b, .float .f64 x.x, .float .f64 x.y, .int .i64 x.day, .int .i64 x.to, .int .i64 x.cur, .int .i64 x.count, .int .i64 x.n, .int .i64 x.months] 50)).heap.size ((wr.alloc (.cells #[.int .i64 (i : Int), .bool vb] 95)).alloc (.cells #[.int .i64 x.kind, .int .i64 x.a, .int .i64 x.b, .float .f64 x.x, .float .f64 x.y, .int .i64 x.day, .int .i64 x.to, .int .i64 x.cur, .int .i64 x.count, .int .i64 x.n, .int .i64 x.months] 50)) w2 → Below w.heap.size w w2 ∧ w2.ownsRow w.heap.size 47 9 (.slice pl L cl) L (rowV opC (S k).1) ∧ w2.ownsRow w.heap.size 95 2 (.slice (some ⟨gs, 0, none⟩) N cs) N (rowV viC r) ∧ w2.heap[wr.heap.size + 1]? = some (.cells #[.int .i64 x.kind, .int .i64 x.a, .int .i64 x.b, .float .f64 x.x, .float .f64 x.y, .int .i64 x.day, .int .i64 x.to, .int .i64 x.cur, .int .i64 x.count, .int .i64 x.n, .int .i64 x.months] 50)) := fun w2 hb2 => ⟨HB1.out.trans (hb2.mono HB1.out.size), orow_below HL1.out hb2, orow_below HS1.out hb2, (hb2.block _ (by rw [sz_al, sz_al]; omega)).trans HX1.out⟩
        cases vb
        · have hk4 : tTk x.kind = false := by simpa using ho'
          rw [hk4] at HKF
          clear ho' hk4
          go_wp2_with fail
          refine (HKF.out _).mono ?_
          rintro e w2 ⟨⟨xo, xt, rfl⟩, hb2⟩
          have HX2 := hidD (HGo.out w2 hb2).2.2.2
          have HA2 := hidD hb2
          clear hb2
          have y0 := (opx_cells HX2.out 0 rfl).1
          have y1 := (opx_cells HX2.out 1 rfl).1
          have y2 := (opx_cells HX2.out 2 rfl).1
          have y3 := (opx_cells HX2.out 3 rfl).1
          have y4 := (opx_cells HX2.out 4 rfl).1
          have y5 := (opx_cells HX2.out 5 rfl).1
          have y6 := (opx_cells HX2.out 6 rfl).1
          have y7 := (opx_cells HX2.out 7 rfl).1
          have y8 := (opx_cells HX2.out 8 rfl).1
          have y9 := (opx_cells HX2.out 9 rfl).1
          have y10 := (opx_cells HX2.out 10 rfl).1
          go_wp2_with fail
          refine (HOP.out _).mono ?_
          rintro e w3 ⟨rfl, hb3⟩
          have HG3 := hidD (HGo.out w3 (HA2.out.trans (hb3.mono HA2.out.size)))
          clear hb3 y0 y1 y2 y3 y4 y5 y6 y7 y8 y9 y10 HX2
          have HW4 := hidD (al_bel w3 (.cells #[.int .i64 (opT x).kind, .float .f64 (opT x).x, .float .f64 (opT x).y, .int .i64 (opT x).day, .int .i64 (opT x).to, .int .i64 (opT x).cur, .int .i64 (opT x).count, .int .i64 (opT x).n, .int .i64 (opT x).months] 47))
          have HS4 := hidD (orow_below HG3.out.2.2.1 HW4.out)
          have HL4 := hidD (orow_below HG3.out.2.1 HW4.out)
          have HB4 := hidD (HG3.out.1.trans (HW4.out.mono HG3.out.1.size))
          have HC4 : Hid (∀ j u, (rowV opC [opT x])[j]? = some u → (w3.alloc (.cells #[.int .i64 (opT x).kind, .float .f64 (opT x).x, .float .f64 (opT x).y, .int .i64 (opT x).day, .int .i64 (opT x).to, .int .i64 (opT x).cur, .int .i64 (opT x).count, .int .i64 (opT x).n, .int .i64 (opT x).months] 47)).cell? ⟨w3.heap.size, j, none⟩ = some u) := fun j u hj => new_cells w3 (opC (opT x)) 47 j u (by simpa [rowV] using hj)
          go_wp2_with (at_builtin; refine wpList_append_g _ Tryz.underlying24 info_opC rfl (by decide) rfl (.tmp 70) (.tmp 73) rfl w.heap.size (.slice pl L cl) L (rowV opC (S k).1) rfl HL4.out HB4.out.size w3.heap.size 1 1 (rowV opC [opT x]) rfl rfl HC4.out (rowV_one opC_one _) (by omega) (by omega) ?_; intro v5 w5 ho5 hg5; have HL5 := hidD ho5; have HS5 := hidD (HS4.out.kept hg5 (orow_apart HS4.out HL4.out (by decide))); have HB5 := hidD (HB4.out.trans (orow_grown HL4.out hg5 HB4.out.size)); clear ho5 hg5)
          have HI2 : Hid (CmI w S v5 (.slice (some ⟨gs, 0, none⟩) N cs) w5 (k + 1)) := CmI.next HNx.out (row_more (by rw [HLr.out]; exact HL5.out) rfl) (by rw [HNr.out]; exact HS5.out) HB5.out
          exact ⟨⟨k + 1, hk, HI2⟩, HM2.out _ _ _ HI2.out hk⟩
        · clear ho'
          go_wp2_with fail
          refine (HOP.out _).mono ?_
          rintro e w3 ⟨rfl, hb3⟩
          have HG3 := hidD (HGo.out w3 hb3)
          clear hb3
          have HW4 := hidD (al_bel w3 (.cells #[.int .i64 (opT x).kind, .float .f64 (opT x).x, .float .f64 (opT x).y, .int .i64 (opT x).day, .int .i64 (opT x).to, .int .i64 (opT x).cur, .int .i64 (opT x).count, .int .i64 (opT x).n, .int .i64 (opT x).months] 47))
          have HS4 := hidD (orow_below HG3.out.2.2.1 HW4.out)
          have HL4 := hidD (orow_below HG3.out.2.1 HW4.out)
          have HB4 := hidD (HG3.out.1.trans (HW4.out.mono HG3.out.1.size))
          have HC4 : Hid (∀ j u, (rowV opC [opT x])[j]? = some u → (w3.alloc (.cells #[.int .i64 (opT x).kind, .float .f64 (opT x).x, .float .f64 (opT x).y, .int .i64 (opT x).day, .int .i64 (opT x).to, .int .i64 (opT x).cur, .int .i64 (opT x).count, .int .i64 (opT x).n, .int .i64 (opT x).months] 47)).cell? ⟨w3.heap.size, j, none⟩ = some u) := fun j u hj => new_cells w3 (opC (opT x)) 47 j u (by simpa [rowV] using hj)
          go_wp2_with (at_builtin; refine wpList_append_g _ Tryz.underlying24 info_opC rfl (by decide) rfl (.tmp 70) (.tmp 73) rfl w.heap.size (.slice pl L cl) L (rowV opC (S k).1) rfl HL4.out HB4.out.size w3.heap.size 1 1 (rowV opC [opT x]) rfl rfl HC4.out (rowV_one opC_one _) (by omega) (by omega) ?_; intro v5 w5 ho5 hg5; have HL5 := hidD ho5; have HS5 := hidD (HS4.out.kept hg5 (orow_apart HS4.out HL4.out (by decide))); have HB5 := hidD (HB4.out.trans (orow_grown HL4.out hg5 HB4.out.size)); clear ho5 hg5)
          have HI2 : Hid (CmI w S v5 (.slice (some ⟨gs, 0, none⟩) N cs) w5 (k + 1)) := CmI.next HNx.out (row_more (by rw [HLr.out]; exact HL5.out) rfl) (by rw [HNr.out]; exact HS5.out) HB5.out
          exact ⟨⟨k + 1, hk, HI2⟩, HM2.out _ _ _ HI2.out hk⟩
      | mark h1 h5 ho =>
        have z1 : (x.kind == 1) = false := beq_eq_false_iff_ne.2 h1
        have z5 : (x.kind == 5) = false := beq_eq_false_iff_ne.2 h5
        have ho' : (vb || !tTk x.kind) = false := ho
        clear h1 h5 ho
        cases vb
        · have hk4 : tTk x.kind = true := by simpa using ho'
          rw [hk4] at HKF
          clear ho' hk4
          go_wp2_with fail
          refine (HKF.out _).mono ?_
          rintro e w2 ⟨⟨xo, xt, rfl⟩, hb2⟩
          have HX2 : Hid (w2.heap[wr.heap.size + 1]? = some (.cells #[.int .i64 x.kind, .int .i64 x.a, .int .i64 x.b, .float .f64 x.x, .float .f64 x.y, .int .i64 x.day, .int .i64 x.to, .int .i64 x.cur, .int .i64 x.count, .int .i64 x.n, .int .i64 x.months] 50)) := (hb2.block _ (by rw [sz_al, sz_al]; omega)).trans HX1.out
          have HV2 : Hid (w2.heap[wr.heap.size]? = some (.cells #[.int .i64 (i : Int), .bool false] 95)) := (hb2.block _ (by rw [sz_al, sz_al]; omega)).trans HV1.out
          have HB2 := hidD (HB1.out.trans (hb2.mono HB1.out.size))
          have HL2 := hidD (orow_below HL1.out hb2)
          have HS2 := hidD (orow_below HS1.out hb2)
          have HZ2 : Hid (wr.heap.size + 1 < w2.heap.size) := lt_of_blk HX2.out
          clear hb2
          have HW4 := hidD (al_bel w2 (.cells #[.int .i64 1, .float .f64 0, .float .f64 0, .int .i64 0, .int .i64 0, .int .i64 0, .int .i64 0, .int .i64 0, .int .i64 0] 47))
          have HS4 := hidD (orow_below HS2.out HW4.out)
          have HL4 := hidD (orow_below HL2.out HW4.out)
          have HB4 := hidD (HB2.out.trans (HW4.out.mono HB2.out.size))
          have HC4 : Hid (∀ j u, (rowV opC [markO])[j]? = some u → (w2.alloc (.cells #[.int .i64 1, .float .f64 0, .float .f64 0, .int .i64 0, .int .i64 0, .int .i64 0, .int .i64 0, .int .i64 0, .int .i64 0] 47)).cell? ⟨w2.heap.size, j, none⟩ = some u) := fun j u hj => new_cells w2 (opC markO) 47 j u (by simpa [rowV] using hj)
          go_wp2_with (first | (at_builtin; refine wpList_append_g _ Tryz.underlying24 info_opC rfl (by decide) rfl (.tmp 31) (.tmp 33) rfl w.heap.size (.slice pl L cl) L (rowV opC (S k).1) rfl HL4.out HB4.out.size w2.heap.size 1 1 (rowV opC [markO]) rfl rfl HC4.out (rowV_one opC_one _) (by omega) (by omega) ?_; intro v5 w5 ho5 hg5; have HL5 := hidD ho5; have HS5 := hidD (HS4.out.kept hg5 (orow_apart HS4.out HL4.out (by decide))); have HB5 := hidD (HB4.out.trans (orow_grown HL4.out hg5 HB4.out.size)); have HX5 : Hid (w5.heap[wr.heap.size + 1]? = some (.cells #[.int .i64 x.kind, .int .i64 x.a, .int .i64 x.b, .float .f64 x.x, .float .f64 x.y, .int .i64 x.day, .int .i64 x.to, .int .i64 x.cur, .int .i64 x.count, .int .i64 x.n, .int .i64 x.months] 50)) := (hg5.block _ (Nat.lt_of_lt_of_le HZ2.out HW4.out.size) (HNe.out _ (by omega))).trans ((HW4.out.block _ HZ2.out).trans HX2.out); have HV5 : Hid (w5.heap[wr.heap.size]? = some (.cells #[.int .i64 (i : Int), .bool false] 95)) := (hg5.block _ (Nat.lt_of_lt_of_le (Nat.lt_of_succ_lt HZ2.out) HW4.out.size) (HNe.out _ (by omega))).trans ((HW4.out.block _ (Nat.lt_of_succ_lt HZ2.out)).trans HV2.out); have e0 := (opx_cells HV5.out 0 rfl).1; have e1 := (opx_cells HX5.out 1 rfl).1; have HW6 := hidD (al_bel w5 (.cells #[.int .i64 (i : Int), .bool true, .int .i64 x.a, .bool false] 95)); have HS6 := hidD (orow_below HS5.out HW6.out); have HL6 := hidD (orow_below (row_more (a := (S k).1) (b := [markO]) (by rw [HLr.out]; exact HL5.out) rfl) HW6.out); have HB6 := hidD (HB5.out.trans (HW6.out.mono HB5.out.size)); have HC6 : Hid (∀ j u, (rowV viC [((i : Int), true), (x.a, false)])[j]? = some u → (w5.alloc (.cells #[.int .i64 (i : Int), .bool true, .int .i64 x.a, .bool false] 95)).cell? ⟨w5.heap.size, j, none⟩ = some u) := fun j u hj => new_cells w5 #[.int .i64 (i : Int), .bool true, .int .i64 x.a, .bool false] 95 j u hj; clear ho5 hg5) | (at_builtin; refine wpList_append_g _ Tryz.underlying96 info_vis rfl (by decide) rfl (.tmp 35) (.tmp 42) rfl w.heap.size (.slice (some ⟨gs, 0, none⟩) N cs) N (rowV viC r) rfl HS6.out HB6.out.size w5.heap.size 2 2 (rowV viC [((i : Int), true), (x.a, false)]) rfl rfl HC6.out (rowV_one viC_one _) (by omega) (by omega) ?_; intro v7 w7 ho7 hg7; have HS7 := hidD ho7; have HL7 := hidD (HL6.out.kept hg7 (orow_apart HL6.out HS6.out (by decide))); have HB7 := hidD (HB6.out.trans (orow_grown HS6.out hg7 HB6.out.size)); clear ho7 hg7))
          have HI2 : Hid (CmI w S v5 v7 w7 (k + 1)) := CmI.next HNx.out HL7.out (row_more (by rw [HNr.out]; exact HS7.out) rfl) HB7.out
          exact ⟨⟨k + 1, hk, HI2⟩, HM2.out _ _ _ HI2.out hk⟩
        · simp at ho'
    · obtain rfl : k = K := by omega
      obtain ⟨ps, cs, gs, hsv, _⟩ := orow_src HI.out.s
      obtain ⟨pl, cl, gl, hlv, _⟩ := orow_src HI.out.l
      subst hsv hlv
      rw [HK.out]
      go_wp2_with fail
      go_ret
      exact ⟨_, rfl, HI.out.l, HI.out.b⟩
end Go.Proofs.YtienedhaogjahaaGreatDoor
namespace Go.Proofs.YtienedhaogjahaaGreatDoor
open Go.RowKit

theorem orow_lower {B B' sz n : Nat} {T : TypeId} {v : Value} {xs : List Value} {w : World} (h : w.ownsRow B T sz v n xs) (hB : B' ≤ B) : w.ownsRow B' T sz v n xs := by
  refine ⟨h.1, ?_⟩
  rcases h.2 with hn | ⟨g, cap, cur, e, hg, rest⟩
  · exact .inl hn
  · exact .inr ⟨g, cap, cur, e, Nat.le_trans hB hg, rest⟩
def code18 : List Opr := [markO, markO, opT (tmP 3), opT (giveT 0), opT (giveT 1)]
def st18 : Nat → List Opr × List (Int × Bool)
  | 0 => ([], [(2, false)])
  | 1 => ([markO], [(2, true), (1, false)])
  | 2 => ([markO, markO], [(2, true), (1, true), (0, false)])
  | 3 => ([markO, markO, opT (tmP 3)], [(2, true), (1, true)])
  | 4 => ([markO, markO, opT (tmP 3), opT (giveT 0)], [(2, true)])
  | _ => (code18, [])
theorem st18_step (k : Nat) (hk : k < 5) : ∃ (r : List (Int × Bool)) (i : Nat) (vb : Bool), (st18 k).2 = r ++ [((i : Int), vb)] ∧ i < 3 ∧ CStep (tree18.getD i trm0) (st18 k).1 r ((i : Int), vb) (st18 (k + 1)) := by
  rcases (show k = 0 ∨ k = 1 ∨ k = 2 ∨ k = 3 ∨ k = 4 by omega) with rfl | rfl | rfl | rfl | rfl
  · exact ⟨[], 2, false, rfl, by decide, .mark (by decide) (by decide) rfl⟩
  · exact ⟨[(2, true)], 1, false, rfl, by decide, .mark (by decide) (by decide) rfl⟩
  · exact ⟨[(2, true), (1, true)], 0, false, rfl, by decide, .op (by decide) (by decide) rfl⟩
  · exact ⟨[(2, true)], 1, true, rfl, by decide, .op (by decide) (by decide) rfl⟩
  · exact ⟨[], 2, true, rfl, by decide, .op (by decide) (by decide) rfl⟩
theorem compiled18 (g c : Nat) (w : World) (ht : TmR w g tree18) : Calls Tryz.prog 22 #[.slice (some ⟨g, 0, none⟩) 3 c] w fun e w' => ∃ v, e = .returned v ∧ w'.ownsRow w.heap.size 47 9 v 5 (rowV opC code18) ∧ Below w.heap.size w w' :=
  compiled_go tree18 3 g c 5 rfl (by decide) st18 rfl rfl st18_step (fun k hk => by
    rcases (show k = 0 ∨ k = 1 ∨ k = 2 ∨ k = 3 ∨ k = 4 ∨ k = 5 by omega) with rfl | rfl | rfl | rfl | rfl | rfl <;> exact ⟨by decide, by decide⟩) w ht
set_option maxRecDepth 20000 in
theorem cCompile18 (g c : Nat) (w : World) (ht : TmR w g tree18) : Calls Tryz.prog 8 #[.slice (some ⟨g, 0, none⟩) 3 c] w fun e w' => ∃ v, e = .returned (.tuple #[v, .int .i64 0]) ∧ w'.ownsRow w.heap.size 47 9 v 5 (rowV opC code18) ∧ Below w.heap.size w w' := by
  have HC := hidD (check_of _ 3 w (measure18 g c w ht))
  have HT := hidD ht
  clear ht
  go_enter Tryz.func8, Tryz.ntmps8
  go_wp2_with fail
  refine HC.out.mono ?_
  rintro e w1 ⟨rfl, hb⟩
  have HB := hidD hb
  have HD := hidD (compiled18 g c w1 (HT.out.below hb))
  clear hb
  go_wp2_with fail
  refine HD.out.mono ?_
  rintro e w2 ⟨v, rfl, ho, hb⟩
  have HE := hidD (And.intro (orow_lower ho HB.out.size) (HB.out.trans (hb.mono HB.out.size)))
  clear ho hb
  go_wp2_with fail
  go_ret2
  exact ⟨_, rfl, HE.out.1, HE.out.2⟩
end Go.Proofs.YtienedhaogjahaaGreatDoor
namespace Go.Proofs.YtienedhaogjahaaGreatDoor
open Go.RowKit

theorem osrc_of {w : World} {B n c : Nat} {p : Option Addr} {l : List Opr} (h : w.ownsRow B 47 9 (.slice p n c) n (rowV opC l)) (hn : l.length = n) : ∃ g, OSrc w p g 0 l := by
  obtain ⟨p', c', g, hv, _, _, hp, _, hb, hc, _⟩ := orow_src h
  injection hv with hv1 hv2 hv3
  subst hv1 hv3
  have hg : ∀ i < l.length, ∀ j < 9, w.cell? ⟨g, i * 9 + j, none⟩ = (opC (l.getD i opr0))[j]? := fun i hi j hj => by
    rw [hc _ (by omega), rowV_get opC_size opr0 l i j hi hj]
  refine ⟨g, ⟨fun h => hp (by omega), fun h => (hb _ (hp (by omega))).2.2, ?_, ?_, ?_, ?_, ?_, ?_, ?_, ?_, ?_⟩⟩ <;> intro i hi <;> rw [Nat.zero_add]
  · exact hg i hi 0 (by decide)
  · exact hg i hi 1 (by decide)
  · exact hg i hi 2 (by decide)
  · exact hg i hi 3 (by decide)
  · exact hg i hi 4 (by decide)
  · exact hg i hi 5 (by decide)
  · exact hg i hi 6 (by decide)
  · exact hg i hi 7 (by decide)
  · exact hg i hi 8 (by decide)
theorem mea18 : MeaR code18 2 0 0 :=
  MeaR.fine (l := code18) (by decide) (fun i hi => by
    have hi' : i < 5 := hi
    rcases (show i = 0 ∨ i = 1 ∨ i = 2 ∨ i = 3 ∨ i = 4 by omega) with rfl | rfl | rfl | rfl | rfl <;> decide +kernel) (by decide +kernel)
theorem opu18 (i : Nat) (hi : i < 5) : OpU (code18.getD i opr0) := by
  rcases (show i = 0 ∨ i = 1 ∨ i = 2 ∨ i = 3 ∨ i = 4 by omega) with rfl | rfl | rfl | rfl | rfl <;> exact ⟨by constructor <;> decide, by constructor <;> decide⟩
theorem cMarks18 (p : Option Addr) (b off c : Nat) (w : World) (hs : OSrc w p b off code18) : Calls Tryz.prog 20 #[.slice p 5 c] w fun e w' => e = .returned (.tuple #[.int .i64 2, .int .i64 0]) ∧ Below w.heap.size w w' :=
  cMarks_is mea18 5 p b off c w hs rfl opu18 (by decide)
end Go.Proofs.YtienedhaogjahaaGreatDoor
namespace Go.Proofs.YtienedhaogjahaaGreatDoor
open Go.RowKit

theorem term18 (b h : Nat) (u : Nat → Value) (w0 w : World) (ht : TabC h u w0) (hb0 : Below w0.heap.size w0 w) (hlb : w0.heap.size ≤ b) (hR : RdB w b txt18 (.slice (some ⟨h, 0, none⟩) 8 8) 0 0 0 (.slice none 0 0)) {bp op cp : Nat} (hp : PfT 6 5 9 bp op cp w0) :
    Calls Tryz.prog 38 #[.pointer (some ⟨b, 0, none⟩), .int .i64 1] w fun e w' => e = .returned (.int .i64 2) ∧ ∃ v, RdB w' b txt18 (.slice (some ⟨h, 0, none⟩) 8 8) 18 28 3 v ∧ OwnT w.heap.size v [tmP 3, giveT 0, giveT 1] w' ∧ BelX b w w' :=
  termGive (i := 0) wr18_0 (by decide) b h u 0 1 w0 w 0 ht hb0 hlb hR (by decide) (by decide) (by decide) (by decide) 1 18 28 3 [tmP 3, giveT 0] (by decide) (by decide) fun wx hx hr =>
    termGive (i := 4) wr18_4 (by decide) b h u 1 2 w0 wx 0 ht hx hlb hr (by decide) (by decide) (by decide) (by decide) 0 18 28 3 [tmP 3] (by decide) (by decide) fun wy hy hr' =>
      termPay b h u 2 3 w0 wy 5 ht hy hlb hr' (by decide) (by decide) (by decide) hp
end Go.Proofs.YtienedhaogjahaaGreatDoor
namespace Go.Proofs.YtienedhaogjahaaGreatDoor
open Go.RowKit

set_option maxRecDepth 20000 in
theorem idle18 (p1 p2 p3 : Value) (w : World) :
    CallsD Tryz.prog 35 #[p1, p2, p3] .returning w fun e u' w' => e = .returned (.tuple #[]) ∧ u' = .returning ∧ w' = w := by
  refine callsD_of_wpS Tryz.func35 rfl fun c₀ cs hu => ?_
  apply wpS_seq
  apply wpS_region
  simp [wpOpsS, go_sem, recoverD, hu, Tryz.ntmps35, Exit.thenS]
  apply wpS_seq
  apply wpS_region
  simp [wpOpsS, go_sem, recoverD, hu, Exit.thenS]
  refine wpS_cond (t := false) (by simp [Act.eval, Array.replicate]) ?_
  simp only [Bool.false_eq_true, if_false]
  refine wpS_of_wp (wp_skip ?_)
  cases c₀
  simp_all [bodyPostS, results, Tryz.results35]
structure PrB (w wr : World) : Prop where
  r0 : wr.heap[w.heap.size]? = some (.cells #[.slice none 0 0] 22)
  r1 : wr.heap[w.heap.size + 1]? = some (.cells #[.int .i64 0] 25)
  r2 : wr.heap[w.heap.size + 1 + 1]? = some (.cells #[.int .i64 0] 3)
  bl : Below w.heap.size w wr
theorem prB_at (w : World) : PrB w (((w.alloc (.cells #[.slice none 0 0] 22)).alloc (.cells #[.int .i64 0] 25)).alloc (.cells #[.int .i64 0] 3)) := by
  refine ⟨?_, ?_, ?_, (((Below.refl _ _).alloc (Nat.le_refl _) _).alloc (by simp) _).alloc (by simp; omega) _⟩
  · simp only [al_at, sz_al]; repeat rw [if_neg (by omega)]
    exact if_pos trivial
  · simp only [al_at, sz_al]; repeat rw [if_neg (by omega)]
    exact if_pos trivial
  · simp only [al_at, sz_al]; exact if_pos trivial
theorem PrB.step {w wr w' : World} (h : PrB w wr) (hb : Below wr.heap.size wr w') : PrB w w' := ⟨(hb.block _ (lt_of_blk h.r0)).trans h.r0, (hb.block _ (lt_of_blk h.r1)).trans h.r1, (hb.block _ (lt_of_blk h.r2)).trans h.r2, h.bl.trans (hb.mono h.bl.size)⟩
theorem PrB.over {w wr w' : World} {b : Nat} (h : PrB w wr) (hx : BelX b wr w') (hb : w.heap.size + 1 + 1 < b) : PrB w w' := ⟨(hx.block _ (lt_of_blk h.r0) (by omega)).trans h.r0, (hx.block _ (lt_of_blk h.r1) (by omega)).trans h.r1, (hx.block _ (lt_of_blk h.r2) (by omega)).trans h.r2, hx.below h.bl (by omega) h.bl.size⟩
theorem rdB_at (w : World) (s : ByteArray) (kv : Value) : RdB (w.alloc (.cells #[.string s, kv, .int .i64 0, .int .i64 0, .int .i64 0, .slice none 0 0] 89)) w.heap.size s kv 0 0 0 (.slice none 0 0) := heap_alloc_new _ _
set_option maxRecDepth 20000 in
set_option maxHeartbeats 6400000 in
theorem parse18 (w : World) {bp op cp : Nat} (hp : PfT 6 5 9 bp op cp w) :
    Calls Tryz.prog 19 #[.string txt18] w fun e w' => ∃ v, e = .returned (.tuple #[v, .int .i64 0, .int .i64 0]) ∧ OwnT w.heap.size v [tmP 3, giveT 0, giveT 1] w' ∧ Below w.heap.size w w' := by
  have hmf := make_fnD
  have HP := hidD hp
  have hsz : txt18.size = 28 := rfl
  clear hp
  go_enter_defers Tryz.func19, Tryz.ntmps19
  go_wp2_with fail
  have H0 := hidD (prB_at w)
  refine (kinds_any _).mono ?_
  rintro e wk ⟨v, rfl, hv, hb⟩
  obtain ⟨h, u, rfl, ht⟩ := tab_open hv
  have H1 := hidD (H0.out.step hb)
  have HTb := hidD ht
  have hwk : w.heap.size + 1 + 1 < wk.heap.size := lt_of_blk H1.out.r2
  have HWk := hidD (show w.heap.size ≤ wk.heap.size + 1 by omega)
  clear hv hb ht H0
  have hb1 := al_bel wk (.cells #[.string txt18, .slice (some ⟨h, 0, none⟩) 8 8, .int .i64 0, .int .i64 0, .int .i64 0, .slice none 0 0] 89)
  have H2 := hidD (H1.out.step hb1)
  have HTm := hidD (term18 wk.heap.size h u wk _ HTb.out hb1 (Nat.le_refl _) (rdB_at wk txt18 (.slice (some ⟨h, 0, none⟩) 8 8)) (HP.out.below H1.out.bl))
  have hs2 : (wk.alloc (.cells #[.string txt18, .slice (some ⟨h, 0, none⟩) 8 8, .int .i64 0, .int .i64 0, .int .i64 0, .slice none 0 0] 89)).heap.size = wk.heap.size + 1 := by simp
  clear hb1 hsz
  go_wp2_with fail
  refine HTm.out.mono ?_
  rintro e w3 ⟨rfl, v3, hr3, ho3, hx3⟩
  rw [hs2] at ho3
  have H3 := hidD (H2.out.over hx3 hwk)
  have HO3 := hidD (ho3.lower (show w.heap.size ≤ wk.heap.size + 1 by omega))
  have HWd := hidD (word_at wr18_28 wk.heap.size (.slice (some ⟨h, 0, none⟩) 8 8) v3 18 3 ⟨#[]⟩ (by decide) w3 hr3 (by decide))
  obtain ⟨g3, c3, rfl⟩ := ho3.full (by decide)
  have HG3 := hidD (And.intro ho3 hr3)
  clear hr3 ho3 hx3 HTm H2 hs2
  go_wp2_with fail
  refine HWd.out.mono ?_
  rintro e w4 ⟨rfl, hr4, ho4⟩
  have H4 := hidD (H3.out.over (.of_one ho4) hwk)
  obtain ⟨_, _, q5, _⟩ := rd_cells hr4
  have hg3 : wk.heap.size + 1 ≤ g3 := HG3.out.1.base
  have HO4 := hidD (HG3.out.1.keep (w' := w4) fun k hk => by
    have : g3 = k := by simpa [Value.ownBlock] using hk
    exact ho4.out k (by omega))
  clear hr4 ho4 HWd
  have c0 := cell1_of H4.out.r0
  have c1 := cell1_of H4.out.r1
  have c2 := cell1_of H4.out.r2
  have y0 : w4.frozen? ⟨w.heap.size, 0, none⟩ = false := by simp [World.frozen?, H4.out.r0]
  have y1 : w4.frozen? ⟨w.heap.size + 1, 0, none⟩ = false := by simp [World.frozen?, H4.out.r1]
  have y2 : w4.frozen? ⟨w.heap.size + 1 + 1, 0, none⟩ = false := by simp [World.frozen?, H4.out.r2]
  obtain ⟨w5, hw5⟩ : ∃ w5, ((w4.setCell ⟨w.heap.size, 0, none⟩ (.slice (some ⟨g3, 0, none⟩) [tmP 3, giveT 0, giveT 1].length c3)).setCell ⟨w.heap.size + 1, 0, none⟩ (.int .i64 0)).setCell ⟨w.heap.size + 1 + 1, 0, none⟩ (.int .i64 0) = w5 := ⟨_, rfl⟩
  have HE : Hid ((w5.cell? ⟨w.heap.size, 0, none⟩ = some (.slice (some ⟨g3, 0, none⟩) [tmP 3, giveT 0, giveT 1].length c3) ∧ w5.cell? ⟨w.heap.size + 1, 0, none⟩ = some (.int .i64 0) ∧ w5.cell? ⟨w.heap.size + 1 + 1, 0, none⟩ = some (.int .i64 0)) ∧ OwnT (wk.heap.size + 1) (.slice (some ⟨g3, 0, none⟩) [tmP 3, giveT 0, giveT 1].length c3) [tmP 3, giveT 0, giveT 1] w5 ∧ Below w.heap.size w w5) := by
    refine ⟨⟨?_, ?_, ?_⟩, ?_, ?_⟩
    · rw [← hw5]; simp [go_sem, c0]
    · rw [← hw5]; simp [go_sem, c1]
    · rw [← hw5]; simp [go_sem, c2]
    · rw [← hw5]
      exact HO4.out.keep fun k hk => by
        have : g3 = k := by simpa [Value.ownBlock] using hk
        rw [blkF_far _ _ _ _ (by show k ≠ w.heap.size + 1 + 1; omega), blkF_far _ _ _ _ (by show k ≠ w.heap.size + 1; omega), blkF_far _ _ _ _ (by show k ≠ w.heap.size; omega)]
    · rw [← hw5]
      exact ((H4.out.bl.setCell (p := ⟨w.heap.size, 0, none⟩) (Nat.le_refl _) _).setCell (p := ⟨w.heap.size + 1, 0, none⟩) (by show w.heap.size ≤ w.heap.size + 1; omega) _).setCell (p := ⟨w.heap.size + 1 + 1, 0, none⟩) (by show w.heap.size ≤ w.heap.size + 1 + 1; omega) _
  have e3 : [tmP 3, giveT 0, giveT 1].length = 3 := rfl
  rw [e3] at hw5 q5
  clear e3 hg3 hwk
  go_wp2_with fail
  refine leaves_cons (f := 35) (args := #[.pointer (some ⟨w.heap.size, 0, none⟩), .pointer (some ⟨w.heap.size + 1, 0, none⟩), .pointer (some ⟨w.heap.size + 1 + 1, 0, none⟩)]) (by simp) (by simp [go_sem]) ?_
  refine (idle18 _ _ _ _).mono ?_
  rintro e u' w'' ⟨rfl, rfl, rfl⟩
  obtain ⟨⟨k0, k1, k2⟩, ho, hb⟩ := HE.out
  simp [Leaves, settle, results, Tryz.results19, go_sem, k0, k1, k2]
  exact ⟨ho.lower HWk.out, hb⟩
end Go.Proofs.YtienedhaogjahaaGreatDoor
namespace Go.Proofs.YtienedhaogjahaaGreatDoor
open Go.RowKit

def psG (i : Nat) : List Nat := [[], [3, 7, 5], [3, 4, 8, 5, 6, 9, 7], [], [], [3], [5, 6], [9, 10]].getD i []
def ptN (k : Int) : Nat := if k = 5 then 2 else if 4 ≤ k ∧ k ≤ 8 then 1 else 0
def abZ (t : Trm) : Bool := if ptN t.kind = 2 then true else if ptN t.kind = 1 then t.b == 0 else t.a == 0 && t.b == 0
def fitT (t : Trm) : Bool := fldB t && abZ t
theorem pt_kd {ix : Nat} (h : ix < 8) : (kdG ix).parts = ((ptN ((ix : Int) + 1) : Nat) : Int) := by
  rcases (show ix = 0 ∨ ix = 1 ∨ ix = 2 ∨ ix = 3 ∨ ix = 4 ∨ ix = 5 ∨ ix = 6 ∨ ix = 7 by omega) with rfl | rfl | rfl | rfl | rfl | rfl | rfl | rfl <;> rfl
theorem ps_len {ix : Nat} (h : ix < 8) : (psG ix).length = (kdG ix).ds.length := by
  rcases (show ix = 0 ∨ ix = 1 ∨ ix = 2 ∨ ix = 3 ∨ ix = 4 ∨ ix = 5 ∨ ix = 6 ∨ ix = 7 by omega) with rfl | rfl | rfl | rfl | rfl | rfl | rfl | rfl <;> rfl
theorem ps_in {ix : Nat} (h : ix < 8) : ∀ j < (psG ix).length, 3 ≤ (psG ix).getD j 0 ∧ (psG ix).getD j 0 ≤ 10 := by
  rcases (show ix = 0 ∨ ix = 1 ∨ ix = 2 ∨ ix = 3 ∨ ix = 4 ∨ ix = 5 ∨ ix = 6 ∨ ix = 7 by omega) with rfl | rfl | rfl | rfl | rfl | rfl | rfl | rfl <;> decide
theorem ds_len {ix : Nat} (h : ix < 8) : (kdG ix).ds.length ≤ 7 := by
  rcases (show ix = 0 ∨ ix = 1 ∨ ix = 2 ∨ ix = 3 ∨ ix = 4 ∨ ix = 5 ∨ ix = 6 ∨ ix = 7 by omega) with rfl | rfl | rfl | rfl | rfl | rfl | rfl | rfl <;> decide
theorem fdI_Y : fdI fdY 4 := ⟨acF3, Or.inr rfl⟩
theorem fdI_Count : fdI fdCount 8 := ⟨acF4, by decide, by decide⟩
theorem fdI_To : fdI fdTo 6 := ⟨acF6, by decide, by decide⟩
theorem fdI_Beh : fdI fdBeh 6 := ⟨acF6, rfl⟩
theorem fdI_N1200 : fdI fdN1200 9 := ⟨acF1, by decide, by decide⟩
theorem fdI_N4096 : fdI fdN4096 9 := ⟨acF1, by decide, by decide⟩
theorem fdI_Mon : fdI fdMon 10 := ⟨acF8, by decide, by decide⟩
theorem fdI_G {ix : Nat} (h : ix < 8) : ∀ j (hj : j < (kdG ix).ds.length), fdI (kdG ix).ds[j] ((psG ix).getD j 0) := by
  rcases (show ix = 0 ∨ ix = 1 ∨ ix = 2 ∨ ix = 3 ∨ ix = 4 ∨ ix = 5 ∨ ix = 6 ∨ ix = 7 by omega) with rfl | rfl | rfl | rfl | rfl | rfl | rfl | rfl <;> intro j hj
  · exact absurd hj (by show ¬ j < 0; omega)
  · rcases (show j = 0 ∨ j = 1 ∨ j = 2 by have : j < 3 := hj; omega) with rfl | rfl | rfl
    · exact fdI_X
    · exact fdI_Cur
    · exact fdI_From
  · rcases (show j = 0 ∨ j = 1 ∨ j = 2 ∨ j = 3 ∨ j = 4 ∨ j = 5 ∨ j = 6 by have : j < 7 := hj; omega) with rfl | rfl | rfl | rfl | rfl | rfl | rfl
    · exact fdI_X
    · exact fdI_Y
    · exact fdI_Count
    · exact fdI_From
    · exact fdI_Beh
    · exact fdI_N1200
    · exact fdI_Cur
  · exact absurd hj (by show ¬ j < 0; omega)
  · exact absurd hj (by show ¬ j < 0; omega)
  · obtain rfl : j = 0 := by have : j < 1 := hj; omega
    exact fdI_X
  · rcases (show j = 0 ∨ j = 1 by have : j < 2 := hj; omega) with rfl | rfl
    · exact fdI_From
    · exact fdI_To
  · rcases (show j = 0 ∨ j = 1 by have : j < 2 := hj; omega) with rfl | rfl
    · exact fdI_N4096
    · exact fdI_Mon
set_option maxRecDepth 20000 in
set_option maxHeartbeats 3200000 in
theorem fit_tree (t : Trm) {ix : Nat} (h : ix < 8) (hk : t.kind = (ix : Int) + 1) : fitK (kdG ix) (psG ix) t = fitT t := by
  have o0 : FloatKind.f64.format.order 0 0 = some .eq := eq_of_beq ord_00
  rcases (show ix = 0 ∨ ix = 1 ∨ ix = 2 ∨ ix = 3 ∨ ix = 4 ∨ ix = 5 ∨ ix = 6 ∨ ix = 7 by omega) with rfl | rfl | rfl | rfl | rfl | rfl | rfl | rfl
  · have hk' : t.kind = 1 := by omega
    obtain ⟨k, a, b, x, y, day, to, cur, count, n, months⟩ := t
    dsimp only at hk'
    subst hk'
    rw [Bool.eq_iff_iff]
    simp only [fitK, kdG, kdL, kdZero, List.getD_cons_zero, psG, fitT, fldB, abZ, ptN, restB, restT]
    simp [fdFit, fdX, xAt, clrL, eqF, numT, eqT, tn1]
    clear hk h
    constructor <;> intro h <;> simp_all
  · have hk' : t.kind = 2 := by omega
    obtain ⟨k, a, b, x, y, day, to, cur, count, n, months⟩ := t
    dsimp only at hk'
    subst hk'
    rw [Bool.eq_iff_iff]
    simp only [fitK, kdG, kdL, kdPay, List.getD_cons_zero, List.getD_cons_succ, psG, fitT, fldB, abZ, ptN, restB, restT]
    simp [List.range_succ, fdFit, fdX, fdFrom, fdCur, xAt, tAt, clrL, clrT, eqF, numT, eqT, tn2]
    clear hk h
    constructor <;> intro h <;> simp_all
  · have hk' : t.kind = 3 := by omega
    obtain ⟨k, a, b, x, y, day, to, cur, count, n, months⟩ := t
    dsimp only at hk'
    subst hk'
    rw [Bool.eq_iff_iff]
    simp only [fitK, kdG, kdL, kdFixed, List.getD_cons_zero, List.getD_cons_succ, psG, fitT, fldB, abZ, ptN, restB, restT]
    simp [List.range_succ, fdFit, fdX, fdY, fdCount, fdFrom, fdBeh, fdCur, fdN1200, xAt, tAt, clrL, clrT, eqF, numT, eqT, tn3]
    clear hk h
    constructor <;> intro h <;> simp_all
  · have hk' : t.kind = 4 := by omega
    obtain ⟨k, a, b, x, y, day, to, cur, count, n, months⟩ := t
    dsimp only at hk'
    subst hk'
    rw [Bool.eq_iff_iff]
    simp only [fitK, kdG, kdL, kdGive, List.getD_cons_zero, List.getD_cons_succ, psG, fitT, fldB, abZ, ptN, restB, restT]
    simp [fdFit, fdX, xAt, clrL, eqF, numT, eqT, tn4]
    clear hk h
    constructor <;> intro h <;> simp_all
  · have hk' : t.kind = 5 := by omega
    obtain ⟨k, a, b, x, y, day, to, cur, count, n, months⟩ := t
    dsimp only at hk'
    subst hk'
    rw [Bool.eq_iff_iff]
    simp only [fitK, kdG, kdL, kdBoth, List.getD_cons_zero, List.getD_cons_succ, psG, fitT, fldB, abZ, ptN, restB, restT]
    simp [fdFit, fdX, xAt, clrL, eqF, numT, eqT, tn5]
    clear hk h
    constructor <;> intro h <;> simp_all
  · have hk' : t.kind = 6 := by omega
    obtain ⟨k, a, b, x, y, day, to, cur, count, n, months⟩ := t
    dsimp only at hk'
    subst hk'
    rw [Bool.eq_iff_iff]
    simp only [fitK, kdG, kdL, kdScale, List.getD_cons_zero, List.getD_cons_succ, psG, fitT, fldB, abZ, ptN, restB, restT]
    simp [List.range_succ, fdFit, fdX, xAt, tAt, clrL, clrT, eqF, numT, eqT, tn6]
    clear hk h
    constructor <;> intro h <;> simp_all
  · have hk' : t.kind = 7 := by omega
    obtain ⟨k, a, b, x, y, day, to, cur, count, n, months⟩ := t
    dsimp only at hk'
    subst hk'
    rw [Bool.eq_iff_iff]
    simp only [fitK, kdG, kdL, kdWindow, List.getD_cons_zero, List.getD_cons_succ, psG, fitT, fldB, abZ, ptN, restB, restT]
    simp [List.range_succ, fdFit, fdX, fdFrom, fdTo, xAt, tAt, clrL, clrT, eqF, numT, eqT, tn7]
    clear hk h
    constructor <;> intro h <;> simp_all
  · have hk' : t.kind = 8 := by omega
    obtain ⟨k, a, b, x, y, day, to, cur, count, n, months⟩ := t
    dsimp only at hk'
    subst hk'
    rw [Bool.eq_iff_iff]
    simp only [fitK, kdG, kdL, kdRepeat, List.getD_cons_zero, List.getD_cons_succ, psG, fitT, fldB, abZ, ptN, restB, restT]
    simp [List.range_succ, fdFit, fdX, fdN4096, fdMon, xAt, tAt, clrL, clrT, eqF, numT, eqT, tn8]
    clear hk h
    constructor <;> intro h <;> simp_all
end Go.Proofs.YtienedhaogjahaaGreatDoor
