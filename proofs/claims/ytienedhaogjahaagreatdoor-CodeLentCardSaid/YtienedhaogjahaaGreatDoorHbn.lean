/- The document's mates. The document's without. The document's once. The document's Trim. Package code: the builder takes the last piece away, and sets a term beside it. -/
import Derived.Test.YtienedhaogjahaaGreatDoorHbm
import Derived.Test.YtienedhaogjahaaGreatDoorHbe
import Derived.Test.YtienedhaogjahaaGreatDoorHbk
import Derived.Maps.AppendAt
import Derived.Test.YtienedhaogjahaaGreatDoorHbg
namespace Go.Proofs.YtienedhaogjahaaGreatDoor
open Go.RowKit

def AP (a b : Value) : Prop := a.ownBlock = none ∨ a.ownBlock ≠ b.ownBlock
theorem AP.symm {a b : Value} (h : AP a b) : AP b a := by
  unfold AP at *
  rcases h with h | h
  · cases e : b.ownBlock with
    | none => exact .inl rfl
    | some g => refine .inr ?_; rw [h]; intro h'; cases h'
  · exact .inr (Ne.symm h)
theorem AP.next {B sz n : Nat} {T : TypeId} {a b b' : Value} {xs : List Value} {w : World} (h : AP a b) (ha : w.ownsRow B T sz a n xs) (hb : b'.ownBlock = b.ownBlock ∨ b'.ownBlock = some w.heap.size) : AP a b' := by
  unfold AP at *
  rcases h with h | h
  · exact .inl h
  · rcases hb with hb | hb
    · rw [hb]; exact .inr h
    · cases e : a.ownBlock with
      | none => exact .inl rfl
      | some g =>
        refine .inr fun h' => ?_
        rw [hb] at h'
        injection h' with h'
        have := (ha.lt g e).2
        omega
theorem wpList_append_h (w : World) {T ST : TypeId} {z : Value} {sz bt : Nat} (hu : Tryz.prog.underlying ST = some (.slice T)) (hinf : (Tryz.prog.info? T).map (fun i => (i.zero, i.size, i.bytes)) = some (some z, sz, bt)) (hzs : z.cells.size = sz) (hsz : 0 < sz)
    {ops : Array Oper} {rest : List Oper} {o : Oper} {a : Act} {Q : Exit → Act → World → Prop} (hgd : o.guard = none) (s x : Operand)
    (ho : o.op = .call { callee := .builtin .append, args := #[s, x], argTypes := #[ST, ST] })
    (B : Nat) (v : Value) (n : Nat) (xs : List Value) (hs : a.eval s = v) (hown : w.ownsRow B T sz v n xs) (hb : B ≤ w.heap.size)
    (g m c : Nat) (news : List Value) (hx : a.eval x = .slice (some ⟨g, 0, none⟩) m c) (hl : news.length = m * sz) (hc : ∀ j u, news[j]? = some u → w.cell? ⟨g, j, none⟩ = some u) (h1 : ∀ u ∈ news, u.oneCell' = true) (hn : n + m ≤ 140737488355328) (hn2 : (n + m) * bt ≤ 140737488355328)
    (h : ∀ v' w', w'.ownsRow B T sz v' (n + m) (xs ++ news) → w.grownBy w' v.ownBlock → (v'.ownBlock = v.ownBlock ∨ v'.ownBlock = some w.heap.size) → wpList Tryz.prog ops Q rest (a.put o.dst v') w') : wpList Tryz.prog ops Q (o :: rest) a w := by
  obtain ⟨i0, hi, hz0, hz1, hz2⟩ := info_partsD hinf
  refine wpList_append_own_at w hgd s x ST ho B T i0 z sz bt hu hi hz0 hz1 hz2 hzs hsz v n xs hs hown ⟨g, 0, none⟩ m c news hx hl ?_ h1 (by unfold maxLen; omega) hn2 hb (fun v' w' h1 h2 _ h4 => h v' w' h1 h2 h4)
  intro j u hj
  rw [Addr.add_lit, Nat.zero_add]
  exact hc j u hj
structure MtI (l : List Opr) (B : Nat) (w : World) (k : Nat) (vo vp : Value) (wr : World) : Prop where
  out : wr.ownsRow B 3 1 vo k (rowV inC ((List.range k).map (mat l)))
  opn : wr.ownsRow B 3 1 vp (fulF l k).2.length (rowV inC (fulF l k).2)
  ap : AP vo vp
  bel : Below w.heap.size w wr
theorem MtI.below {l : List Opr} {B : Nat} {w wr w' : World} {k : Nat} {vo vp : Value} (h : MtI l B w k vo vp wr) (hb : Below wr.heap.size wr w') : MtI l B w k vo vp w' := ⟨orow_below h.out hb, orow_below h.opn hb, h.ap, h.bel.trans (hb.mono h.bel.size)⟩
theorem rng_more (l : List Opr) (k : Nat) : rowV inC ((List.range (k + 1)).map (mat l)) = rowV inC ((List.range k).map (mat l)) ++ rowV inC [mat l k] := by
  rw [List.range_succ, List.map_append, rowV_append]; rfl
set_option maxRecDepth 20000 in
set_option maxHeartbeats 12800000 in
theorem r18Mates_any (l : List Opr) (N : Nat) (p : Option Addr) (b off c : Nat) (w : World) (hl : DSrc w p b off l) (hN : l.length = N) (hok : OkL l) :
    Calls Tryz.prog 57 #[.slice p N c] w fun e w' => (∃ q cp, e = .returned (.slice q N cp) ∧ w'.ownsRow w.heap.size 3 1 (.slice q N cp) N (rowV inC ((List.range N).map (mat l)))) ∧ Below w.heap.size w w' := by
  have HQ := hidD (And.intro hl (And.intro hN hok))
  have hc2 : N ≤ 8192 := by have := hok.len; omega
  have HI0 : Hid (MtI l w.heap.size w 0 (.slice none 0 0) (.slice none 0 0) w) := ⟨orow_nil _ _ _ _, orow_nil _ _ _ _, .inl rfl, Below.refl _ _⟩
  clear hl hN hok
  go_enter Tryz.func57, Tryz.ntmps57
  go_wp2_with fail
  go_loopw [3, 4, 5] (fun vo vp i wr => ∃ k : Nat, k ≤ N ∧ i = .int .i64 k ∧ Hid (MtI l w.heap.size w k vo vp wr)) (fun _ _ i _ => N - (intOf i).toNat)
  case atStart => exact ⟨0, Nat.zero_le _, rfl, HI0⟩
  case round =>
    clear HI0
    obtain ⟨k, hk, rfl, HI⟩ := hrel
    by_cases hlt : k < N
    · have hlt' : k < l.length := by rw [HQ.out.2.1]; exact hlt
      have HQr := HQ.out.1.below HI.out.bel
      obtain rfl := HQr.at_ (by omega)
      have c0 := HQr.c0 k hlt'
      have c1 := HQr.c1 k hlt'
      have c2 := HQr.c2 k hlt'
      have c3 := HQr.c3 k hlt'
      have c4 := HQr.c4 k hlt'
      have c5 := HQr.c5 k hlt'
      have c6 := HQr.c6 k hlt'
      have c7 := HQr.c7 k hlt'
      have c8 := HQr.c8 k hlt'
      have HK0 : Hid (∀ w', Below w.heap.size w w' → w'.cell? ⟨b, off + k * 9, none⟩ = some (.int .i64 (l.getD k opr0).kind)) := fun w' hb => (HQ.out.1.below hb).c0 k hlt'
      have HTk := hidD (fun w => r18Takes_any (l.getD k opr0) w)
      have HMt : Hid (mat l k = if takO (l.getD k opr0) = true then (fulF l k).2.getLastD 0 else -1) := rfl
      have HFu : Hid (fulF l (k + 1) = addS (l.getD k opr0) (fulF l k)) := rfl
      have HMi : Hid (takO (l.getD k opr0) = true → ∃ ms, (fulF l k).2 = ms ++ [mat l k] ∧ 0 ≤ mat l k ∧ mat l k < (k : Int)) := fun ht => mat_in HQ.out.2.2 hlt' ht
      have HMl : Hid ((fulF l k).2.length ≤ 8192) := by
        have h1 := (fulF_open HQ.out.2.2 k (by omega)).1
        have h2 := mk_range l k (fun i hi => HQ.out.2.2.ok i (by omega))
        show _ ≤ _
        omega
      have HLn := hidD (fulF_len l k)
      generalize l.getD k opr0 = o at *
      unfold opD at HTk
      clear HQr hlt'
      have i1 : (k : Int) < (N : Int) := by omega
      cases ht : takO o
      · rw [ht] at HTk
        have hm : mat l k = -1 := by rw [HMt.out, ht]; rfl
        by_cases h1 : o.kind = 1
        · have z1 : (o.kind == 1) = true := beq_iff_eq.2 h1
          have HE : Hid ((fulF l (k + 1)).2 = (fulF l k).2 ++ [(k : Int)]) := by
            show _ = _
            rw [HFu.out]; unfold addS
            rw [if_neg (by rw [ht]; decide), if_pos h1, HLn.out]
          obtain ⟨M, hM⟩ : ∃ M, (fulF l k).2.length = M := ⟨_, rfl⟩
          have HMl2 : M ≤ 8192 := by have := HMl.out; omega
          clear HMi HMl h1
          go_wp2_with fail
          refine (HTk.out _).mono ?_
          rintro e w1 ⟨rfl, hb1⟩
          have HI1 := hidD (HI.out.below hb1)
          have d0 := HK0.out w1 HI1.out.bel
          have HOp1 := HI1.out.opn
          rw [hM] at HOp1
          have HR0 := hidD (And.intro HI1.out.out (And.intro HOp1 (And.intro HI1.out.ap HI1.out.bel)))
          clear HOp1
          clear hb1 c0 c1 c2 c3 c4 c5 c6 c7 c8
          have HW3 := hidD (al_bel w1 (.cells #[.int .i64 (k : Int)] 3))
          have HO3 := hidD (orow_below HR0.out.1 HW3.out)
          have HP3 := hidD (orow_below HR0.out.2.1 HW3.out)
          have HB3 := hidD (HR0.out.2.2.2.trans (HW3.out.mono HR0.out.2.2.2.size))
          have HC3 : Hid (∀ j u, (rowV inC [(k : Int)])[j]? = some u → (w1.alloc (.cells #[.int .i64 (k : Int)] 3)).cell? ⟨w1.heap.size, j, none⟩ = some u) := fun j u hj => new_cells w1 (inC (k : Int)) 3 j u (by simpa [rowV] using hj)
          go_wp2_with (first | (at_builtin; refine wpList_append_h _ Tryz.underlying101 info_int rfl (by decide) rfl (.tmp 39) (.tmp 41) rfl w.heap.size u3 k (rowV inC ((List.range k).map (mat l))) rfl HO4.out HB4.out.size w2.heap.size 1 1 (rowV inC [-1]) rfl rfl HC4.out (rowV_one inC_one _) (by omega) (by omega) ?_; intro v5 w5 ho5 hg5 hn5; have HF5 := hidD (And.intro ho5 (And.intro (HP4.out.kept hg5 HR1.out.2.2.1.symm) (And.intro (AP.next HR1.out.2.2.1.symm HP4.out hn5) (HB4.out.trans (orow_grown HO4.out hg5 HB4.out.size))))); clear ho5 hg5 hn5) | (at_builtin; refine wpList_append_h _ Tryz.underlying101 info_int rfl (by decide) rfl (.tmp 35) (.tmp 37) rfl w.heap.size u4 M (rowV inC (fulF l k).2) rfl HP3.out HB3.out.size w1.heap.size 1 1 (rowV inC [(k : Int)]) rfl rfl HC3.out (rowV_one inC_one _) (by omega) (by omega) ?_; intro v2 w2 ho2 hg2 hn2; have HR1 := hidD (And.intro (HO3.out.kept hg2 HR0.out.2.2.1) (And.intro ho2 (And.intro (AP.next HR0.out.2.2.1 HO3.out hn2) (HB3.out.trans (orow_grown HP3.out hg2 HB3.out.size))))); clear ho2 hg2 hn2; have HW4 := hidD (al_bel w2 (.cells #[.int .i64 (-1)] 3)); have HO4 := hidD (orow_below HR1.out.1 HW4.out); have HP4 := hidD (orow_below HR1.out.2.1 HW4.out); have HB4 := hidD (HR1.out.2.2.2.trans (HW4.out.mono HR1.out.2.2.2.size)); have HC4 : Hid (∀ j u, (rowV inC [-1])[j]? = some u → (w2.alloc (.cells #[.int .i64 (-1)] 3)).cell? ⟨w2.heap.size, j, none⟩ = some u) := fun j u hj => new_cells w2 (inC (-1)) 3 j u (by simpa [rowV] using hj)))
          go_wp2_with fail
          go_roundw
          case rel =>
            refine ⟨k + 1, by omega, by go_num, ?_⟩
            show MtI _ _ _ _ _ _ _
            refine ⟨by rw [rng_more, hm]; exact HF5.out.1, ?_, HF5.out.2.2.1.symm, HF5.out.2.2.2⟩
            have := HF5.out.2.1
            rw [HE.out, rowV_append, List.length_append, hM]
            exact this
          case measure => simp [intOf]; omega
        · have z1 : (o.kind == 1) = false := beq_eq_false_iff_ne.2 h1
          have HE : Hid ((fulF l (k + 1)).2 = (fulF l k).2) := by
            show _ = _
            rw [HFu.out]; unfold addS
            rw [if_neg (by rw [ht]; decide), if_neg h1]
          clear HMi
          go_wp2_with fail
          refine (HTk.out _).mono ?_
          rintro e w1 ⟨rfl, hb1⟩
          have HI1 := hidD (HI.out.below hb1)
          have d0 := HK0.out w1 HI1.out.bel
          have HR1 : Hid (_ ∧ _ ∧ _ ∧ _) := And.intro HI1.out.out (And.intro HI1.out.opn (And.intro HI1.out.ap HI1.out.bel))
          clear hb1 c0 c1 c2 c3 c4 c5 c6 c7 c8
          have HW4 := hidD (al_bel w1 (.cells #[.int .i64 (-1)] 3))
          have HO4 := hidD (orow_below HR1.out.1 HW4.out)
          have HP4 := hidD (orow_below HR1.out.2.1 HW4.out)
          have HB4 := hidD (HR1.out.2.2.2.trans (HW4.out.mono HR1.out.2.2.2.size))
          have HC4 : Hid (∀ j u, (rowV inC [-1])[j]? = some u → (w1.alloc (.cells #[.int .i64 (-1)] 3)).cell? ⟨w1.heap.size, j, none⟩ = some u) := fun j u hj => new_cells w1 (inC (-1)) 3 j u (by simpa [rowV] using hj)
          go_wp2_with (at_builtin; refine wpList_append_h _ Tryz.underlying101 info_int rfl (by decide) rfl (.tmp 39) (.tmp 41) rfl w.heap.size u3 k (rowV inC ((List.range k).map (mat l))) rfl HO4.out HB4.out.size w1.heap.size 1 1 (rowV inC [-1]) rfl rfl HC4.out (rowV_one inC_one _) (by omega) (by omega) ?_; intro v5 w5 ho5 hg5 hn5; have HF5 := hidD (And.intro ho5 (And.intro (HP4.out.kept hg5 HR1.out.2.2.1.symm) (And.intro (AP.next HR1.out.2.2.1.symm HP4.out hn5) (HB4.out.trans (orow_grown HO4.out hg5 HB4.out.size))))); clear ho5 hg5 hn5)
          go_wp2_with fail
          go_roundw
          case rel =>
            refine ⟨k + 1, by omega, by go_num, ?_⟩
            show MtI _ _ _ _ _ _ _
            exact ⟨by rw [rng_more, hm]; exact HF5.out.1, by rw [HE.out]; exact HF5.out.2.1, HF5.out.2.2.1.symm, HF5.out.2.2.2⟩
          case measure => simp [intOf]; omega
      · rw [ht] at HTk
        have z1 : (o.kind == 1) = false := beq_eq_false_iff_ne.2 fun e => by rw [mark_not_takes e] at ht; cases ht
        obtain ⟨ms, hms, hm0, hm1⟩ := HMi.out ht
        obtain ⟨m, hm⟩ : ∃ m, mat l k = m := ⟨_, rfl⟩
        obtain ⟨M, hM⟩ : ∃ M, ms.length = M := ⟨_, rfl⟩
        have hL : (fulF l k).2.length = M + 1 := by rw [hms, List.length_append, hM]; rfl
        have HE : Hid ((fulF l (k + 1)).2 = ms) := by
          show _ = _
          rw [HFu.out]; unfold addS
          rw [if_pos ht, hms, List.dropLast_concat]
        have HMl2 : M ≤ 8192 := by have := HMl.out; omega
        have HOp := HI.out.opn
        rw [hL, hms, hm, rowV_append] at HOp
        obtain ⟨pp, cp, gp, hvp, hvc, hvx, hvn, _, hvb, hvcl, hvpre⟩ := orow_src HOp
        obtain rfl := hvn (by omega)
        subst hvp
        have HOH := hidD HOp
        have HPre := hidD (hvpre M (by omega))
        have HCl := hidD (hvcl M (by omega))
        have HMm := hidD (And.intro hm (And.intro hms (And.intro hM hL)))
        have hgp : gp < wr.heap.size := (hvb _ rfl).2.2
        have hcM : M ≤ cp := by omega
        clear HMi HOp hvb hvcl hvpre hvn hms hm0 hm1 hm hM hL HMl hvc hvx
        go_wp2_with fail
        refine (HTk.out _).mono ?_
        rintro e w1 ⟨rfl, hb1⟩
        have HI1 := hidD (HI.out.below hb1)
        have d0 := HK0.out w1 HI1.out.bel
        have q0 : w1.cell? ⟨gp, M, none⟩ = some (.int .i64 m) := by
          rw [World.cell?_of_block (w := wr) (a := ⟨gp, M, none⟩) (hb1.block _ hgp), HCl.out, List.getElem?_append_right (by rw [rowV_len inC_size, HMm.out.2.2.1]; omega), rowV_len inC_size, HMm.out.2.2.1]
          simp [rowV, inC]
        have HP1 : Hid (w1.ownsRow w.heap.size 3 1 (.slice (some ⟨gp, 0, none⟩) M cp) M (rowV inC ms)) := by
          have := orow_below HPre.out hb1
          rw [List.take_left' (by rw [rowV_len inC_size, HMm.out.2.2.1])] at this
          exact this
        have HR1 : Hid (_ ∧ _ ∧ _ ∧ _) := And.intro HI1.out.out (And.intro HP1.out (And.intro (show AP u3 (.slice (some ⟨gp, 0, none⟩) M cp) from HI1.out.ap) HI1.out.bel))
        clear hb1 c0 c1 c2 c3 c4 c5 c6 c7 c8
        have i2 : (0 : Int) ≤ (M : Int) := by omega
        have i3 : (M : Int) ≤ (cp : Int) := by omega
        have HW4 := hidD (al_bel w1 (.cells #[.int .i64 (m)] 3))
        have HO4 := hidD (orow_below HR1.out.1 HW4.out)
        have HP4 := hidD (orow_below HR1.out.2.1 HW4.out)
        have HB4 := hidD (HR1.out.2.2.2.trans (HW4.out.mono HR1.out.2.2.2.size))
        have HC4 : Hid (∀ j u, (rowV inC [m])[j]? = some u → (w1.alloc (.cells #[.int .i64 (m)] 3)).cell? ⟨w1.heap.size, j, none⟩ = some u) := fun j u hj => new_cells w1 (inC (m)) 3 j u (by simpa [rowV] using hj)
        go_wp2_with (at_builtin; refine wpList_append_h _ Tryz.underlying101 info_int rfl (by decide) rfl (.tmp 39) (.tmp 41) rfl w.heap.size u3 k (rowV inC ((List.range k).map (mat l))) rfl HO4.out HB4.out.size w1.heap.size 1 1 (rowV inC [m]) rfl rfl HC4.out (rowV_one inC_one _) (by omega) (by omega) ?_; intro v5 w5 ho5 hg5 hn5; have HF5 := hidD (And.intro ho5 (And.intro (HP4.out.kept hg5 HR1.out.2.2.1.symm) (And.intro (AP.next HR1.out.2.2.1.symm HP4.out hn5) (HB4.out.trans (orow_grown HO4.out hg5 HB4.out.size))))); clear ho5 hg5 hn5)
        go_wp2_with fail
        go_roundw
        case rel =>
          refine ⟨k + 1, by omega, by go_num, ?_⟩
          show MtI _ _ _ _ _ _ _
          exact ⟨by rw [rng_more, HMm.out.1]; exact HF5.out.1, by rw [HE.out, HMm.out.2.2.1]; exact HF5.out.2.1, HF5.out.2.2.1.symm, HF5.out.2.2.2⟩
        case measure => simp [intOf]; omega
    · obtain rfl : k = N := by omega
      obtain ⟨po, co, gq, hvo, _⟩ := orow_src HI.out.out
      subst hvo
      go_wp2_with fail
      go_ret
      exact ⟨⟨_, _, rfl, HI.out.out⟩, HI.out.bel⟩
end Go.Proofs.YtienedhaogjahaaGreatDoor
namespace Go.Proofs.YtienedhaogjahaaGreatDoor
open Go.RowKit

structure AtS (w : World) (g : Nat) (at_ : List Int) : Prop where
  lt : g < w.heap.size
  cell : ∀ j < at_.length, w.cell? ⟨g, j, none⟩ = some (.int .i64 (at_.getD j 0))
theorem AtS.below {w w' : World} {g : Nat} {at_ : List Int} (h : AtS w g at_) (hb : Below w.heap.size w w') : AtS w' g at_ := ⟨Nat.lt_of_lt_of_le h.lt hb.size, fun j hj => (World.cell?_of_block (w := w) (a := ⟨g, j, none⟩) (hb.block _ h.lt)).trans (h.cell j hj)⟩
set_option maxRecDepth 20000 in
set_option maxHeartbeats 12800000 in
theorem r18Without_any (l : List Opr) (N : Nat) (p : Option Addr) (b off c : Nat) (at_ : List Int) (g A ca : Nat) (w : World) (hl : DSrc w p b off l) (hN : l.length = N) (hA : AtS w g at_) (hAl : at_.length = A) (hA8 : A ≤ 8) (hc : N ≤ 8192) :
    Calls Tryz.prog 58 #[.slice p N c, .slice (some ⟨g, 0, none⟩) A ca] w fun e w' => (∃ q cp, e = .returned (.slice q (wiF l at_ N).length cp) ∧ w'.ownsRow w.heap.size 66 9 (.slice q (wiF l at_ N).length cp) (wiF l at_ N).length (rowV opD (wiF l at_ N))) ∧ Below w.heap.size w w' := by
  have HQ := hidD (And.intro hl (And.intro hN (And.intro hA hAl)))
  clear hl hN hA hAl
  go_enter Tryz.func58, Tryz.ntmps58
  go_wp2_with fail
  go_loopw [5, 6] (fun v i wr => ∃ k : Nat, k ≤ N ∧ i = .int .i64 k ∧ Hid (wr.ownsRow w.heap.size 66 9 v (wiF l at_ k).length (rowV opD (wiF l at_ k))) ∧ Hid (Below w.heap.size w wr)) (fun _ i _ => N - (intOf i).toNat)
  case atStart => exact ⟨0, Nat.zero_le _, rfl, orow_nil _ _ _ _, Below.refl _ _⟩
  case round =>
    obtain ⟨k, hk, rfl, HO, HB⟩ := hrel
    by_cases hlt : k < N
    · have hlt' : k < l.length := by rw [HQ.out.2.1]; exact hlt
      have i1 : (k : Int) < (N : Int) := by omega
      have HB0 : Hid (Below wr.heap.size wr wr) := Below.refl _ _
      have HH0 : Hid (∀ j, j < A → at_.take (j + 1) = at_.take j ++ [at_.getD j 0]) := fun j hj => take_more at_ 0 j (by rw [HQ.out.2.2.2]; exact hj)
      go_wp2_with fail
      go_loopw [7, 8] (fun is i wq => ∃ j : Nat, j ≤ A ∧ i = .int .i64 j ∧ is = .bool (hitB (at_.take j) k) ∧ Hid (Below wr.heap.size wr wq)) (fun _ i _ => A - (intOf i).toNat)
      case atStart => exact ⟨0, Nat.zero_le _, rfl, by simp [hitB], HB0⟩
      case round =>
        obtain ⟨j, hj, rfl, rfl, HBq⟩ := hrel
        by_cases hjl : j < A
        · have q0 := ((HQ.out.2.2.1.below HB.out).below HBq.out).cell j (by rw [HQ.out.2.2.2]; exact hjl)
          have i2 : (j : Int) < (A : Int) := by omega
          have i3 : (0 : Int) ≤ (j : Int) := by omega
          have HT : Hid (hitB (at_.take (j + 1)) k = (hitB (at_.take j) k || (at_.getD j 0 == (k : Int)))) := by
            show _ = _
            rw [HH0.out j hjl]; unfold hitB; rw [List.any_append]; simp
          obtain ⟨a, ha⟩ : ∃ a, at_.getD j 0 = a := ⟨_, rfl⟩
          rw [ha] at q0 HT
          clear ha
          generalize hitB (at_.take j) k = H at *
          cases H
          · cases hak : (a == (k : Int))
            all_goals
              rw [hak] at HT
              go_wp2_with fail
              go_roundw
              case rel => exact ⟨j + 1, by omega, by go_num, by rw [HT.out]; rfl, by first | exact HBq | exact below_drewNm HBq.out⟩
              case measure => simp [intOf]; omega
          · go_wp2_with fail
            go_roundw
            case rel => exact ⟨j + 1, by omega, by go_num, by rw [HT.out]; rfl, by first | exact HBq | exact below_drewNm HBq.out⟩
            case measure => simp [intOf]; omega
        · obtain rfl : j = A := by omega
          have hT : at_.take j = at_ := by rw [← HQ.out.2.2.2]; exact List.take_length
          rw [hT]
          clear hT
          have HBw := hidD (HB.out.trans (HBq.out.mono HB.out.size))
          have HOw := hidD (orow_below HO.out HBq.out)
          cases hh : hitB at_ k
          · have HQr := HQ.out.1.below HBw.out
            obtain rfl := HQr.at_ (by omega)
            have c0 := HQr.c0 k hlt'
            have c1 := HQr.c1 k hlt'
            have c2 := HQr.c2 k hlt'
            have c3 := HQr.c3 k hlt'
            have c4 := HQr.c4 k hlt'
            have c5 := HQr.c5 k hlt'
            have c6 := HQr.c6 k hlt'
            have c7 := HQr.c7 k hlt'
            have c8 := HQr.c8 k hlt'
            have HS : Hid (wiF l at_ (k + 1) = wiF l at_ k ++ [l.getD k opr0]) := by
              show (if hitB at_ k = true then _ else _) = _
              rw [hh]; rfl
            generalize l.getD k opr0 = o at *
            obtain ⟨M, hM⟩ : ∃ M, (wiF l at_ k).length = M := ⟨_, rfl⟩
            have hM2 : M ≤ k := by rw [← hM]; exact wiF_le l at_ k
            have HMM := hidD hM
            rw [hM] at HOw
            clear HQr hlt' hh hM HO
            have HW4 := hidD (al_bel wr (.cells #[.int .i64 o.kind, .int .u64 (o.x : Int), .int .u64 (o.y : Int), .int .i64 o.day, .int .i64 o.to, .int .i64 o.cur, .int .i64 o.count, .int .i64 o.n, .int .i64 o.months] 66))
            have HO4 := hidD (orow_below HOw.out HW4.out)
            have HB4 := hidD (HBw.out.trans (HW4.out.mono HBw.out.size))
            have HC4 : Hid (∀ j u, (rowV opD [o])[j]? = some u → (wr.alloc (.cells #[.int .i64 o.kind, .int .u64 (o.x : Int), .int .u64 (o.y : Int), .int .i64 o.day, .int .i64 o.to, .int .i64 o.cur, .int .i64 o.count, .int .i64 o.n, .int .i64 o.months] 66)).cell? ⟨wr.heap.size, j, none⟩ = some u) := fun j u hj => new_cells wr (opD o) 66 j u (by simpa [rowV] using hj)
            have g3 : (0 : Int) ≤ (k : Int) := by omega
            go_wp2_with (at_builtin; refine wpList_append_g _ Tryz.underlying28 info_opD rfl (by decide) rfl (.tmp 32) (.tmp 37) rfl w.heap.size u5 M (rowV opD (wiF l at_ k)) rfl HO4.out HB4.out.size wr.heap.size 1 1 (rowV opD [o]) rfl rfl HC4.out (rowV_one opD_one _) (by omega) (by omega) ?_; intro v5 w5 ho5 hg5; have HF5 := hidD (And.intro ho5 (HB4.out.trans (orow_grown HO4.out hg5 HB4.out.size))); clear ho5 hg5)
            go_wp2_with fail
            go_roundw
            case rel =>
              refine ⟨k + 1, by omega, by go_num, ?_, HF5.out.2⟩
              show World.ownsRow _ _ _ _ _ _ _
              rw [HS.out, rowV_append, List.length_append, HMM.out]
              exact HF5.out.1
            case measure => simp [intOf]; omega
          · have HS : Hid (wiF l at_ (k + 1) = wiF l at_ k) := wiF_gone hh
            clear hh
            go_wp2_with fail
            go_roundw
            case rel =>
              refine ⟨k + 1, by omega, by go_num, ?_, HBw⟩
              show World.ownsRow _ _ _ _ _ _ _
              rw [HS.out]
              exact HOw.out
            case measure => simp [intOf]; omega
    · obtain rfl : k = N := by omega
      obtain ⟨po, co, gq, hvo, _⟩ := orow_src HO.out
      subst hvo
      go_wp2_with fail
      go_ret
      exact ⟨⟨_, _, rfl, HO.out⟩, HB.out⟩
end Go.Proofs.YtienedhaogjahaaGreatDoor
namespace Go.Proofs.YtienedhaogjahaaGreatDoor
open Go.RowKit

def OncR (l l' : List Opr) (ok : Bool) : Prop := (ok = true ∧ ∃ i, i < l.length ∧ (∀ j < i, firB l j = false) ∧ firB l i = true ∧ l' = wiF l (gonF l i) l.length) ∨ (ok = false ∧ l' = l ∧ ∀ i < l.length, firB l i = false)
set_option maxRecDepth 20000 in
set_option maxHeartbeats 12800000 in
theorem r18Once_any (l : List Opr) (N : Nat) (p : Option Addr) (b off c : Nat) (w : World) (hl : DSrc w p b off l) (hN : l.length = N) (hok : OkL l) :
    Calls Tryz.prog 34 #[.slice p N c] w fun e w' => (∃ q cp g off' l' ok, e = .returned (.tuple #[.slice q l'.length cp, .bool ok]) ∧ DSrc w' q g off' l' ∧ OncR l l' ok) ∧ Below w.heap.size w w' := by
  have HQ := hidD (And.intro hl (And.intro hN hok))
  have HM := hidD (r18Mates_any l N p b off c w hl hN hok)
  have hc2 : N ≤ 8192 := by have := hok.len; omega
  clear hl hN hok
  go_enter Tryz.func34, Tryz.ntmps34
  go_wp2_with fail
  refine HM.out.mono ?_
  rintro e w1 ⟨⟨qm, cm, rfl, hm⟩, hb1⟩
  have H1 := hidD (And.intro hm hb1)
  clear hm hb1 HM
  go_wp2_with fail
  go_loopw [5] (fun i wr => ∃ k : Nat, k ≤ N ∧ i = .int .i64 k ∧ Hid (∀ j < k, firB l j = false) ∧ Hid (Below w1.heap.size w1 wr)) (fun i _ => N - (intOf i).toNat)
  case atStart => exact ⟨0, Nat.zero_le _, rfl, (fun j hj => by omega), Below.refl _ _⟩
  case round =>
    obtain ⟨k, hk, rfl, HN, HB⟩ := hrel
    by_cases hlt : k < N
    · have hlt' : k < l.length := by rw [HQ.out.2.1]; exact hlt
      have HBw := hidD (H1.out.2.trans (HB.out.mono H1.out.2.size))
      have HQr := HQ.out.1.below HBw.out
      obtain rfl := HQr.at_ (by omega)
      obtain ⟨pm, cm', gm, hvm, _, _, hmn, _, hmb, hmcl, _⟩ := orow_src H1.out.1
      injection hvm with hvm1 hvm2 hvm3
      subst hvm1 hvm3
      obtain rfl := hmn (by omega)
      have hgm : gm < w1.heap.size := (hmb _ rfl).2.2
      have hcell : ∀ j < N, wr.cell? ⟨gm, j, none⟩ = some (.int .i64 (mat l j)) := fun j hj => by
        rw [World.cell?_of_block (w := w1) (a := ⟨gm, j, none⟩) (HB.out.block _ hgm), hmcl j (by omega)]
        have := rowV_get inC_size 0 ((List.range N).map (mat l)) j 0 (by simpa using hj) (by decide)
        rw [Nat.mul_one, Nat.add_zero] at this
        rw [this]
        simp [List.getD, hj, inC]
      have q0 := hcell k hlt
      have c0 := HQr.c0 k hlt'
      have c1 := HQr.c1 k hlt'
      have c7 := HQr.c7 k hlt'
      have HOne : Hid (oneB l k = (mat l k == (k : Int) - 1 || (l.getD k opr0).kind == 5 && ((l.getD k opr0).x : Int) == 4607182418800017408 || (l.getD k opr0).kind == 7 && (l.getD k opr0).n == 1)) := rfl
      have HTwo : Hid (twoB l k = ((l.getD k opr0).kind == 4 && (l.getD (k - 1) opr0).kind == 4 && mat l (k - 1) == mat l k + 1)) := rfl
      have HFir : Hid (firB l k = (takO (l.getD k opr0) && (oneB l k || twoB l k))) := rfl
      have HPv : Hid (0 < k → wr.cell? ⟨gm, k - 1, none⟩ = some (.int .i64 (mat l (k - 1))) ∧ wr.cell? ⟨b, off + (k - 1) * 9, none⟩ = some (.int .i64 (l.getD (k - 1) opr0).kind)) := fun h => ⟨hcell (k - 1) (by omega), HQr.c0 (k - 1) (by omega)⟩
      have HMi : Hid (takO (l.getD k opr0) = true → 0 ≤ mat l k ∧ mat l k < (k : Int)) := fun ht => by
        obtain ⟨_, _, a, b⟩ := mat_in HQ.out.2.2 hlt' ht
        exact ⟨a, b⟩
      have HMn : Hid (takO (l.getD k opr0) = false → mat l k = -1) := fun ht => by unfold mat; rw [ht]; rfl
      have HNx : Hid (firB l k = false → ∀ j < k + 1, firB l j = false) := fun h j hj => by
        by_cases e : j = k
        · rw [e]; exact h
        · exact HN.out j (by omega)
      have HWo : Hid (∀ at_ A, at_.length = A → A ≤ 8 → ∀ wq, Below w.heap.size w wq → ∀ g, AtS wq g at_ → Calls Tryz.prog 58 #[.slice (some ⟨b, off, none⟩) N c, .slice (some ⟨g, 0, none⟩) A A] wq fun e w' => (∃ q cp g', e = .returned (.slice q (wiF l at_ N).length cp) ∧ DSrc w' q g' 0 (wiF l at_ N)) ∧ Below w.heap.size w w') := fun at_ A hA h8 wq hb g hs => by
        refine (r18Without_any l N (some ⟨b, off, none⟩) b off c at_ g A A wq (HQ.out.1.below hb) HQ.out.2.1 hs hA h8 hc2).mono ?_
        rintro e w' ⟨⟨q, cp, he, ho⟩, hb'⟩
        obtain ⟨g', hd⟩ := dsrc_of ho rfl
        exact ⟨⟨q, cp, g', he, hd⟩, hb.trans (hb'.mono hb.size)⟩
      obtain ⟨m, hm⟩ : ∃ m, mat l k = m := ⟨_, rfl⟩
      have HMm := hidD hm
      rw [hm] at q0 HOne HTwo HMi HMn
      obtain ⟨o, ho⟩ : ∃ o, l.getD k opr0 = o := ⟨_, rfl⟩
      rw [ho] at c0 c1 c7 HOne HTwo HFir HMi HMn
      clear HQr hcell hmb hmcl hmn hm ho
      have i1 : (k : Int) < (N : Int) := by omega
      have i0 : (0 : Int) ≤ (k : Int) := by omega
      cases ht : takO o
      · have hm1 := HMn.out ht
        subst hm1
        have hF : firB l k = false := by rw [HFir.out, ht]; rfl
        have HN2 := hidD (HNx.out hF)
        clear HMi HMn HPv HWo HOne HTwo HFir HNx HMm c0 c1 c7
        go_wp2_with fail
        go_roundw
        case rel => exact ⟨k + 1, by omega, by go_num, HN2, HB⟩
        case measure => simp [intOf]; omega
      · obtain ⟨m0, m1⟩ := HMi.out ht
        have mneg : ¬ m < 0 := by omega
        have mw : IntKind.i64.wrap ((k : Int) - 1) = (k : Int) - 1 := by rw [IntKind.wrap_i64]; omega
        clear HMi HMn
        by_cases hx : (m == (k : Int) - 1 || o.kind == 5 && (o.x : Int) == 4607182418800017408 || o.kind == 7 && o.n == 1) = true
        · have hO : oneB l k = true := by rw [HOne.out]; exact hx
          have hF : firB l k = true := by rw [HFir.out, ht, hO]; rfl
          have hG : gonF l k = [m, (k : Int)] := by unfold gonF; rw [if_pos hO, HMm.out]
          have HR : Hid (∀ l', l' = wiF l [m, (k : Int)] N → OncR l l' true) := fun l' e => Or.inl ⟨rfl, k, hlt', HN.out, hF, by rw [hG, HQ.out.2.1]; exact e⟩
          have HAl := hidD (al_bel wr (.cells #[.int .i64 m, .int .i64 (k : Int)] 3))
          have HBa := hidD (HBw.out.trans (HAl.out.mono HBw.out.size))
          have HAt : Hid (AtS (wr.alloc (.cells #[.int .i64 m, .int .i64 (k : Int)] 3)) wr.heap.size [m, (k : Int)]) := ⟨by simp, fun j hj => by
            have hj2 : j < 2 := hj
            have := new_cells wr #[.int .i64 m, .int .i64 (k : Int)] 3 j
            rcases (show j = 0 ∨ j = 1 by omega) with rfl | rfl
            · exact this _ rfl
            · exact this _ rfl⟩
          have HW2 := hidD (HWo.out [m, (k : Int)] 2 rfl (by decide) _ HBa.out _ HAt.out)
          clear hO hF hG HWo HPv HTwo HFir HNx HOne HAl HBa HAt
          cases q1 : (m == (k : Int) - 1)
          · cases q2 : (o.kind == 5)
            · cases q4 : (o.kind == 7)
              · rw [q1, q2, q4] at hx; simp at hx
              · cases q5 : (o.n == 1)
                · rw [q1, q2, q4, q5] at hx; simp at hx
                · clear hx
                  go_wp2_with fail
                  refine HW2.out.mono ?_
                  rintro e w9 ⟨⟨q, cp, g', rfl, hd⟩, hb9⟩
                  have HD9 := hidD (And.intro hd hb9)
                  clear hd hb9
                  go_wp2_with fail
                  go_ret2
                  exact ⟨⟨q, cp, g', 0, _, true, rfl, HD9.out.1, HR.out _ rfl⟩, HD9.out.2⟩
            · cases q3 : ((o.x : Int) == 4607182418800017408)
              · cases q4 : (o.kind == 7)
                · rw [q1, q2, q3, q4] at hx; simp at hx
                · rw [beq_iff_eq] at q2 q4; omega
              · clear hx
                go_wp2_with fail
                refine HW2.out.mono ?_
                rintro e w9 ⟨⟨q, cp, g', rfl, hd⟩, hb9⟩
                have HD9 := hidD (And.intro hd hb9)
                clear hd hb9
                go_wp2_with fail
                go_ret2
                exact ⟨⟨q, cp, g', 0, _, true, rfl, HD9.out.1, HR.out _ rfl⟩, HD9.out.2⟩
          · clear hx
            go_wp2_with fail
            refine HW2.out.mono ?_
            rintro e w9 ⟨⟨q, cp, g', rfl, hd⟩, hb9⟩
            have HD9 := hidD (And.intro hd hb9)
            clear hd hb9
            go_wp2_with fail
            go_ret2
            exact ⟨⟨q, cp, g', 0, _, true, rfl, HD9.out.1, HR.out _ rfl⟩, HD9.out.2⟩
        · have hx' : (m == (k : Int) - 1 || o.kind == 5 && (o.x : Int) == 4607182418800017408 || o.kind == 7 && o.n == 1) = false := by simpa using hx
          have hO : oneB l k = false := by rw [HOne.out]; exact hx'
          have q1 : (m == (k : Int) - 1) = false := by
            cases e : (m == (k : Int) - 1)
            · rfl
            · rw [e] at hx'; simp at hx'
          cases q2 : (o.kind == 5)
          · cases q4 : (o.kind == 7)
            · cases q6 : (o.kind == 4)
              · have hF : firB l k = false := by rw [HFir.out, hO, HTwo.out, q6]; simp
                clear hx hx' hO
                have HN2 := hidD (HNx.out hF)
                clear hF HNx HFir HOne HTwo HMm HWo HPv
                go_wp2_with fail
                go_quiet (fail)
                go_wp2_with fail
                go_roundw
                case rel => exact ⟨k + 1, by omega, by go_num, HN2, by first | exact HB | exact below_drewNm HB.out⟩
                case measure => simp [intOf]; omega
              · have hk0 : 0 < k := by omega
                obtain ⟨pv0, pv1⟩ := HPv.out hk0
                obtain ⟨k, rfl⟩ : ∃ k', k = k' + 1 := ⟨k - 1, by omega⟩
                rw [Nat.add_sub_cancel] at pv0 pv1 HTwo
                obtain ⟨m', hm'⟩ : ∃ m', mat l k = m' := ⟨_, rfl⟩
                obtain ⟨o', ho'⟩ : ∃ o', l.getD k opr0 = o' := ⟨_, rfl⟩
                rw [hm'] at pv0 HTwo
                rw [ho'] at pv1 HTwo
                have q1' : (m == (k : Int)) = false := by
                  rw [show ((k + 1 : Nat) : Int) - 1 = (k : Int) by omega] at q1
                  exact q1
                have mw2 : IntKind.i64.wrap (m + 1) = m + 1 := by rw [IntKind.wrap_i64]; omega
                have i2 : (k : Int) < (N : Int) := by omega
                have i4 : (0 : Int) ≤ (k : Int) := by omega
                cases q7 : (o'.kind == 4)
                · have hF : firB l (k + 1) = false := by rw [HFir.out, hO, HTwo.out, q7]; simp
                  clear hx hx' hO
                  have HN2 := hidD (HNx.out hF)
                  clear hF HNx HFir HOne HTwo HMm HWo HPv
                  go_wp2_with fail
                  go_quiet (fail)
                  go_wp2_with fail
                  go_roundw
                  case rel => exact ⟨k + 1 + 1, by omega, by go_num, HN2, by first | exact HB | exact below_drewNm HB.out⟩
                  case measure => simp [intOf]; omega
                · cases q8 : (m' == m + 1)
                  · have hF : firB l (k + 1) = false := by rw [HFir.out, hO, HTwo.out, q8]; simp
                    clear hx hx' hO
                    have HN2 := hidD (HNx.out hF)
                    clear hF HNx HFir HOne HTwo HMm HWo HPv
                    go_wp2_with fail
                    go_quiet (fail)
                    go_wp2_with fail
                    go_roundw
                    case rel => exact ⟨k + 1 + 1, by omega, by go_num, HN2, by first | exact HB | exact below_drewNm HB.out⟩
                    case measure => simp [intOf]; omega
                  · have hF : firB l (k + 1) = true := by rw [HFir.out, ht, hO, HTwo.out, q6, q7, q8]; rfl
                    have hG : gonF l (k + 1) = [m, m + 1, (k : Int), (k : Int) + 1] := by
                      unfold gonF
                      rw [if_neg (by rw [hO]; decide), HMm.out, show ((k + 1 : Nat) : Int) = (k : Int) + 1 from rfl, show (k : Int) + 1 - 1 = (k : Int) by omega]
                    have HR : Hid (∀ l', l' = wiF l [m, m + 1, (k : Int), (k : Int) + 1] N → OncR l l' true) := fun l' e => Or.inl ⟨rfl, k + 1, hlt', HN.out, hF, by rw [hG, HQ.out.2.1]; exact e⟩
                    have HAA : Hid (∀ wa, Below w.heap.size w wa → Below (wa.alloc (.cells #[.int .i64 m, .int .i64 (m + 1), .int .i64 (k : Int), .int .i64 ((k : Int) + 1)] 3)).heap.size (wa.alloc (.cells #[.int .i64 m, .int .i64 (m + 1), .int .i64 (k : Int), .int .i64 ((k : Int) + 1)] 3)) (wa.alloc (.cells #[.int .i64 m, .int .i64 (m + 1), .int .i64 (k : Int), .int .i64 ((k : Int) + 1)] 3)) ∧ Calls Tryz.prog 58 #[.slice (some ⟨b, off, none⟩) N c, .slice (some ⟨wa.heap.size, 0, none⟩) 4 4] (wa.alloc (.cells #[.int .i64 m, .int .i64 (m + 1), .int .i64 (k : Int), .int .i64 ((k : Int) + 1)] 3)) fun e w' => (∃ q cp g', e = .returned (.slice q (wiF l [m, m + 1, (k : Int), (k : Int) + 1] N).length cp) ∧ DSrc w' q g' 0 (wiF l [m, m + 1, (k : Int), (k : Int) + 1] N)) ∧ Below w.heap.size w w') := fun wa hba => by
                      refine ⟨Below.refl _ _, HWo.out [m, m + 1, (k : Int), (k : Int) + 1] 4 rfl (by decide) _ (hba.trans ((al_bel wa _).mono hba.size)) _ ⟨by simp, fun j hj => ?_⟩⟩
                      have hj2 : j < 4 := hj
                      have := new_cells wa #[.int .i64 m, .int .i64 (m + 1), .int .i64 (k : Int), .int .i64 ((k : Int) + 1)] 3 j
                      rcases (show j = 0 ∨ j = 1 ∨ j = 2 ∨ j = 3 by omega) with rfl | rfl | rfl | rfl
                      · exact this _ rfl
                      · exact this _ rfl
                      · exact this _ rfl
                      · exact this _ rfl
                    clear hx hx' hO hF hG HWo HPv HTwo HFir HNx HOne
                    go_wp2_with fail
                    go_quiet (fail)
                    go_wp2_with fail
                    go_region_with ((go_at_call 58; refine ((HAA.out _ (by first | exact HBw.out | exact below_drewNm HBw.out | exact below_drewNm (below_drewNm HBw.out) | exact (below_drewNm HBw.out).drew)).2).mono ?_; rintro e w9 ⟨⟨q, cp, g', rfl, hd⟩, hb9⟩; have HD9 := hidD (And.intro hd hb9); clear hd hb9))
                    all_goals
                      go_wp2_with fail
                      go_ret2
                      exact ⟨⟨q, cp, g', 0, _, true, rfl, HD9.out.1, HR.out _ rfl⟩, HD9.out.2⟩
            · have q5 : (o.n == 1) = false := by
                cases e : (o.n == 1)
                · rfl
                · rw [e, q4] at hx'; simp at hx'
              have q6 : (o.kind == 4) = false := by rw [beq_eq_false_iff_ne]; rw [beq_iff_eq] at q4; omega
              have hF : firB l k = false := by rw [HFir.out, hO, HTwo.out, q6]; simp
              clear hx hx' hO
              have HN2 := hidD (HNx.out hF)
              clear hF HNx HFir HOne HTwo HMm HWo HPv
              go_wp2_with fail
              go_quiet (fail)
              go_wp2_with fail
              go_roundw
              case rel => exact ⟨k + 1, by omega, by go_num, HN2, by first | exact HB | exact below_drewNm HB.out⟩
              case measure => simp [intOf]; omega
          · have q3 : ((o.x : Int) == 4607182418800017408) = false := by
              cases e : ((o.x : Int) == 4607182418800017408)
              · rfl
              · rw [e, q2] at hx'; simp at hx'
            have q4 : (o.kind == 7) = false := by rw [beq_eq_false_iff_ne]; rw [beq_iff_eq] at q2; omega
            have q6 : (o.kind == 4) = false := by rw [beq_eq_false_iff_ne]; rw [beq_iff_eq] at q2; omega
            have hF : firB l k = false := by rw [HFir.out, hO, HTwo.out, q6]; simp
            clear hx hx' hO
            have HN2 := hidD (HNx.out hF)
            clear hF HNx HFir HOne HTwo HMm HWo HPv
            go_wp2_with fail
            go_quiet (fail)
            go_wp2_with fail
            go_roundw
            case rel => exact ⟨k + 1, by omega, by go_num, HN2, by first | exact HB | exact below_drewNm HB.out⟩
            case measure => simp [intOf]; omega
    · obtain rfl : k = N := by omega
      go_wp2_with fail
      go_ret2
      have hb := H1.out.2.trans (HB.out.mono H1.out.2.size)
      refine ⟨⟨p, c, b, off, l, false, by rw [HQ.out.2.1]; rfl, HQ.out.1.below hb, Or.inr ⟨rfl, rfl, fun i hi => HN.out i (by rw [HQ.out.2.1] at hi; exact hi)⟩⟩, hb⟩
end Go.Proofs.YtienedhaogjahaaGreatDoor
namespace Go.Proofs.YtienedhaogjahaaGreatDoor
open Go.RowKit

def lenV : Value → Nat
  | .slice _ n _ => n
  | _ => 0
set_option maxRecDepth 20000 in
set_option maxHeartbeats 12800000 in
theorem r18Trim_bad {l : List Opr} {M E A : Int} (hm : MeaR l M E A) (hE : E ≠ 0) (N : Nat) (p : Option Addr) (b off c : Nat) (w : World) (hl : DSrc w p b off l) (hN : l.length = N) (hu : ∀ i < N, OpU (l.getD i opr0)) (hc : N ≤ 9223372036854775807) :
    Calls Tryz.prog 18 #[.slice p N c] w fun e w' => e = .returned (.tuple #[.slice none 0 0, .int .i64 E]) ∧ Below w.heap.size w w' := by
  have HC := hidD (r18Check_any l N p b off c w hl hN hu hc)
  have t1 : (E != 0) = true := bne_iff_ne.2 hE
  have HU : Hid (∀ M' E' A', MeaR l M' E' A' → E' = E) := fun _ _ _ h => (h.unique hm).2.1
  clear hm hE hl hN hu
  go_enter Tryz.func18, Tryz.ntmps18
  go_wp2_with fail
  refine HC.out.mono ?_
  rintro e w1 ⟨M', E', A', rfl, hm', hb⟩
  obtain rfl := HU.out _ _ _ hm'
  have H1 := hidD hb
  clear hb hm' HU
  go_wp2_with fail
  go_ret2
  exact ⟨rfl, H1.out⟩
set_option maxRecDepth 20000 in
set_option maxHeartbeats 12800000 in
theorem r18Trim_ok {l : List Opr} {M : Int} (hm : MeaR l M 0 0) (N : Nat) (p : Option Addr) (b off c : Nat) (w : World) (hl : DSrc w p b off l) (hN : l.length = N) (hu : ∀ i < N, OpU (l.getD i opr0)) :
    Calls Tryz.prog 18 #[.slice p N c] w fun e w' => (∃ q cp g off', e = .returned (.tuple #[.slice q (kpL l).length cp, .int .i64 0]) ∧ DSrc w' q g off' (kpL l)) ∧ Below w.heap.size w w' := by
  obtain ⟨hlen, hp⟩ := mea_fine hm rfl
  have HC := hidD (r18Check_any l N p b off c w hl hN hu (by omega))
  have HU : Hid (∀ M' E' A', MeaR l M' E' A' → E' = 0) := fun _ _ _ h => (h.unique hm).2.1
  have HI0 : Hid (OkL l ∧ (∀ i < l.length, OpU (l.getD i opr0)) ∧ DSrc w p b off l ∧ l.length = N) := ⟨⟨hlen, hp⟩, fun i hi => hu i (by omega), hl, hN⟩
  clear hm hl hN hu hlen hp
  go_enter Tryz.func18, Tryz.ntmps18
  go_wp2_with fail
  refine HC.out.mono ?_
  rintro e w1 ⟨M', E', A', rfl, hm', hb⟩
  obtain rfl := HU.out _ _ _ hm'
  have H1 := hidD hb
  clear hb hm' HU
  go_wp2_with fail
  go_loopw [0] (fun v wr => ∃ (n cq : Nat) (q : Option Addr), v = .slice q n cq ∧ Hid (∃ l' g off', OkL l' ∧ (∀ i < l'.length, OpU (l'.getD i opr0)) ∧ DSrc wr q g off' l' ∧ l'.length = n ∧ kpL l' = kpL l) ∧ Hid (Below w.heap.size w wr)) (fun v _ => lenV v)
  case atStart => exact ⟨N, c, p, rfl, ⟨l, b, off, HI0.out.1, HI0.out.2.1, HI0.out.2.2.1.below H1.out, HI0.out.2.2.2, rfl⟩, H1⟩
  case round =>
    obtain ⟨n, cq, q, rfl, HI, HB⟩ := hrel
    obtain ⟨l', g, off', h1, h2, h3, h4, h5⟩ := HI.out
    have HO := hidD (r18Once_any l' n q g off' cq wr h3 h4 h1)
    have HS : Hid (∀ l2 ok, OncR l' l2 ok → (ok = true ∧ OkL l2 ∧ (∀ i < l2.length, OpU (l2.getD i opr0)) ∧ l2.length < n ∧ kpL l2 = kpL l) ∨ (ok = false ∧ l2 = l' ∧ l' = kpL l)) := fun l2 ok hr => by
      rcases hr with ⟨rfl, i, hi, hb, hf, rfl⟩ | ⟨rfl, rfl, hn⟩
      · obtain ⟨k1, k2, k3, k4⟩ := once_same h1 h2 hi hb hf
        exact .inl ⟨rfl, k2, k4, by rw [← h4]; exact k3, k1.trans h5⟩
      · exact .inr ⟨rfl, rfl, by rw [← h5]; exact (kpL_all h1 h2 hn).symm⟩
    have HL := hidD (And.intro h3 h4)
    clear HI h1 h2 h3 h4 h5
    go_wp2_with fail
    refine HO.out.mono ?_
    rintro e w2 ⟨⟨q2, c2, g2, o2, l2, ok, rfl, hd, hr⟩, hb2⟩
    rcases HS.out l2 ok hr with ⟨rfl, k1, k2, k3, k4⟩ | ⟨rfl, rfl, k1⟩
    · have H2 := hidD (And.intro k1 (And.intro k2 (And.intro hd (And.intro k4 (HB.out.trans (hb2.mono HB.out.size))))))
      clear k1 k2 hd k4 hb2 hr HS HO
      obtain ⟨n2, hn2⟩ : ∃ n2, l2.length = n2 := ⟨_, rfl⟩
      have HN2 := hidD hn2
      rw [hn2] at k3 ⊢
      clear hn2
      go_wp2_with fail
      go_roundw
      case rel => exact ⟨n2, c2, q2, rfl, ⟨l2, g2, o2, H2.out.1, H2.out.2.1, H2.out.2.2.1, HN2.out, H2.out.2.2.2.1⟩, H2.out.2.2.2.2⟩
      case measure => exact k3
    · have H2 := hidD (And.intro (HL.out.1.below hb2) (And.intro k1 (HB.out.trans (hb2.mono HB.out.size))))
      clear hd hb2 hr HS HO k1
      obtain ⟨n2, hn2⟩ : ∃ n2, l2.length = n2 := ⟨_, rfl⟩
      have HN2 := hidD hn2
      rw [hn2]
      clear hn2
      go_wp2_with fail
      go_ret2
      refine ⟨⟨q, cq, g, off', ?_, by rw [← H2.out.2.1]; exact H2.out.1⟩, H2.out.2.2⟩
      rw [← H2.out.2.1, HL.out.2]
      rfl
end Go.Proofs.YtienedhaogjahaaGreatDoor
namespace Go.Proofs.YtienedhaogjahaaGreatDoor
open Go.RowKit

def zrT : Trm := ⟨1, 0, 0, 0, 0, 0, 0, 0, 0, 0, 0⟩
def boT (a b : Int) : Trm := ⟨5, a, b, 0, 0, 0, 0, 0, 0, 0, 0⟩
theorem int_last {w : World} {B : Nat} {v : Value} {ms : List Int} {x : Int} (h : w.ownsRow B 3 1 v (ms ++ [x]).length (rowV inC (ms ++ [x]))) : ∃ g c, v = .slice (some ⟨g, 0, none⟩) (ms.length + 1) c ∧ ms.length + 1 ≤ c ∧ g < w.heap.size ∧ w.cell? ⟨g, ms.length, none⟩ = some (.int .i64 x) ∧ w.frozen? ⟨g, ms.length, none⟩ = false ∧ w.ownsRow B 3 1 (.slice (some ⟨g, 0, none⟩) ms.length c) ms.length (rowV inC ms) ∧ ∀ p, (w.setCell ⟨g, ms.length, none⟩ (.int .i64 p)).ownsRow B 3 1 (.slice (some ⟨g, 0, none⟩) (ms.length + 1) c) (ms ++ [p]).length (rowV inC (ms ++ [p])) ∧ w.grownBy (w.setCell ⟨g, ms.length, none⟩ (.int .i64 p)) (some g) := by
  obtain ⟨p, c, g, hv, hc, _, hp, _, hb, hcl, htk⟩ := orow_src h
  have hl : (ms ++ [x]).length = ms.length + 1 := by simp
  rw [hl] at hv hc hp hcl htk h
  have e := hp (by omega)
  subst e
  subst hv
  refine ⟨g, c, rfl, hc, (hb _ rfl).2.2, ?_, h.frozenAt _, ?_, fun p => ?_⟩
  · rw [hcl _ (by omega)]
    have := rowV_get inC_size 0 (ms ++ [x]) ms.length 0 (by simp) (by decide)
    rw [Nat.mul_one, Nat.add_zero] at this
    rw [this]; simp [List.getD, inC]
  · have := htk ms.length (by omega)
    rw [← rowV_take inC_size, List.take_left] at this
    exact this
  · have := h.stored ms.length (.int .i64 p)
    have e : (rowV inC (ms ++ [x])).set ms.length (.int .i64 p) = rowV inC (ms ++ [p]) := by
      have hq : (rowV inC ms).length = ms.length := by rw [rowV_len inC_size, Nat.mul_one]
      rw [rowV_append, rowV_append, List.set_append_right _ _ (by rw [hq]; exact Nat.le_refl _), hq, Nat.sub_self]
      rfl
    rw [e] at this
    rw [show (ms ++ [p]).length = ms.length + 1 by simp]
    exact this
def whI (x : Int) (ts : List Trm) : Int := if x = -1 then (ts.length : Int) else x
def whT (x : Int) (ts : List Trm) : List Trm := if x = -1 then ts ++ [zrT] else ts
set_option maxRecDepth 20000 in
set_option maxHeartbeats 12800000 in
theorem blWhole_any (B b : Nat) (tv pv : Value) (ts : List Trm) (ms : List Int) (x : Int) (w : World) (h : BlM B b tv pv ts (ms ++ [x]) w) (hb : B ≤ b) (hn : ts.length ≤ 100000) (hm : ms.length ≤ 100000) :
    Calls Tryz.prog 49 #[.pointer (some ⟨b, 0, none⟩)] w fun e w' => e = .returned (.int .i64 (whI x ts)) ∧ (∃ v v', BlM B b v v' (whT x ts) ms w' ∧ KpB b tv.ownBlock v w w') ∧ Below B w w' := by
  have hbw := lt_of_blk h.box
  have HBw : Hid (B ≤ w.heap.size) := by show _ ≤ _; omega
  obtain ⟨g, c, rfl, hc, hg, c0, _, hpre, _⟩ := int_last h.pieces
  obtain ⟨pt, ct, gt, htv, _⟩ := orow_src h.terms
  subst htv
  have HP := hidD hpre
  have H := hidD h
  have HBb := hidD hb
  have HAd : Hid (∀ (wx : World) (pv' : Value), BlM B b (.slice pt ts.length ct) pv' ts ms wx → Calls Tryz.prog 51 #[.pointer (some ⟨b, 0, none⟩), .agg (trC zrT)] wx fun e w' => e = .returned (.int .i64 (ts.length : Int)) ∧ (∃ v, BlM B b v pv' (ts ++ [zrT]) ms w' ∧ KpB b (Value.slice pt ts.length ct).ownBlock v wx w') ∧ Below B wx w') := fun wx pv' t => blAdd_any B b _ pv' ts ms zrT wx t hb hn
  obtain ⟨N, hN⟩ : ∃ N, ms.length = N := ⟨_, rfl⟩
  have HN := hidD hN
  rw [hN] at hc c0 HP H hm
  obtain ⟨L, hL⟩ : ∃ L, ts.length = L := ⟨_, rfl⟩
  have HLn := hidD hL
  rw [hL] at H HAd
  obtain ⟨I, hI⟩ : ∃ I, whI x ts = I := ⟨_, rfl⟩
  have HI := hidD hI
  rw [hI]
  unfold trC zrT at HAd
  dsimp only at HAd
  have i0 : (((N + 1 : Nat) : Int) - 1) = (N : Int) := by omega
  have i1 : (0 : Int) ≤ (N : Int) := by omega
  have i2 : (N : Int) < ((N + 1 : Nat) : Int) := by omega
  have i3 : (N : Int) ≤ (c : Int) := by omega
  have i7 : ¬ (c : Int) < (N : Int) := by omega
  have i8 : N ≤ c := by omega
  have iw : IntKind.i64.wrap (N : Int) = (N : Int) := by rw [IntKind.wrap_i64]; omega
  have i9 : N ≤ N + 1 := by omega
  obtain ⟨r0, r1, rf⟩ := h.cells
  have y1 := rf 1
  rw [hN] at r1
  clear h hb hn hpre hg hN hL hI rf hbw hc r0
  go_enter Tryz.func49, Tryz.ntmps49
  go_wp2_with fail
  go_quiet (fail)
  go_wp2_with fail
  obtain ⟨w2, hw2⟩ : ∃ wq, World.drewN w nq = wq := ⟨_, rfl⟩
  have HK2 : Hid (Below w.heap.size w w2) := by show Below _ _ _; rw [← hw2]; exact ⟨rfl, rfl, rfl, Nat.le_refl _, fun _ _ => rfl⟩
  rw [hw2]
  clear hw2 r1 y1 c0
  have H2 := hidD (H.out.below HK2.out)
  have HP2 := hidD (orow_below HP.out HK2.out)
  have HB2 : Hid (Below B w w2 ∧ B ≤ w2.heap.size) := ⟨HK2.out.mono HBw.out, Nat.le_trans HBw.out HK2.out.size⟩
  have HSz := hidD HK2.out
  clear H HP HK2
  obtain ⟨r0, r1, rf⟩ := H2.out.cells
  have y1 := rf 1
  clear rf r0
  go_region_with (fail)
  all_goals
    obtain ⟨w3, hw3⟩ : ∃ w3, World.drew (w2.setCell ⟨b, 1, none⟩ (.slice (some ⟨g, 0, none⟩) N c)) = w3 := ⟨_, rfl⟩
    have H3 : Hid (BlM B b (.slice pt L ct) (.slice (some ⟨g, 0, none⟩) N c) ts ms w3 ∧ Below B w w3 ∧ KpB b (Value.slice pt L ct).ownBlock (.slice pt L ct) w w3 ∧ w.heap.size ≤ w3.heap.size) := by
      have t := H2.out.repiece HBb.out HB2.out.2 (World.grownBy.refl w2 _) (pv' := .slice (some ⟨g, 0, none⟩) N c) (ps' := ms) (by rw [HN.out]; exact HP2.out)
      rw [← hw3]
      refine ⟨⟨t.2.1.box, t.2.1.terms, t.2.1.pieces⟩, HB2.out.1.trans t.2.2.drew, ⟨fun i hi hib _ => ?_, .inl rfl⟩, by have := HSz.out.size; simp; omega⟩
      exact (blkF_far _ _ _ _ hib).trans (HSz.out.block i hi)
    rw [hw3]
    clear hw3 r1 y1
    by_cases hx : x = -1
    · have z : (x == -1) = true := beq_iff_eq.2 hx
      have HII : Hid (I = (L : Int)) := by show _ = _; rw [← HI.out, ← HLn.out]; unfold whI; exact if_pos hx
      have HTT : Hid (whT x ts = ts ++ [zrT]) := if_pos hx
      clear hx
      go_wp2_with fail
      refine (HAd.out _ _ H3.out.1).mono ?_
      rintro e w4 ⟨rfl, ⟨v, hv, hk4⟩, hb4⟩
      have H4 : Hid (BlM B b v (.slice (some ⟨g, 0, none⟩) N c) (ts ++ [zrT]) ms w4 ∧ Below B w w4 ∧ KpB b (Value.slice pt L ct).ownBlock v w w4) := ⟨hv, H3.out.2.1.trans hb4, ⟨fun i hi hib hio => (hk4.keep i (Nat.lt_of_lt_of_le hi H3.out.2.2.2) hib hio).trans (H3.out.2.2.1.keep i hi hib hio), hk4.lies.imp id fun h g hg => Nat.le_trans H3.out.2.2.2 (h g hg)⟩⟩
      clear hv hb4 hk4
      go_wp2_with fail
      go_ret
      exact ⟨by rw [HII.out]; rfl, ⟨_, _, by rw [HTT.out]; exact H4.out.1, by cases pt <;> exact H4.out.2.2⟩, H4.out.2.1⟩
    · have z : (x == -1) = false := beq_eq_false_iff_ne.2 hx
      have HII : Hid (I = x) := by show _ = _; rw [← HI.out]; unfold whI; exact if_neg hx
      have HTT : Hid (whT x ts = ts) := if_neg hx
      clear hx
      go_wp2_with fail
      go_ret
      exact ⟨by rw [HII.out]; rfl, ⟨_, _, by rw [HTT.out]; exact H3.out.1, by cases pt <;> exact H3.out.2.2.1⟩, H3.out.2.1⟩
def bsI (x p : Int) (ts : List Trm) : Int := if x = -1 then p else (ts.length : Int)
def bsT (x p : Int) (ts : List Trm) : List Trm := if x = -1 then ts else ts ++ [boT x p]
set_option maxRecDepth 20000 in
set_option maxHeartbeats 12800000 in
theorem blBeside_any (B b : Nat) (tv pv : Value) (ts : List Trm) (ms : List Int) (x p : Int) (w : World) (h : BlM B b tv pv ts (ms ++ [x]) w) (hb : B ≤ b) (hn : ts.length ≤ 100000) (hm : ms.length ≤ 100000) :
    Calls Tryz.prog 50 #[.pointer (some ⟨b, 0, none⟩), .int .i64 p] w fun e w' => e = .returned (.tuple #[]) ∧ (∃ v v', BlM B b v v' (bsT x p ts) (ms ++ [bsI x p ts]) w') ∧ Below B w w' := by
  have hbw := lt_of_blk h.box
  have HBw : Hid (B ≤ w.heap.size) := by show _ ≤ _; omega
  obtain ⟨g, c, rfl, hc, hg, c0, f0, _, _⟩ := int_last h.pieces
  obtain ⟨pt, ct, gt, htv, _⟩ := orow_src h.terms
  subst htv
  have H := hidD h
  have HBb := hidD hb
  have HAd : Hid (∀ (wx : World), BlM B b (.slice pt ts.length ct) (.slice (some ⟨g, 0, none⟩) (ms.length + 1) c) ts (ms ++ [x]) wx → Calls Tryz.prog 51 #[.pointer (some ⟨b, 0, none⟩), .agg (trC (boT x p))] wx fun e w' => e = .returned (.int .i64 (ts.length : Int)) ∧ (∃ v, BlM B b v (.slice (some ⟨g, 0, none⟩) (ms.length + 1) c) (ts ++ [boT x p]) (ms ++ [x]) w') ∧ Below B wx w') := fun wx t => (blAdd_any B b _ _ ts _ (boT x p) wx t hb hn).mono fun e w' h => ⟨h.1, h.2.1.imp fun _ h => h.1, h.2.2⟩
  -- the last cell is written
  have HSt : Hid (∀ (wx : World) (tv' : Value) (ts' : List Trm) (q : Int), BlM B b tv' (.slice (some ⟨g, 0, none⟩) (ms.length + 1) c) ts' (ms ++ [x]) wx → B ≤ wx.heap.size → wx.cell? ⟨g, ms.length, none⟩ = some (.int .i64 x) ∧ wx.frozen? ⟨g, ms.length, none⟩ = false ∧ BlM B b tv' (.slice (some ⟨g, 0, none⟩) (ms.length + 1) c) ts' (ms ++ [q]) (wx.setCell ⟨g, ms.length, none⟩ (.int .i64 q)) ∧ Below B wx (wx.setCell ⟨g, ms.length, none⟩ (.int .i64 q))) := fun wx tv' ts' q t hBx => by
    obtain ⟨g', c', e, _, _, d0, d1, _, d2⟩ := int_last t.pieces
    injection e with e1 e2 e3
    injection e1 with e1
    injection e1 with e1
    subst e1 e3
    have hgb : g ≠ b := orow_box t.pieces t.box (by decide) g rfl
    refine ⟨d0, d1, ⟨(blkF_far _ _ _ _ (fun e => hgb e.symm)).trans t.box, ?_, (d2 q).1⟩, orow_grown t.pieces (d2 q).2 hBx⟩
    exact t.terms.kept (d2 q).2 (orow_apart t.terms t.pieces (by decide))
  obtain ⟨N, hN⟩ : ∃ N, ms.length = N := ⟨_, rfl⟩
  rw [hN] at hc c0 f0 H hm HAd HSt
  obtain ⟨L, hL⟩ : ∃ L, ts.length = L := ⟨_, rfl⟩
  have HLn := hidD hL
  rw [hL] at H HAd
  have hL2 : L ≤ 100000 := by omega
  obtain ⟨I, hI⟩ : ∃ I, bsI x p ts = I := ⟨_, rfl⟩
  have HI := hidD hI
  rw [hI]
  unfold trC boT at HAd
  dsimp only at HAd
  have i0 : (((N + 1 : Nat) : Int) - 1) = (N : Int) := by omega
  have i1 : (0 : Int) ≤ (N : Int) := by omega
  have i2 : (N : Int) < ((N + 1 : Nat) : Int) := by omega
  have i3 : (N : Int) ≤ (c : Int) := by omega
  have iw : IntKind.i64.wrap (N : Int) = (N : Int) := by rw [IntKind.wrap_i64]; omega
  obtain ⟨r0, r1, rf⟩ := h.cells
  rw [hN] at r1
  clear h hb hn hg hN hL hI rf hbw hc r0 c0 f0
  go_enter Tryz.func50, Tryz.ntmps50
  go_wp2_with fail
  go_quiet (fail)
  obtain ⟨w2, hw2⟩ : ∃ wq, World.drewN w nq = wq := ⟨_, rfl⟩
  have HK2 : Hid (Below w.heap.size w w2) := by show Below _ _ _; rw [← hw2]; exact ⟨rfl, rfl, rfl, Nat.le_refl _, fun _ _ => rfl⟩
  rw [hw2]
  clear hw2 r1
  have H2 := hidD (H.out.below HK2.out)
  have HB2 : Hid (Below B w w2 ∧ B ≤ w2.heap.size) := ⟨HK2.out.mono HBw.out, Nat.le_trans HBw.out HK2.out.size⟩
  clear H HK2
  have HS2 := hidD (fun q => HSt.out w2 _ _ q H2.out HB2.out.2)
  have c0 := (HS2.out 0).1
  by_cases hx : x = -1
  · have z : (x != -1) = false := by rw [hx]; rfl
    have f0 := (HS2.out 0).2.1
    have HII : Hid (I = p) := by show _ = _; rw [← HI.out]; unfold bsI; exact if_pos hx
    have HTT : Hid (bsT x p ts = ts) := if_pos hx
    clear hx
    go_wp2_with fail
    exact bodyPost_end (v := .tuple #[]) (by simp [results, Tryz.results50, go_sem]) rfl ⟨rfl, ⟨_, _, by rw [HTT.out, HII.out]; exact (HS2.out p).2.2.1⟩, HB2.out.1.trans (HS2.out p).2.2.2⟩
  · have z : (x != -1) = true := bne_iff_ne.2 hx
    have HII : Hid (I = (L : Int)) := by show _ = _; rw [← HI.out, ← HLn.out]; unfold bsI; exact if_neg hx
    have HTT : Hid (bsT x p ts = ts ++ [boT x p]) := if_neg hx
    clear hx HS2
    go_wp2_with fail
    refine (HAd.out _ H2.out).mono ?_
    rintro e w4 ⟨rfl, ⟨v, hv⟩, hb4⟩
    have H4 := hidD (And.intro hv (HB2.out.1.trans hb4))
    clear hv hb4 c0
    have HB4 : Hid (B ≤ w4.heap.size) := Nat.le_trans HBw.out H4.out.2.size
    have HS4 := hidD (fun q => HSt.out w4 _ _ q H4.out.1 HB4.out)
    have c0 := (HS4.out 0).1
    have f0 := (HS4.out 0).2.1
    go_wp2_with fail
    exact bodyPost_end (v := .tuple #[]) (by simp [results, Tryz.results50, go_sem]) rfl ⟨rfl, ⟨_, _, by rw [HTT.out, HII.out]; exact (HS4.out (L : Int)).2.2.1⟩, H4.out.2.trans (HS4.out (L : Int)).2.2.2⟩
end Go.Proofs.YtienedhaogjahaaGreatDoor
