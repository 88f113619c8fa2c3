/- The contract of package flow's Net. -/
import Derived.Test.YtkcnkhdbojdhgaaGreatJfQ
import Derived.Test.YtkcnkhdbojdhgaaGreatJfR
import Derived.Test.YtkcnkhdbojdhgaaGreatJfD
namespace Go.Proofs.YtkcnkhdbojdhgaaGreat
open Go.RowKit

def netO (l : List Flw) (x : Int × Int) : Option Flw := if finB (netA l x) then some (netF l x) else none
def netN (l : List Flw) (S : List (Int × Int)) : Nat → Option (List Flw)
  | 0 => some []
  | k + 1 => (netN l S k).bind fun m => (netO l (S.getD k key0)).map fun f => m ++ [f]
theorem netN_succ {l : List Flw} {S : List (Int × Int)} {k : Nat} {m : List Flw} {f : Flw} (h : netN l S k = some m) (hf : netO l (S.getD k key0) = some f) : netN l S (k + 1) = some (m ++ [f]) := by
  unfold netN; rw [h, Option.bind_some, hf, Option.map_some]
theorem netN_stop {l : List Flw} {S : List (Int × Int)} {k : Nat} (hf : netO l (S.getD k key0) = none) : ∀ n, k < n → netN l S n = none
  | 0, h => by omega
  | n + 1, h => by
    unfold netN
    by_cases c : k < n
    · rw [netN_stop hf n c, Option.bind_none]
    · obtain rfl : k = n := by omega
      rw [hf]; cases netN l S k with
      | none => rw [Option.bind_none]
      | some m => rw [Option.bind_some, Option.map_none]
theorem netN_len {l : List Flw} {S : List (Int × Int)} : ∀ {k : Nat} {m : List Flw}, netN l S k = some m → m.length = k
  | 0, m, h => by obtain rfl : [] = m := by simpa [netN] using h
                  rfl
  | k + 1, m, h => by
    unfold netN at h
    cases hm : netN l S k with
    | none => rw [hm] at h; cases h
    | some m' =>
      rw [hm, Option.bind_some] at h
      cases hf : netO l (S.getD k key0) with
      | none => rw [hf] at h; cases h
      | some f =>
        rw [hf, Option.map_some] at h
        obtain rfl : m' ++ [f] = m := Option.some.inj h
        rw [List.length_append, netN_len hm]; rfl
structure KRow (w : World) (g m : Nat) (S : List (Int × Int)) : Prop where
  len : S.length = m
  lt : 0 < m → g < w.heap.size
  cell : ∀ i < m, w.cell? ⟨g, i * 2, none⟩ = some (.int .i64 (S.getD i key0).1) ∧ w.cell? ⟨g, i * 2 + 1, none⟩ = some (.int .i64 (S.getD i key0).2)
theorem KRow.stay {w w' : World} {B g m : Nat} {S : List (Int × Int)} (h : KRow w g m S) (hb : Below B w w') (hB : 0 < m → g < B) : KRow w' g m S :=
  ⟨h.len, fun h0 => Nat.lt_of_lt_of_le (h.lt h0) hb.size, fun i hi => ⟨(hb.cell (p := ⟨g, i * 2, none⟩) (hB (by omega))).trans (h.cell i hi).1, (hb.cell (p := ⟨g, i * 2 + 1, none⟩) (hB (by omega))).trans (h.cell i hi).2⟩⟩
structure NetS (w w2 : World) (l : List Flw) (S : List (Int × Int)) (g m : Nat) (pb : Int × Int → Nat) (vv : Int × Int → Value) : Prop where
  row : KRow w2 g m S
  map : MapK w2 w.heap.size l.length (keysN l l.length) pb
  fam : Fam w2 w.heap.size (keysN l l.length) pb vv (71 + l.length) (fun x => sumN l x l.length)
  bl : Below w.heap.size w w2
  key : ∀ x, x ∈ S ↔ x ∈ keysN l l.length
  rise : S.Pairwise ltK
theorem jSortS {w w1 : World} {l : List Flw} {vk : Value} {pb : Int × Int → Nat} {vv : Int × Int → Value} (h : SumS w w1 vk (keysN l l.length) pb vv (fun x => sumN l x l.length) l.length (71 + l.length)) (hl : l.length ≤ 4096) :
    ∃ p g m c, vk = .slice p m c ∧ (0 < m → p = some ⟨g, 0, none⟩) ∧ m ≤ 4096 ∧ Calls Tryz.prog 74 #[.slice p m c, .func (.func 75) #[] #[]] w1 fun e w' => e = .returned (.tuple #[]) ∧ ∃ S, NetS w w' l S g m pb vv := by
  have hk := keysN_len l l.length
  rcases h.own.2 with ⟨rfl, h0⟩ | ⟨g, cap, cur, rfl, hg, hh, hnc, hcm, hsz, htk⟩
  · refine ⟨none, 0, 0, 0, rfl, fun h => by omega, by omega, (jSort_none w1 none 0).mono ?_⟩
    rintro e w' ⟨rfl, rfl⟩
    refine ⟨rfl, [], ⟨rfl, fun h => by omega, fun i hi => by omega⟩, h.map, h.fam, h.bl, fun x => ?_, List.Pairwise.nil⟩
    rw [List.length_eq_zero_iff.1 h0]
  · refine ⟨_, g, _, cap, rfl, fun _ => rfl, by omega, (jSort_any w1 w.heap.size g _ cap _ h.own rfl (keysN_nodup l _) (by omega)).mono ?_⟩
    rintro e w' ⟨rfl, S, hS, hm, hr, hc, hw⟩
    have ob : Value.ownBlock (.slice (some ⟨g, 0, none⟩) (keysN l l.length).length cap) = some g := rfl
    refine ⟨rfl, S, ⟨hS, fun _ => Nat.lt_of_lt_of_le (Array.getElem?_eq_some_iff.1 hh).1 hw.size, hc⟩, h.map.wrote hw (fun e => own_map h.own h.map (by rw [ob, e])), h.fam.wrote hw (fun x hx k hk e => fam_own h.fam h.own hx hk (by rw [ob, e])), h.bl.trans (hw.below (fun k e => by rw [e]; exact hg) h.bl.size), hm, hr⟩
theorem NetS.keyR {w w2 : World} {l : List Flw} {S : List (Int × Int)} {g m : Nat} {pb : Int × Int → Nat} {vv : Int × Int → Value} (h : NetS w w2 l S g m pb vv) : KeyR l S :=
  ⟨h.rise, fun x => (h.key x).trans (keysN_mem l x l.length)⟩
theorem badF_key {f : Flw} (h : badF f = 0) : KeyB (keyF f) := by
  unfold badF at h
  split at h
  · cases h
  split at h
  · cases h
  split at h
  · cases h
  · rename_i h1 _ h3
    unfold KeyB keyF
    dsimp only
    have a := Decidable.not_not.1 h1
    have b := Decidable.not_not.1 h3
    omega
theorem valSt_ltJ (a : A.St) : A.valSt a < 18446744073709551616 := by
  unfold A.valSt
  split
  · unfold valF joinN
    split
    · omega
    · have := nearR_le a.N.natAbs (-2148)
      split <;> omega
  · split
    · omega
    · split <;> omega

set_option maxRecDepth 20000 in
set_option maxHeartbeats 6400000 in
theorem jNet_bad (l : List Flw) (p : Option Addr) (b off c N : Nat) (E K : Int) (w : World) (hl : JSrc aF w p b off l) (hN : l.length = N) (hc : N ≤ 9223372036854775807) (hf : FitJ l) (hE : ChkF l E K) (hE0 : E ≠ 0) :
    Calls Tryz.prog 34 #[.slice p N c] w fun e w' => e = .returned (.tuple #[.slice none 0 0, .int .i64 E]) ∧ Below w.heap.size w w' := by
  have HC := hideS (jCheck_any l p b off c N E K w hl hN hc hf hE)
  have d1 : (E != 0) = true := bne_iff_ne.2 hE0
  clear hl hN hc hf hE hE0
  go_enter Tryz.func34, Tryz.ntmps34
  go_wp2_with fail
  refine HC.out.mono ?_
  rintro e w1 ⟨rfl, hb1⟩
  have HB := hideS hb1
  clear hb1
  go_wp2_with fail
  go_ret2
  exact ⟨rfl, HB.out⟩

set_option maxRecDepth 20000 in
set_option maxHeartbeats 6400000 in
theorem jNet_ok (l : List Flw) (p : Option Addr) (b off c N : Nat) (w : World) (hl : JSrc aF w p b off l) (hN : l.length = N) (hc : N ≤ 4096) (hf : FitJ l) (hE : ChkF l 0 0) :
    Calls Tryz.prog 34 #[.slice p N c] w fun e w' => ∃ S, KeyR l S ∧ LstO aF 81 (netN l S S.length) 91 w.heap.size e w' ∧ Below w.heap.size w w' := by
  have HC := hideS (jCheck_any l p b off c N 0 0 w hl hN (by omega) hf hE)
  have hk : ∀ i < N, KeyB (keyF (l.getD i flw0)) := fun i hi => badF_key (by
    cases hE with
    | fine _ h => exact h i (by omega)
    | bad _ k _ _ _ h0 _ => exact absurd rfl h0)
  have HSm := hideS fun wx (hb : Below w.heap.size w wx) => jSum_any l p b off c N wx (hl.below hb) hN hc hf hk
  have HSo := hideS fun wx w1 vk pb vv (h : SumS wx w1 vk (keysN l N) pb vv (fun x => sumN l x N) N (71 + N)) => jSortS (w := wx) (w1 := w1) (l := l) (vk := vk) (pb := pb) (vv := vv) (by rw [hN]; exact h) (by omega)
  have HN := hideS hN
  clear hl hN hf hE hk
  go_enter Tryz.func34, Tryz.ntmps34
  go_wp2_with fail
  refine HC.out.mono ?_
  rintro e w1 ⟨rfl, hb1⟩
  have HB1 := hideS hb1
  clear hb1
  go_wp2_with fail
  refine (HSm.out w1 HB1.out).mono ?_
  rintro e w2 ⟨vk, pb, vv, rfl, hs⟩
  obtain ⟨pk, g, m, ck, rfl, hpk, hm, hso⟩ := HSo.out w1 w2 vk pb vv hs
  have HSq := hideS hso
  have HPk := hideS hpk
  clear hs hso hpk HSm HSo HC
  go_wp2_with fail
  refine HSq.out.mono ?_
  rintro e w3 ⟨rfl, S, hS⟩
  have HS := hideS hS
  have HO0 := hideS (fown_nil aF w3 w3.heap.size 81)
  clear hS HSq
  go_wp2_with fail
  go_loopw [8, 29] (fun v i wr => ∃ (k : Nat) (L : List Flw), k ≤ m ∧ i = .int .i64 k ∧ Hid (netN l S k = some L) ∧ Hid (wr.ownsRow w3.heap.size 81 3 v k (rowF aF L)) ∧ Hid (Below w3.heap.size w3 wr)) (fun _ i _ => m - (intOf i).toNat)
  case atStart => exact ⟨0, [], Nat.zero_le _, rfl, rfl, HO0, Below.refl _ _⟩
  case round =>
    clear HO0
    obtain ⟨k, L, hk, rfl, HM, HO, HB⟩ := hrel
    by_cases hlt : k < m
    · obtain rfl := HPk.out (by omega)
      have HW := hideS (HS.out.row.stay HB.out HS.out.row.lt)
      obtain ⟨c0, c1⟩ := HW.out.cell k hlt
      have hx : S.getD k key0 ∈ keysN l l.length := (HS.out.key _).1 (by
        have : k < S.length := by rw [HS.out.row.len]; exact hlt
        rw [List.getD_eq_getElem?_getD, List.getElem?_eq_getElem this]
        exact List.getElem_mem this)
      have HSt := hideS (fun h => netN_stop (l := l) (S := S) (k := k) h m hlt)
      have HSu := hideS (fun f h => netN_succ (f := f) HM.out h)
      have HKB := hideS (setKy_box wr (S.getD k key0))
      obtain ⟨⟨m0, m1⟩, fm⟩ := zeroKy_cells wr
      have n0 := fm 0
      have n1 := fm 1
      clear fm
      have HBr := hideS (HB.out.trans (HKB.out.bl.mono HB.out.size))
      have HS5 := hideS (HS.out.map.wrote (A.wrote_below (F := fun _ => False) (HBr.out)) id)
      have HF5 := hideS (HS.out.fam.below HBr.out)
      have hlk0 := (HS5.out.there hx).2
      have HVl := hideS (A.value_any w1.heap.size _ _ (71 + l.length) _ _ (HF5.out.acc _ hx) (Nat.le_trans HS.out.bl.size HBr.out.size) (by have := HN.out; omega))
      have HNm : Hid (netO l (S.getD k key0) = if finB (A.valSt (sumN l (S.getD k key0) l.length)) then some ⟨(S.getD k key0).2, A.valSt (sumN l (S.getD k key0) l.length), (S.getD k key0).1⟩ else none) := rfl
      have HVu := hideS (valSt_ltJ (sumN l (S.getD k key0) l.length))
      try dsimp only at HVl
      generalize A.valSt (sumN l (S.getD k key0) l.length) = am at *
      obtain ⟨x, hxx⟩ : ∃ x, S.getD k key0 = x := ⟨_, rfl⟩
      rw [hxx] at c0 c1 HKB hlk0 HVl HNm HSt HSu HBr HF5 HS5
      clear hx hxx
      obtain ⟨qc, qd⟩ := x
      unfold keyV at hlk0
      try dsimp only at *
      obtain ⟨w4, hw4⟩ : ∃ w4, wr.alloc zeroKy = w4 := ⟨_, rfl⟩
      rw [hw4] at m0 m1 n0 n1 HKB HBr HF5 HS5 hlk0 HVl
      unfold zeroKy at hw4
      obtain ⟨w5, hw5⟩ : ∃ w5, setKy w4 wr.heap.size (qc, qd) = w5 := ⟨_, rfl⟩
      rw [hw5] at HKB HBr HF5 HS5 hlk0 HVl
      unfold setKy at hw5
      dsimp only at hw5
      have e0 := HKB.out.t0
      have e1 := HKB.out.t1
      dsimp only at e0 e1
      have HNn := hideS fun wx => jNum_any am wx (by have := HVu.out; unfold U64; omega)
      go_wp2_with fail
      clear hlk0 hw4 hw5 m0 m1 n0 n1 e0 e1 c0 c1
      refine HVl.out.mono ?_
      rintro e w6 ⟨rfl, hb6⟩
      have HK6 := hideS (HKB.out.step hb6)
      have HB6 := hideS (HKB.out.bl.trans (hb6.mono HKB.out.bl.size))
      have f0 := HK6.out.t0
      have f1 := HK6.out.t1
      dsimp only at f0 f1
      clear hb6 HVl
      cases hfa : finB am
      · rw [hfa] at HNn HNm
        have HE : Hid (∃ S, KeyR l S ∧ LstO aF 81 (netN l S S.length) 91 w.heap.size (.returned (.tuple #[.slice none 0 0, .int .i64 91])) w6 ∧ Below w.heap.size w w6) := by
          refine ⟨S, HS.out.keyR, Or.inl ⟨?_, rfl⟩, ?_⟩
          · rw [HS.out.row.len]; exact HSt.out HNm.out
          · have h3 := HS.out.bl.trans (HB.out.mono HS.out.bl.size)
            exact HB1.out.trans ((h3.trans (HB6.out.mono h3.size)).mono HB1.out.size)
        clear hfa
        go_wp2_with fail
        refine (turned (HNn.out _)).mono ?_
        rintro e w7 ⟨rfl, rfl⟩
        go_wp2_with fail
        go_ret2
        exact HE.out
      · rw [hfa] at HNn HNm
        have HG := hideS (HSu.out _ HNm.out)
        have HBw := hideS (HB6.out.trans (((Below.refl w6.heap.size w6).alloc (Nat.le_refl _) (.cells #[.int .i64 qd, .float .f64 am, .int .i64 qc] 81)).mono HB6.out.size))
        have HO4 := hideS (fown_below HO.out HBw.out)
        have HFc := hideS (fcells_new w6 ⟨qd, am, qc⟩)
        have HB4 := hideS (HB.out.trans (HBw.out.mono HB.out.size))
        clear hfa
        go_wp2_with fail
        refine (turned (HNn.out _)).mono ?_
        rintro e w7 ⟨rfl, rfl⟩
        go_wp2_with (at_builtin; refine wpList_append_f1 _ rfl (.tmp 40) (.tmp 47) rfl w3.heap.size u8 k L rfl HO4.out HB4.out.size w6.heap.size ⟨qd, am, qc⟩ rfl HFc.out (by omega) ?_; intro v8 w8 ho8 hb8; have HB8 := hideS (HB4.out.trans hb8); have HO8 := hideS ho8; clear ho8 hb8)
        go_roundw
        case rel => exact ⟨k + 1, _, by omega, by go_num, HG, HO8, HB8⟩
        case measure => simp [intOf]; omega
    · obtain rfl : k = m := by omega
      go_wp2_with fail
      go_ret2
      refine ⟨S, HS.out.keyR, ?_, HB1.out.trans ((HS.out.bl.trans (HB.out.mono HS.out.bl.size)).mono HB1.out.size)⟩
      rw [HS.out.row.len, HM.out]
      refine Or.inr ⟨L, _, rfl, rfl, ?_⟩
      rw [netN_len HM.out]
      exact fown_mono HO.out (Nat.le_trans HB1.out.size HS.out.bl.size)
end Go.Proofs.YtkcnkhdbojdhgaaGreat
