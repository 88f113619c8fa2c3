/- The contract of slices.SortFunc at keys. The contract of package flow's Net. What tenorlaw14's awake asks. The document's way to the keys: each time the least one above the last. Netting flows: any order, twice, and beside what is given: plain. -/
import Derived.Test.YteglnchcnacjlaaGreatJShelf
import Derived.Test.YteglnchcnacjlaaGreatJfK
import Derived.Test.YteglnchcnacjlaaGreatHba
import Derived.Test.YteglnchcnacjlaaGreatJfQ
import Derived.Test.YteglnchcnacjlaaGreatHao
import Derived.Deep.QuietTactic
import Derived.Test.YteglnchcnacjlaaGreatHaz
namespace Go.Proofs.YteglnchcnacjlaaGreat
open Go.RowKit Go.Shelf

def cfK (x y : Int × Int) : Int := orV (cmpV x.1 y.1) (cmpV x.2 y.2)
theorem cfK_lt (x y : Int × Int) : ltOf cfK x y = true ↔ ltK x y := by
  unfold ltOf cfK orV cmpV ltK
  rw [decide_eq_true_iff]
  by_cases h1 : x.1 < y.1
  · simp [h1]
  · by_cases h2 : y.1 < x.1
    · simp [h1, h2]; omega
    · have e : x.1 = y.1 := by omega
      simp only [if_neg h1, if_neg h2, ne_eq, not_true_eq_false, if_false]
      by_cases h3 : x.2 < y.2
      · simp [h3, e]
      · by_cases h4 : y.2 < x.2
        · simp [h3, h4, e]
        · simp [h3, h4, e]
theorem cfK_not (x y : Int × Int) : ltOf cfK x y = false ↔ ¬ ltK x y := by
  rw [← cfK_lt, Bool.not_eq_true]
theorem swoK : Go.Sort.SWO (ltOf cfK) where
  irrefl x := (cfK_not x x).2 (ltK_irrefl x)
  trans x y z h1 h2 := (cfK_lt x z).2 (ltK_trans ((cfK_lt x y).1 h1) ((cfK_lt y z).1 h2))
  ntrans x y z h1 h2 := by
    have a := (cfK_not x y).1 h1
    have b := (cfK_not y z).1 h2
    refine (cfK_not x z).2 ?_
    unfold ltK at *
    omega
theorem cmpLaysK (blk off size : Nat) (w : World) : CmpLays Tryz.prog 24 #[] keyC 2 cfK blk off size w :=
  fun _ _ _ _ x y => jCmp_any x.1 x.2 y.1 y.2 _
theorem isAggKy (w : World) : (isAgg 61).run Tryz.prog w = .ok true w := Tryz.isAgg61 w
theorem sizeOfKy (w : World) : (Go.sizeOf 61).run Tryz.prog w = .ok 2 w := Tryz.sizeOf61 w
theorem toArr_get (ks : List (Int × Int)) (i : Nat) (hi : i < ks.length) : ks.toArray[i]! = ks.getD i key0 := by
  simp [hi, List.getD]
theorem holdsK_own {w : World} {base g m cap : Nat} {ks : List (Int × Int)} (h : w.ownsRow base 61 2 (.slice (some ⟨g, 0, none⟩) m cap) m (rowK ks)) (hm : ks.length = m) : Go.Sort.HoldsK keyC 2 w g 0 ks.toArray := by
  intro j hj
  rw [Go.Sort.size_flatK] at hj
  have hj' : j < ks.length * 2 := by simpa using hj
  have hi : j / 2 < ks.length := by omega
  obtain ⟨c', ho⟩ := kyown_obj h rfl
  refine ⟨?_, frozen_of_row _ _ _ _ _ ho⟩
  have e1 := World.ownsRow.cellAt h j (by omega)
  rw [Nat.zero_add, e1, Go.Sort.get_flatK _ _ _ _ hj, toArr_get ks _ hi, show j = j / 2 * 2 + j % 2 by omega, rowK_get ks _ _ hi (Nat.mod_lt _ (by omega))]
  rw [← show j = j / 2 * 2 + j % 2 by omega]
  rcases (show j % 2 = 0 ∨ j % 2 = 1 by omega) with e | e <;> rw [e] <;> rfl
theorem wrote_sort {enc : Int × Int → List Value} {k n g off : Nat} {d : Array (Int × Int)} {os : Array Obj} {w : World} : A.Wrote w (sortWorldK enc k w g off n d os) (fun i => i = g) := by
  have hsz : (Go.Sort.putRowK enc k (Go.Sort.ahead w n) g off d).heap.size = w.heap.size := by simp [Go.Sort.putRowK, Go.Sort.putRow, Go.Sort.mapBlock, Go.Sort.ahead]
  refine ⟨rfl, rfl, rfl, ?_, fun i hi hne => ?_⟩
  · show w.heap.size ≤ (_ ++ os).size
    rw [Array.size_append, hsz]; omega
  · show (_ ++ os)[i]? = _
    rw [Array.getElem?_append_left (by rw [hsz]; exact hi)]
    simp only [Go.Sort.putRowK, Go.Sort.putRow, Go.Sort.mapBlock, Go.Sort.ahead]
    rw [Array.getElem?_modify, if_neg (fun e => hne e.symm)]

set_option maxHeartbeats 1000000 in
theorem jSort_any (w : World) (base g m cap : Nat) (ks : List (Int × Int)) (h : w.ownsRow base 61 2 (.slice (some ⟨g, 0, none⟩) m cap) m (rowK ks)) (hm : ks.length = m) (hn : ks.Nodup) (hml : m ≤ 4096) :
    Calls Tryz.prog 23 #[.slice (some ⟨g, 0, none⟩) m cap, .func (.func 24) #[] #[]] w fun e w' => e = .returned (.tuple #[]) ∧ ∃ S : List (Int × Int), S.length = m ∧ (∀ x, x ∈ S ↔ x ∈ ks) ∧ S.Pairwise ltK ∧ (∀ i < m, w'.cell? ⟨g, i * 2, none⟩ = some (.int .i64 (S.getD i key0).1) ∧ w'.cell? ⟨g, i * 2 + 1, none⟩ = some (.int .i64 (S.getD i key0).2)) ∧ A.Wrote w w' (fun i => i = g) := by
  have hg : g < w.heap.size := (by obtain ⟨c', ho⟩ := kyown_obj h rfl; exact (Array.getElem?_eq_some_iff.1 ho).1)
  have eg : ∀ args w, (callFunc 24 args).run Tryz.prog w = .ok (.enter 24 args) w := enters_of Tryz.func24 (by kernel_rfl) rfl
  have hH := holdsK_own h hm
  have hs : ks.toArray.size = m := by simpa using hm
  have hcon := AnyQ.slices_SortFunc Tryz.sortKL 2 isAggKy sizeOfKy keyC (fun _ => rfl) (fun x v hv => by simp [keyC] at hv; rcases hv with rfl | rfl <;> rfl) cfK swoK 24 #[] g 0 cap ks.toArray w eg (cmpLaysK g 0 ks.toArray.size w) hH hg (by omega)
  rw [hs] at hcon
  change Calls Tryz.prog 23 _ _ _ at hcon
  refine hcon.mono ?_
  rintro e w' ⟨rfl, d', n, os, hp, hso, rfl⟩
  have hd : d'.size = m := hp.1.trans hs
  have hperm : d'.toList.Perm ks := by
    have := hp.2.2
    rw [← hd, Array.extract_size] at this
    have e2 : (ks.toArray.extract 0 d'.size).toList = ks := by rw [hd, ← hs, Array.extract_size]
    rwa [e2] at this
  have hget : ∀ i < m, d'[i]! = d'.toList.getD i key0 := fun i hi => by
    have : i < d'.size := by omega
    simp [this, List.getD]
  refine ⟨rfl, d'.toList, by simpa using hd, fun x => hperm.mem_iff, ?_, fun i hi => ?_, wrote_sort⟩
  · rw [List.pairwise_iff_getElem]
    intro i j hi hj hij
    have hi' : i < m := by simpa [hd] using hi
    have hj' : j < m := by simpa [hd] using hj
    have h1 := hso i j (Nat.zero_le _) hij hj'
    have h2 := (cfK_not _ _).1 h1
    have ei : d'[i]! = d'.toList[i] := by simp [show i < d'.size by omega]
    have ej : d'[j]! = d'.toList[j] := by simp [show j < d'.size by omega]
    rw [ei, ej] at h2
    have hne : d'.toList[i] ≠ d'.toList[j] := by
      have hnd : d'.toList.Nodup := hperm.nodup_iff.2 hn
      exact (List.pairwise_iff_getElem.1 hnd) i j hi hj hij
    exact (ltK_total hne).resolve_right h2
  · have hh := holdsK_sortWorldK keyC 2 w g 0 n ks.toArray d' os hg hH hp.1
    have a := hh.cell (i := i) (c := 0) (by omega) (by omega)
    have b := hh.cell (i := i) (c := 1) (by omega) (by omega)
    rw [hget i hi] at a b
    rw [Nat.zero_add, Nat.add_zero] at a
    rw [Nat.zero_add] at b
    exact ⟨a.1, b.1⟩
theorem jSort_none (w : World) (p : Option Addr) (cap : Nat) : Calls Tryz.prog 23 #[.slice p 0 cap, .func (.func 24) #[] #[]] w fun e w' => e = .returned (.tuple #[]) ∧ w' = w :=
  AnyF.slices_SortFunc_none Tryz.sortKL p cap _ w
end Go.Proofs.YteglnchcnacjlaaGreat
namespace Go.Proofs.YteglnchcnacjlaaGreat
open Go.RowKit

def netO (l : List Flw) (x : Int × Int) : Option Flw := if finB (netA l x) then some (netF l x) else none
def netN (l : List Flw) (S : List (Int × Int)) : Nat → Option (List Flw)
  | 0 => some []
  | k + 1 => (netN l S k).bind fun m => (netO l (S.getD k key0)).map fun f => m ++ [f]
theorem netN_succ {l : List Flw} {S : List (Int × Int)} {k : Nat} {m : List Flw} {f : Flw} (h : netN l S k = some m) (hf : netO l (S.getD k key0) = some f) : netN l S (k + 1) = some (m ++ [f]) := by
  unfold netN; rw [h, Option.bind_some, hf, Option.map_some]
theorem netN_stop {l : List Flw} {S : List (Int × Int)} {k : Nat} (hf : netO l (S.getD k key0) = none) : ∀ n, k < n → netN l S n = none
  | 0, h => by omega
  | n + 1, h => by
    unfold netN
    by_cases c : k < n
    · rw [netN_stop hf n c, Option.bind_none]
    · obtain rfl : k = n := by omega
      rw [hf]; cases netN l S k with
      | none => rw [Option.bind_none]
      | some m => rw [Option.bind_some, Option.map_none]
theorem netN_len {l : List Flw} {S : List (Int × Int)} : ∀ {k : Nat} {m : List Flw}, netN l S k = some m → m.length = k
  | 0, m, h => by obtain rfl : [] = m := by simpa [netN] using h
                  rfl
  | k + 1, m, h => by
    unfold netN at h
    cases hm : netN l S k with
    | none => rw [hm] at h; cases h
    | some m' =>
      rw [hm, Option.bind_some] at h
      cases hf : netO l (S.getD k key0) with
      | none => rw [hf] at h; cases h
      | some f =>
        rw [hf, Option.map_some] at h
        obtain rfl : m' ++ [f] = m := Option.some.inj h
        rw [List.length_append, netN_len hm]; rfl
structure KRow (w : World) (g m : Nat) (S : List (Int × Int)) : Prop where
  len : S.length = m
  lt : 0 < m → g < w.heap.size
  cell : ∀ i < m, w.cell? ⟨g, i * 2, none⟩ = some (.int .i64 (S.getD i key0).1) ∧ w.cell? ⟨g, i * 2 + 1, none⟩ = some (.int .i64 (S.getD i key0).2)
theorem KRow.stay {w w' : World} {B g m : Nat} {S : List (Int × Int)} (h : KRow w g m S) (hb : Below B w w') (hB : 0 < m → g < B) : KRow w' g m S :=
  ⟨h.len, fun h0 => Nat.lt_of_lt_of_le (h.lt h0) hb.size, fun i hi => ⟨(hb.cell (p := ⟨g, i * 2, none⟩) (hB (by omega))).trans (h.cell i hi).1, (hb.cell (p := ⟨g, i * 2 + 1, none⟩) (hB (by omega))).trans (h.cell i hi).2⟩⟩
structure NetS (w w2 : World) (l : List Flw) (S : List (Int × Int)) (g m : Nat) (pb : Int × Int → Nat) (vv : Int × Int → Value) : Prop where
  row : KRow w2 g m S
  map : MapK w2 w.heap.size l.length (keysN l l.length) pb
  fam : Fam w2 w.heap.size (keysN l l.length) pb vv (71 + l.length) (fun x => sumN l x l.length)
  bl : Below w.heap.size w w2
  key : ∀ x, x ∈ S ↔ x ∈ keysN l l.length
  rise : S.Pairwise ltK
theorem jSortS {w w1 : World} {l : List Flw} {vk : Value} {pb : Int × Int → Nat} {vv : Int × Int → Value} (h : SumS w w1 vk (keysN l l.length) pb vv (fun x => sumN l x l.length) l.length (71 + l.length)) (hl : l.length ≤ 4096) :
    ∃ p g m c, vk = .slice p m c ∧ (0 < m → p = some ⟨g, 0, none⟩) ∧ m ≤ 4096 ∧ Calls Tryz.prog 23 #[.slice p m c, .func (.func 24) #[] #[]] w1 fun e w' => e = .returned (.tuple #[]) ∧ ∃ S, NetS w w' l S g m pb vv := by
  have hk := keysN_len l l.length
  rcases h.own.2 with ⟨rfl, h0⟩ | ⟨g, cap, cur, rfl, hg, hh, hnc, hcm, hsz, htk⟩
  · refine ⟨none, 0, 0, 0, rfl, fun h => by omega, by omega, (jSort_none w1 none 0).mono ?_⟩
    rintro e w' ⟨rfl, rfl⟩
    refine ⟨rfl, [], ⟨rfl, fun h => by omega, fun i hi => by omega⟩, h.map, h.fam, h.bl, fun x => ?_, List.Pairwise.nil⟩
    rw [List.length_eq_zero_iff.1 h0]
  · refine ⟨_, g, _, cap, rfl, fun _ => rfl, by omega, (jSort_any w1 w.heap.size g _ cap _ h.own rfl (keysN_nodup l _) (by omega)).mono ?_⟩
    rintro e w' ⟨rfl, S, hS, hm, hr, hc, hw⟩
    have ob : Value.ownBlock (.slice (some ⟨g, 0, none⟩) (keysN l l.length).length cap) = some g := rfl
    refine ⟨rfl, S, ⟨hS, fun _ => Nat.lt_of_lt_of_le (Array.getElem?_eq_some_iff.1 hh).1 hw.size, hc⟩, h.map.wrote hw (fun e => own_map h.own h.map (by rw [ob, e])), h.fam.wrote hw (fun x hx k hk e => fam_own h.fam h.own hx hk (by rw [ob, e])), h.bl.trans (hw.below (fun k e => by rw [e]; exact hg) h.bl.size), hm, hr⟩
theorem NetS.keyR {w w2 : World} {l : List Flw} {S : List (Int × Int)} {g m : Nat} {pb : Int × Int → Nat} {vv : Int × Int → Value} (h : NetS w w2 l S g m pb vv) : KeyR l S :=
  ⟨h.rise, fun x => (h.key x).trans (keysN_mem l x l.length)⟩
theorem badF_key {f : Flw} (h : badF f = 0) : KeyB (keyF f) := by
  unfold badF at h
  split at h
  · cases h
  split at h
  · cases h
  split at h
  · cases h
  · rename_i h1 _ h3
    unfold KeyB keyF
    dsimp only
    have a := Decidable.not_not.1 h1
    have b := Decidable.not_not.1 h3
    omega
theorem valSt_ltJ (a : A.St) : A.valSt a < 18446744073709551616 := by
  unfold A.valSt
  split
  · unfold valF joinN
    split
    · omega
    · have := nearR_le a.N.natAbs (-2148)
      split <;> omega
  · split
    · omega
    · split <;> omega

set_option maxRecDepth 20000 in
set_option maxHeartbeats 6400000 in
theorem jNet_bad (l : List Flw) (p : Option Addr) (b off c N : Nat) (E K : Int) (w : World) (hl : JSrc aF w p b off l) (hN : l.length = N) (hc : N ≤ 9223372036854775807) (hf : FitJ l) (hE : ChkF l E K) (hE0 : E ≠ 0) :
    Calls Tryz.prog 9 #[.slice p N c] w fun e w' => e = .returned (.tuple #[.slice none 0 0, .int .i64 E]) ∧ Below w.heap.size w w' := by
  have HC := hideS (jCheck_any l p b off c N E K w hl hN hc hf hE)
  have d1 : (E != 0) = true := bne_iff_ne.2 hE0
  clear hl hN hc hf hE hE0
  go_enter Tryz.func9, Tryz.ntmps9
  go_wp2_with fail
  refine HC.out.mono ?_
  rintro e w1 ⟨rfl, hb1⟩
  have HB := hideS hb1
  clear hb1
  go_wp2_with fail
  go_ret2
  exact ⟨rfl, HB.out⟩

set_option maxRecDepth 20000 in
set_option maxHeartbeats 6400000 in
theorem jNet_ok (l : List Flw) (p : Option Addr) (b off c N : Nat) (w : World) (hl : JSrc aF w p b off l) (hN : l.length = N) (hc : N ≤ 4096) (hf : FitJ l) (hE : ChkF l 0 0) :
    Calls Tryz.prog 9 #[.slice p N c] w fun e w' => ∃ S, KeyR l S ∧ LstO aF 29 (netN l S S.length) 91 w.heap.size e w' ∧ Below w.heap.size w w' := by
  have HC := hideS (jCheck_any l p b off c N 0 0 w hl hN (by omega) hf hE)
  have hk : ∀ i < N, KeyB (keyF (l.getD i flw0)) := fun i hi => badF_key (by
    cases hE with
    | fine _ h => exact h i (by omega)
    | bad _ k _ _ _ h0 _ => exact absurd rfl h0)
  have HSm := hideS fun wx (hb : Below w.heap.size w wx) => jSum_any l p b off c N wx (hl.below hb) hN hc hf hk
  have HSo := hideS fun wx w1 vk pb vv (h : SumS wx w1 vk (keysN l N) pb vv (fun x => sumN l x N) N (71 + N)) => jSortS (w := wx) (w1 := w1) (l := l) (vk := vk) (pb := pb) (vv := vv) (by rw [hN]; exact h) (by omega)
  have HN := hideS hN
  clear hl hN hf hE hk
  go_enter Tryz.func9, Tryz.ntmps9
  go_wp2_with fail
  refine HC.out.mono ?_
  rintro e w1 ⟨rfl, hb1⟩
  have HB1 := hideS hb1
  clear hb1
  go_wp2_with fail
  refine (HSm.out w1 HB1.out).mono ?_
  rintro e w2 ⟨vk, pb, vv, rfl, hs⟩
  obtain ⟨pk, g, m, ck, rfl, hpk, hm, hso⟩ := HSo.out w1 w2 vk pb vv hs
  have HSq := hideS hso
  have HPk := hideS hpk
  clear hs hso hpk HSm HSo HC
  go_wp2_with fail
  refine HSq.out.mono ?_
  rintro e w3 ⟨rfl, S, hS⟩
  have HS := hideS hS
  have HO0 := hideS (fown_nil aF w3 w3.heap.size 29)
  clear hS HSq
  go_wp2_with fail
  go_loopw [8, 29] (fun v i wr => ∃ (k : Nat) (L : List Flw), k ≤ m ∧ i = .int .i64 k ∧ Hid (netN l S k = some L) ∧ Hid (wr.ownsRow w3.heap.size 29 3 v k (rowF aF L)) ∧ Hid (Below w3.heap.size w3 wr)) (fun _ i _ => m - (intOf i).toNat)
  case atStart => exact ⟨0, [], Nat.zero_le _, rfl, rfl, HO0, Below.refl _ _⟩
  case round =>
    clear HO0
    obtain ⟨k, L, hk, rfl, HM, HO, HB⟩ := hrel
    by_cases hlt : k < m
    · obtain rfl := HPk.out (by omega)
      have HW := hideS (HS.out.row.stay HB.out HS.out.row.lt)
      obtain ⟨c0, c1⟩ := HW.out.cell k hlt
      have hx : S.getD k key0 ∈ keysN l l.length := (HS.out.key _).1 (by
        have : k < S.length := by rw [HS.out.row.len]; exact hlt
        rw [List.getD_eq_getElem?_getD, List.getElem?_eq_getElem this]
        exact List.getElem_mem this)
      have HSt := hideS (fun h => netN_stop (l := l) (S := S) (k := k) h m hlt)
      have HSu := hideS (fun f h => netN_succ (f := f) HM.out h)
      have HKB := hideS (setKy_box wr (S.getD k key0))
      obtain ⟨⟨m0, m1⟩, fm⟩ := zeroKy_cells wr
      have n0 := fm 0
      have n1 := fm 1
      clear fm
      have HBr := hideS (HB.out.trans (HKB.out.bl.mono HB.out.size))
      have HS5 := hideS (HS.out.map.wrote (A.wrote_below (F := fun _ => False) (HBr.out)) id)
      have HF5 := hideS (HS.out.fam.below HBr.out)
      have hlk0 := (HS5.out.there hx).2
      have HVl := hideS (A.value_any w1.heap.size _ _ (71 + l.length) _ _ (HF5.out.acc _ hx) (Nat.le_trans HS.out.bl.size HBr.out.size) (by have := HN.out; omega))
      have HNm : Hid (netO l (S.getD k key0) = if finB (A.valSt (sumN l (S.getD k key0) l.length)) then some ⟨(S.getD k key0).2, A.valSt (sumN l (S.getD k key0) l.length), (S.getD k key0).1⟩ else none) := rfl
      have HVu := hideS (valSt_ltJ (sumN l (S.getD k key0) l.length))
      try dsimp only at HVl
      generalize A.valSt (sumN l (S.getD k key0) l.length) = am at *
      obtain ⟨x, hxx⟩ : ∃ x, S.getD k key0 = x := ⟨_, rfl⟩
      rw [hxx] at c0 c1 HKB hlk0 HVl HNm HSt HSu HBr HF5 HS5
      clear hx hxx
      obtain ⟨qc, qd⟩ := x
      unfold keyV at hlk0
      try dsimp only at *
      obtain ⟨w4, hw4⟩ : ∃ w4, wr.alloc zeroKy = w4 := ⟨_, rfl⟩
      rw [hw4] at m0 m1 n0 n1 HKB HBr HF5 HS5 hlk0 HVl
      unfold zeroKy at hw4
      obtain ⟨w5, hw5⟩ : ∃ w5, setKy w4 wr.heap.size (qc, qd) = w5 := ⟨_, rfl⟩
      rw [hw5] at HKB HBr HF5 HS5 hlk0 HVl
      unfold setKy at hw5
      dsimp only at hw5
      have e0 := HKB.out.t0
      have e1 := HKB.out.t1
      dsimp only at e0 e1
      have HNn := hideS fun wx => jNum_any am wx (by have := HVu.out; unfold U64; omega)
      go_wp2_with fail
      clear hlk0 hw4 hw5 m0 m1 n0 n1 e0 e1 c0 c1
      refine HVl.out.mono ?_
      rintro e w6 ⟨rfl, hb6⟩
      have HK6 := hideS (HKB.out.step hb6)
      have HB6 := hideS (HKB.out.bl.trans (hb6.mono HKB.out.bl.size))
      have f0 := HK6.out.t0
      have f1 := HK6.out.t1
      dsimp only at f0 f1
      clear hb6 HVl
      cases hfa : finB am
      · rw [hfa] at HNn HNm
        have HE : Hid (∃ S, KeyR l S ∧ LstO aF 29 (netN l S S.length) 91 w.heap.size (.returned (.tuple #[.slice none 0 0, .int .i64 91])) w6 ∧ Below w.heap.size w w6) := by
          refine ⟨S, HS.out.keyR, Or.inl ⟨?_, rfl⟩, ?_⟩
          · rw [HS.out.row.len]; exact HSt.out HNm.out
          · have h3 := HS.out.bl.trans (HB.out.mono HS.out.bl.size)
            exact HB1.out.trans ((h3.trans (HB6.out.mono h3.size)).mono HB1.out.size)
        clear hfa
        go_wp2_with fail
        refine (turned (HNn.out _)).mono ?_
        rintro e w7 ⟨rfl, rfl⟩
        go_wp2_with fail
        go_ret2
        exact HE.out
      · rw [hfa] at HNn HNm
        have HG := hideS (HSu.out _ HNm.out)
        have HBw := hideS (HB6.out.trans (((Below.refl w6.heap.size w6).alloc (Nat.le_refl _) (.cells #[.int .i64 qd, .float .f64 am, .int .i64 qc] 29)).mono HB6.out.size))
        have HO4 := hideS (fown_below HO.out HBw.out)
        have HFc := hideS (fcells_new w6 ⟨qd, am, qc⟩)
        have HB4 := hideS (HB.out.trans (HBw.out.mono HB.out.size))
        clear hfa
        go_wp2_with fail
        refine (turned (HNn.out _)).mono ?_
        rintro e w7 ⟨rfl, rfl⟩
        go_wp2_with (at_builtin; refine wpList_append_f1 _ rfl (.tmp 40) (.tmp 47) rfl w3.heap.size u8 k L rfl HO4.out HB4.out.size w6.heap.size ⟨qd, am, qc⟩ rfl HFc.out (by omega) ?_; intro v8 w8 ho8 hb8; have HB8 := hideS (HB4.out.trans hb8); have HO8 := hideS ho8; clear ho8 hb8)
        go_roundw
        case rel => exact ⟨k + 1, _, by omega, by go_num, HG, HO8, HB8⟩
        case measure => simp [intOf]; omega
    · obtain rfl : k = m := by omega
      go_wp2_with fail
      go_ret2
      refine ⟨S, HS.out.keyR, ?_, HB1.out.trans ((HS.out.bl.trans (HB.out.mono HS.out.bl.size)).mono HB1.out.size)⟩
      rw [HS.out.row.len, HM.out]
      refine Or.inr ⟨L, _, rfl, rfl, ?_⟩
      rw [netN_len HM.out]
      exact fown_mono HO.out (Nat.le_trans HB1.out.size HS.out.bl.size)
end Go.Proofs.YteglnchcnacjlaaGreat
namespace Go.Proofs.YteglnchcnacjlaaGreat
open Go.RowKit

def awL : List Flw := [⟨5, 4613937818241073152, 2⟩, ⟨5, 4607182418800017408, 1⟩, ⟨5, 4611686018427387904, 1⟩]
def awObj : Obj := .cells #[.int .i64 5, .float .f64 4613937818241073152, .int .i64 2, .int .i64 5, .float .f64 4607182418800017408, .int .i64 1, .int .i64 5, .float .f64 4611686018427387904, .int .i64 1] 29
theorem awL_src (w : World) : JSrc aF (w.alloc awObj) (some ⟨w.heap.size, 0, none⟩) w.heap.size 0 awL := by
  have h := heap_alloc_new w awObj
  refine ⟨fun _ => rfl, fun _ => (Array.getElem?_eq_some_iff.1 h).1, fun i hi => ?_⟩
  have hi3 : i < 3 := hi
  unfold awObj at h
  rcases (show i = 0 ∨ i = 1 ∨ i = 2 by omega) with rfl | rfl | rfl
  all_goals
    refine ⟨?_, ?_, ?_⟩
    all_goals
      simp only [World.cell?, h, awObj, Option.isSome_none, Bool.false_eq_true, if_false]
      rfl
theorem awL_fit : FitJ awL := fun i => by
  rcases (show i = 0 ∨ i = 1 ∨ i = 2 ∨ 3 ≤ i by omega) with rfl | rfl | rfl | h
  · decide
  · decide
  · decide
  · rw [List.getD_eq_getElem?_getD, List.getElem?_eq_none (by exact h)]; decide
theorem awL_chk : ChkF awL 0 0 := .fine (by decide) (fun i hi => by
  have hi3 : i < 3 := hi
  rcases (show i = 0 ∨ i = 1 ∨ i = 2 by omega) with rfl | rfl | rfl <;> decide)
theorem awL_key : KeyR awL [(1, 5), (2, 5)] := by
  refine ⟨?_, fun x => ?_⟩
  · simp [ltK]
  · constructor
    · intro h
      simp only [List.mem_cons, List.not_mem_nil, or_false] at h
      rcases h with rfl | rfl
      · exact ⟨1, by decide, rfl⟩
      · exact ⟨0, by decide, rfl⟩
    · rintro ⟨i, hi, rfl⟩
      have hi3 : i < 3 := hi
      rcases (show i = 0 ∨ i = 1 ∨ i = 2 by omega) with rfl | rfl | rfl <;> simp [keyF, awL]
def unitJ (u : Int) : Int := splM u * ((2 ^ (splE u + 2148).toNat : Nat) : Int)
theorem unitJ_eq (u : Int) : A.unitI u = unitJ u := by unfold A.unitI unitJ; rw [Int.natCast_pow]; rfl
def oneJ (u : Int) : A.St := if splOk u then ⟨0, unitJ u⟩ else ⟨A.endN u, 0⟩
theorem oneJ_eq (u : Int) : A.oneS u = oneJ u := by unfold A.oneS oneJ; rw [unitJ_eq]
theorem awL_one : netA awL (1, 5) = 4613937818241073152 := by
  have h : sumN awL (1, 5) awL.length = ((⟨0, 0⟩ : A.St).merge (oneJ (4607182418800017408 : Nat))).merge (oneJ (4611686018427387904 : Nat)) := by
    rw [← oneJ_eq, ← oneJ_eq]; rfl
  have e : A.valSt (((⟨0, 0⟩ : A.St).merge (oneJ (4607182418800017408 : Nat))).merge (oneJ (4611686018427387904 : Nat))) = 4613937818241073152 := by kernel_rfl
  unfold netA
  rw [h]; exact e
theorem awL_two : netA awL (2, 5) = 4613937818241073152 := by
  have h : sumN awL (2, 5) awL.length = (⟨0, 0⟩ : A.St).merge (oneJ (4613937818241073152 : Nat)) := by
    rw [← oneJ_eq]; rfl
  have e : A.valSt ((⟨0, 0⟩ : A.St).merge (oneJ (4613937818241073152 : Nat))) = 4613937818241073152 := by kernel_rfl
  unfold netA
  rw [h]; exact e
theorem fin_three : finB ((4613937818241073152 : Nat) : Int) = true := by decide
theorem awL_net : netN awL [(1, 5), (2, 5)] 2 = some [⟨5, 4613937818241073152, 1⟩, ⟨5, 4613937818241073152, 2⟩] := by
  have o1 : netO awL (1, 5) = some ⟨5, 4613937818241073152, 1⟩ := by unfold netO netF; rw [awL_one, fin_three, if_pos rfl]
  have o2 : netO awL (2, 5) = some ⟨5, 4613937818241073152, 2⟩ := by unfold netO netF; rw [awL_two, fin_three, if_pos rfl]
  have e0 : ([(1, 5), (2, 5)] : List (Int × Int)).getD 0 key0 = (1, 5) := rfl
  have e1 : ([(1, 5), (2, 5)] : List (Int × Int)).getD 1 key0 = (2, 5) := rfl
  have z : netN awL [(1, 5), (2, 5)] 0 = some [] := by unfold netN; rfl
  rw [← e0] at o1
  rw [← e1] at o2
  exact netN_succ (netN_succ z o1) o2
theorem awL_scl : sclL 4611686018427387904 awL = some [⟨5, 4618441417868443648, 2⟩, ⟨5, 4611686018427387904, 1⟩, ⟨5, 4616189618054758400, 1⟩] := by kernel_rfl
theorem awL_give : awL.map giveF = [⟨5, 13837309855095848960, 2⟩, ⟨5, 13830554455654793216, 1⟩, ⟨5, 13835058055282163712, 1⟩] := by kernel_rfl
theorem awL_win : (awL.filter (winF 5 6)).length = 3 ∧ (awL.filter (winF 6 9)).length = 0 := ⟨by decide, by decide⟩

theorem eqlFl (w : World) : (binOp .eql 29 (.agg #[.int .i64 5, .float .f64 4613937818241073152, .int .i64 1]) (.agg #[.int .i64 5, .float .f64 4613937818241073152, .int .i64 1])).run Tryz.prog w = .ok (.bool true) w := by kernel_rfl
set_option maxRecDepth 20000 in
set_option maxHeartbeats 6400000 in
theorem awake14 (w : World) : Calls Tryz.prog 5 #[] w fun e w' => e = .returned (.bool true) ∧ Below w.heap.size w w' := by
  have H0 := hideS ((Below.refl _ w).alloc (Nat.le_refl _) awObj)
  have HSr := hideS (awL_src w)
  obtain ⟨w1, hw1⟩ : ∃ w1, w.alloc awObj = w1 := ⟨_, rfl⟩
  rw [hw1] at H0 HSr
  have HNe := hideS (jNet_ok awL (some ⟨w.heap.size, 0, none⟩) w.heap.size 0 3 3 w1 HSr.out rfl (by decide) awL_fit awL_chk)
  have HGi := hideS fun wx (hb : Below w1.heap.size w1 wx) => jGive_any awL (some ⟨w.heap.size, 0, none⟩) w.heap.size 0 3 3 wx (HSr.out.below hb) rfl (by decide)
  have HSc := hideS fun wx (hb : Below w1.heap.size w1 wx) => jScale_any awL (some ⟨w.heap.size, 0, none⟩) w.heap.size 0 3 3 4611686018427387904 wx (HSr.out.below hb) rfl (by decide) (by decide) awL_fit
  have HWa := hideS fun wx (hb : Below w1.heap.size w1 wx) => jWindow_any awL (some ⟨w.heap.size, 0, none⟩) w.heap.size 0 3 3 5 6 wx (HSr.out.below hb) rfl (by decide)
  have HWb := hideS fun wx (hb : Below w1.heap.size w1 wx) => jWindow_any awL (some ⟨w.heap.size, 0, none⟩) w.heap.size 0 3 3 6 9 wx (HSr.out.below hb) rfl (by decide)
  unfold awObj at hw1
  go_enter Tryz.func5, Tryz.ntmps5
  go_wp2_with fail
  refine HNe.out.mono ?_
  rintro e w2 ⟨S, hS, hL, hb2⟩
  rw [hS.unique awL_key, show [((1 : Int), (5 : Int)), (2, 5)].length = 2 from rfl, awL_net] at hL
  rcases hL with ⟨h, _⟩ | ⟨m, u, h, rfl, ho⟩
  · cases h
  obtain rfl := Option.some.inj h
  obtain ⟨pa, ga, ca, rfl, sa, _, _, _⟩ := fown_src ho rfl
  clear h ho hS HNe
  obtain rfl := sa.at_ (by decide)
  have HSa := hideS sa
  have HB2 := hideS hb2
  clear hb2 sa
  go_wp2_with fail
  refine (HGi.out w2 HB2.out).mono ?_
  rintro e w3 ⟨⟨u, rfl, ho⟩, hb3⟩
  rw [awL_give] at ho
  obtain ⟨pg, gg, cg, rfl, sg, _, _, _⟩ := fown_src ho rfl
  obtain rfl := sg.at_ (by decide)
  have HSa3 := hideS (HSa.out.below hb3)
  have HSg := hideS sg
  have HB3 := hideS (HB2.out.trans (hb3.mono HB2.out.size))
  clear ho hb3 sg HSa HGi
  go_wp2_with fail
  refine (HSc.out w3 HB3.out).mono ?_
  rintro e w4 ⟨hL, hb4⟩
  rw [awL_scl] at hL
  rcases hL with ⟨h, _⟩ | ⟨m, u, h, rfl, ho⟩
  · cases h
  obtain rfl := Option.some.inj h
  obtain ⟨ps, gs, cs, rfl, ss, _, _, _⟩ := fown_src ho rfl
  obtain rfl := ss.at_ (by decide)
  have HSa4 := hideS (HSa3.out.below hb4)
  have HSg4 := hideS (HSg.out.below hb4)
  have HSs := hideS ss
  have HB4 := hideS (HB3.out.trans (hb4.mono HB3.out.size))
  clear ho hb4 ss HSa3 HSg HSc h
  have a0 : w4.cell? ⟨ga, 0, none⟩ = some (.int .i64 5) := (HSa4.out.cell 0 (by decide)).c0
  have a1 : w4.cell? ⟨ga, 1, none⟩ = some (.float .f64 4613937818241073152) := (HSa4.out.cell 0 (by decide)).c1
  have a2 : w4.cell? ⟨ga, 2, none⟩ = some (.int .i64 1) := (HSa4.out.cell 0 (by decide)).c2
  have g1 : w4.cell? ⟨gg, 1, none⟩ = some (.float .f64 13837309855095848960) := (HSg4.out.cell 0 (by decide)).c1
  have s1 : w4.cell? ⟨gs, 7, none⟩ = some (.float .f64 4616189618054758400) := (HSs.out.cell 2 (by decide)).c1
  clear HSa4 HSg4 HSs
  have heq := eqlFl
  have q1 : (FloatKind.f64.format.order 13837309855095848960 13837309855095848960 == some .eq) = true := by kernel_rfl
  have q2 : (FloatKind.f64.format.order 4616189618054758400 4616189618054758400 == some .eq) = true := by kernel_rfl
  go_wp2_with fail
  refine (HWa.out w4 HB4.out).mono ?_
  rintro e w5 ⟨⟨u, rfl, ho⟩, hb5⟩
  obtain ⟨px, gx, cx, rfl, _, _, _, _⟩ := fown_src ho rfl
  have HB5 := hideS (HB4.out.trans (hb5.mono HB4.out.size))
  rw [awL_win.1]
  clear ho hb5
  go_wp2_with fail
  refine (HWb.out w5 HB5.out).mono ?_
  rintro e w6 ⟨⟨u, rfl, ho⟩, hb6⟩
  obtain ⟨py, gy, cy, rfl, _, _, _, _⟩ := fown_src ho rfl
  have HB6 := hideS (HB5.out.trans (hb6.mono HB5.out.size))
  rw [awL_win.2]
  clear ho hb6
  go_wp2_with fail
  go_ret
  exact ⟨rfl, H0.out.trans (HB6.out.mono H0.out.size)⟩
end Go.Proofs.YteglnchcnacjlaaGreat
namespace Go.Proofs.YteglnchcnacjlaaGreat
open Go.RowKit

def kN (x : Int × Int) : Int := x.1 * 1048576 + x.2
theorem kN_lt {x y : Int × Int} (hx : KeyB x) (hy : KeyB y) : kN x < kN y ↔ ltK x y := by
  obtain ⟨a, b, c, d⟩ := hx
  obtain ⟨a', b', c', d'⟩ := hy
  unfold kN ltK
  constructor
  · intro h
    rcases Int.lt_trichotomy x.1 y.1 with h1 | h1 | h1
    · exact Or.inl h1
    · exact Or.inr ⟨h1, by omega⟩
    · omega
  · rintro (h | ⟨h, h'⟩)
    · omega
    · omega
theorem kN_bd {x : Int × Int} (h : KeyB x) : 0 ≤ kN x ∧ kN x ≤ 114894679044 := by
  obtain ⟨a, b, c, d⟩ := h
  unfold kN; omega
theorem kN_parts {x : Int × Int} (h : KeyB x) : kN x % 1048576 = x.2 ∧ kN x / 1048576 = x.1 := by
  obtain ⟨a, b, c, d⟩ := h
  unfold kN; omega
theorem kN_inj {x y : Int × Int} (hx : KeyB x) (hy : KeyB y) (h : kN x = kN y) : x = y := by
  have a := kN_parts hx
  have b := kN_parts hy
  rw [h] at a
  exact Prod.ext (a.2.symm.trans b.2) (a.1.symm.trans b.1)
def leastN (l : List Flw) (last : Int) : Nat → Int
  | 0 => -1
  | k + 1 => if last < kN (keyF (l.getD k flw0)) ∧ (leastN l last k < 0 ∨ kN (keyF (l.getD k flw0)) < leastN l last k) then kN (keyF (l.getD k flw0)) else leastN l last k
theorem leastN_is (l : List Flw) (last : Int) (hk : ∀ i < l.length, KeyB (keyF (l.getD i flw0))) : ∀ k, k ≤ l.length →
    (leastN l last k = -1 ∧ ∀ i < k, kN (keyF (l.getD i flw0)) ≤ last) ∨ (∃ i < k, leastN l last k = kN (keyF (l.getD i flw0)) ∧ last < leastN l last k ∧ ∀ i' < k, last < kN (keyF (l.getD i' flw0)) → leastN l last k ≤ kN (keyF (l.getD i' flw0)))
  | 0, _ => Or.inl ⟨rfl, fun i hi => by omega⟩
  | k + 1, h => by
    have b0 := (kN_bd (hk k (by omega))).1
    have e : leastN l last (k + 1) = if last < kN (keyF (l.getD k flw0)) ∧ (leastN l last k < 0 ∨ kN (keyF (l.getD k flw0)) < leastN l last k) then kN (keyF (l.getD k flw0)) else leastN l last k := rfl
    rcases leastN_is l last hk k (by omega) with ⟨h1, h2⟩ | ⟨i, hi, h1, h2, h3⟩
    · by_cases c : last < kN (keyF (l.getD k flw0))
      · rw [if_pos ⟨c, Or.inl (by omega)⟩] at e
        refine Or.inr ⟨k, by omega, e, by omega, fun i' hi' hl => ?_⟩
        by_cases d : i' < k
        · have := h2 i' d; omega
        · obtain rfl : i' = k := by omega
          omega
      · rw [if_neg (fun hh => c hh.1)] at e
        refine Or.inl ⟨by omega, fun i hi => ?_⟩
        by_cases d : i < k
        · exact h2 i d
        · obtain rfl : i = k := by omega
          omega
    · have b1 := (kN_bd (hk i (by omega))).1
      by_cases c : last < kN (keyF (l.getD k flw0)) ∧ (leastN l last k < 0 ∨ kN (keyF (l.getD k flw0)) < leastN l last k)
      · rw [if_pos c] at e
        refine Or.inr ⟨k, by omega, e, by omega, fun i' hi' hl => ?_⟩
        by_cases d : i' < k
        · have := h3 i' d hl; omega
        · obtain rfl : i' = k := by omega
          omega
      · rw [if_neg c] at e
        refine Or.inr ⟨i, by omega, by omega, by omega, fun i' hi' hl => ?_⟩
        by_cases d : i' < k
        · have := h3 i' d hl; omega
        · obtain rfl : i' = k := by omega
          omega
def lastJ (S : List (Int × Int)) : Nat → Int
  | 0 => -1
  | j + 1 => kN (S.getD j key0)
theorem KeyR.get {l : List Flw} {S : List (Int × Int)} (h : KeyR l S) {i j : Nat} (hij : i < j) (hj : j < S.length) : ltK (S.getD i key0) (S.getD j key0) := by
  have := (List.pairwise_iff_getElem.1 h.rise) i j (by omega) hj hij
  rw [List.getD_eq_getElem?_getD, List.getD_eq_getElem?_getD, List.getElem?_eq_getElem (by omega), List.getElem?_eq_getElem hj]
  exact this
theorem KeyR.at_ {l : List Flw} {S : List (Int × Int)} (h : KeyR l S) {j : Nat} (hj : j < S.length) : ∃ i < l.length, keyF (l.getD i flw0) = S.getD j key0 := by
  refine (h.mem _).1 ?_
  rw [List.getD_eq_getElem?_getD, List.getElem?_eq_getElem hj]
  exact List.getElem_mem hj
theorem KeyR.of {l : List Flw} {S : List (Int × Int)} (h : KeyR l S) {i : Nat} (hi : i < l.length) : ∃ j < S.length, S.getD j key0 = keyF (l.getD i flw0) := by
  obtain ⟨j, hj, e⟩ := List.mem_iff_getElem.1 ((h.mem (keyF (l.getD i flw0))).2 ⟨i, hi, rfl⟩)
  refine ⟨j, hj, ?_⟩
  rw [List.getD_eq_getElem?_getD, List.getElem?_eq_getElem hj]
  exact e
theorem least_at {l : List Flw} {S : List (Int × Int)} (h : KeyR l S) (hk : ∀ i < l.length, KeyB (keyF (l.getD i flw0))) {j : Nat} (hj : j ≤ S.length) : leastN l (lastJ S j) l.length = if j < S.length then kN (S.getD j key0) else -1 := by
  have hS : ∀ n < S.length, KeyB (S.getD n key0) := fun n hn => by
    obtain ⟨i, hi, e⟩ := h.at_ hn
    rw [← e]; exact hk i hi
  have hl : ∀ n < S.length, lastJ S j < kN (S.getD n key0) ↔ j ≤ n := fun n hn => by
    cases j with
    | zero => exact ⟨fun _ => Nat.zero_le _, fun _ => by have := (kN_bd (hS n hn)).1; show -1 < _; omega⟩
    | succ m =>
      show kN (S.getD m key0) < _ ↔ _
      rw [kN_lt (hS m (by omega)) (hS n hn)]
      constructor
      · intro a
        rcases Nat.lt_trichotomy m n with c | c | c
        · exact c
        · subst c; exact absurd a (ltK_irrefl _)
        · exact absurd (ltK_trans a (h.get c (by omega))) (ltK_irrefl _)
      · intro a; exact h.get a hn
  rcases leastN_is l (lastJ S j) hk l.length (Nat.le_refl _) with ⟨h1, h2⟩ | ⟨i, hi, h1, h2, h3⟩
  · by_cases c : j < S.length
    · obtain ⟨i, hi, e⟩ := h.at_ c
      have := h2 i hi
      rw [e] at this
      have := (hl j c).2 (Nat.le_refl _)
      omega
    · rw [if_neg c]; exact h1
  · obtain ⟨n, hn, e⟩ := h.of hi
    rw [h1, ← e] at h2
    have hjn := (hl n hn).1 h2
    rw [if_pos (by omega)]
    obtain ⟨i', hi', e'⟩ := h.at_ (show j < S.length by omega)
    have h4 := h3 i' hi' (by rw [e']; exact (hl j (by omega)).2 (Nat.le_refl _))
    rw [e', h1, ← e] at h4
    rw [h1, ← e]
    rcases Nat.eq_or_lt_of_le hjn with c | c
    · rw [c]
    · have := (kN_lt (hS j (by omega)) (hS n hn)).2 (h.get c hn)
      omega
end Go.Proofs.YteglnchcnacjlaaGreat
namespace Go.Proofs.YteglnchcnacjlaaGreat
open Go.RowKit

def leK (x y : Int × Int) : Bool := decide (x.1 < y.1 ∨ x.1 = y.1 ∧ x.2 ≤ y.2)
theorem keyR_ex (l : List Flw) : ∃ S, KeyR l S := by
  refine ⟨(keysN l l.length).mergeSort leK, ?_, fun x => ?_⟩
  · have h1 := List.pairwise_mergeSort (le := leK) (fun a b c h h' => by unfold leK at *; rw [decide_eq_true_eq] at *; omega) (fun a b => by unfold leK; rw [Bool.or_eq_true, decide_eq_true_eq, decide_eq_true_eq]; omega) (keysN l l.length)
    have h2 : ((keysN l l.length).mergeSort leK).Nodup := (List.mergeSort_perm _ _).nodup_iff.2 (keysN_nodup l l.length)
    refine (h1.and h2).imp ?_
    rintro ⟨a, b⟩ ⟨c, d⟩ ⟨h, hn⟩
    unfold leK at h
    rw [decide_eq_true_eq] at h
    have hn' : ¬ (a = c ∧ b = d) := fun ⟨e1, e2⟩ => hn (by rw [e1, e2])
    unfold ltK
    omega
  · rw [List.mem_mergeSort, keysN_mem]
end Go.Proofs.YteglnchcnacjlaaGreat
