/- The contract of slices.SortFunc at keys. The contract of package flow's Net. Netting flows: any order, twice, and beside what is given: plain. What tenorlaw14's awake asks. -/
import Derived.Test.YthddhgjfboeggaaJShelf
import Derived.Test.YthddhgjfboeggaaJfK
import Derived.Test.YthddhgjfboeggaaHax
import Derived.Test.YthddhgjfboeggaaJfQ
import Derived.Test.YthddhgjfboeggaaHao
import Derived.Test.YthddhgjfboeggaaHaw
import Derived.Deep.QuietTactic
namespace Go.Proofs.Ythddhgjfboeggaa
open Go.RowKit Go.Shelf

def cfK (x y : Int × Int) : Int := orV (cmpV x.1 y.1) (cmpV x.2 y.2)
theorem cfK_lt (x y : Int × Int) : ltOf cfK x y = true ↔ ltK x y := by
  unfold ltOf cfK orV cmpV ltK
  rw [decide_eq_true_iff]
  by_cases h1 : x.1 < y.1
  · simp [h1]
  · by_cases h2 : y.1 < x.1
    · simp [h1, h2]; omega
    · have e : x.1 = y.1 := by omega
      simp only [if_neg h1, if_neg h2, ne_eq, not_true_eq_false, if_false]
      by_cases h3 : x.2 < y.2
      · simp [h3, e]
      · by_cases h4 : y.2 < x.2
        · simp [h3, h4, e]
        · simp [h3, h4, e]
theorem cfK_not (x y : Int × Int) : ltOf cfK x y = false ↔ ¬ ltK x y := by
  rw [← cfK_lt, Bool.not_eq_true]
theorem swoK : Go.Sort.SWO (ltOf cfK) where
  irrefl x := (cfK_not x x).2 (ltK_irrefl x)
  trans x y z h1 h2 := (cfK_lt x z).2 (ltK_trans ((cfK_lt x y).1 h1) ((cfK_lt y z).1 h2))
  ntrans x y z h1 h2 := by
    have a := (cfK_not x y).1 h1
    have b := (cfK_not y z).1 h2
    refine (cfK_not x z).2 ?_
    unfold ltK at *
    omega
theorem cmpLaysK (blk off size : Nat) (w : World) : CmpLays Try.prog 16 #[] keyC 2 cfK blk off size w :=
  fun _ _ _ _ x y => jCmp_any x.1 x.2 y.1 y.2 _
theorem isAggKy (w : World) : (isAgg 48).run Try.prog w = .ok true w := Try.isAgg48 w
theorem sizeOfKy (w : World) : (Go.sizeOf 48).run Try.prog w = .ok 2 w := Try.sizeOf48 w
theorem toArr_get (ks : List (Int × Int)) (i : Nat) (hi : i < ks.length) : ks.toArray[i]! = ks.getD i key0 := by
  simp [hi, List.getD]
/-- A row of keys of one's own, as the sort has it. -/
theorem holdsK_own {w : World} {base g m cap : Nat} {ks : List (Int × Int)} (h : w.ownsRow base 48 2 (.slice (some ⟨g, 0, none⟩) m cap) m (rowK ks)) (hm : ks.length = m) : Go.Sort.HoldsK keyC 2 w g 0 ks.toArray := by
  intro j hj
  rw [Go.Sort.size_flatK] at hj
  have hj' : j < ks.length * 2 := by simpa using hj
  have hi : j / 2 < ks.length := by omega
  obtain ⟨c', ho⟩ := kyown_obj h rfl
  refine ⟨?_, frozen_of_row _ _ _ _ _ ho⟩
  have e1 := World.ownsRow.cellAt h j (by omega)
  rw [Nat.zero_add, e1, Go.Sort.get_flatK _ _ _ _ hj, toArr_get ks _ hi, show j = j / 2 * 2 + j % 2 by omega, rowK_get ks _ _ hi (Nat.mod_lt _ (by omega))]
  rw [← show j = j / 2 * 2 + j % 2 by omega]
  rcases (show j % 2 = 0 ∨ j % 2 = 1 by omega) with e | e <;> rw [e] <;> rfl
/-- What the sort turns: the row alone. -/
theorem wrote_sort {enc : Int × Int → List Value} {k n g off : Nat} {d : Array (Int × Int)} {os : Array Obj} {w : World} : A.Wrote w (sortWorldK enc k w g off n d os) (fun i => i = g) := by
  have hsz : (Go.Sort.putRowK enc k (Go.Sort.ahead w n) g off d).heap.size = w.heap.size := by simp [Go.Sort.putRowK, Go.Sort.putRow, Go.Sort.mapBlock, Go.Sort.ahead]
  refine ⟨rfl, rfl, rfl, ?_, fun i hi hne => ?_⟩
  · show w.heap.size ≤ (_ ++ os).size
    rw [Array.size_append, hsz]; omega
  · show (_ ++ os)[i]? = _
    rw [Array.getElem?_append_left (by rw [hsz]; exact hi)]
    simp only [Go.Sort.putRowK, Go.Sort.putRow, Go.Sort.mapBlock, Go.Sort.ahead]
    rw [Array.getElem?_modify, if_neg (fun e => hne e.symm)]

set_option maxHeartbeats 1000000 in
theorem jSort_any (w : World) (base g m cap : Nat) (ks : List (Int × Int)) (h : w.ownsRow base 48 2 (.slice (some ⟨g, 0, none⟩) m cap) m (rowK ks)) (hm : ks.length = m) (hn : ks.Nodup) (hml : m ≤ 4096) :
    Calls Try.prog 15 #[.slice (some ⟨g, 0, none⟩) m cap, .func (.func 16) #[] #[]] w fun e w' => e = .returned (.tuple #[]) ∧ ∃ S : List (Int × Int), S.length = m ∧ (∀ x, x ∈ S ↔ x ∈ ks) ∧ S.Pairwise ltK ∧ (∀ i < m, w'.cell? ⟨g, i * 2, none⟩ = some (.int .i64 (S.getD i key0).1) ∧ w'.cell? ⟨g, i * 2 + 1, none⟩ = some (.int .i64 (S.getD i key0).2)) ∧ A.Wrote w w' (fun i => i = g) := by
  have hg : g < w.heap.size := (by obtain ⟨c', ho⟩ := kyown_obj h rfl; exact (Array.getElem?_eq_some_iff.1 ho).1)
  have eg : ∀ args w, (callFunc 16 args).run Try.prog w = .ok (.enter 16 args) w := enters_of Try.func16 (by kernel_rfl) rfl
  have hH := holdsK_own h hm
  have hs : ks.toArray.size = m := by simpa using hm
  have hcon := AnyQ.slices_SortFunc Try.sortKL 2 isAggKy sizeOfKy keyC (fun _ => rfl) (fun x v hv => by simp [keyC] at hv; rcases hv with rfl | rfl <;> rfl) cfK swoK 16 #[] g 0 cap ks.toArray w eg (cmpLaysK g 0 ks.toArray.size w) hH hg (by omega)
  rw [hs] at hcon
  change Calls Try.prog 15 _ _ _ at hcon
  refine hcon.mono ?_
  rintro e w' ⟨rfl, d', n, os, hp, hso, rfl⟩
  have hd : d'.size = m := hp.1.trans hs
  have hperm : d'.toList.Perm ks := by
    have := hp.2.2
    rw [← hd, Array.extract_size] at this
    have e2 : (ks.toArray.extract 0 d'.size).toList = ks := by rw [hd, ← hs, Array.extract_size]
    rwa [e2] at this
  have hget : ∀ i < m, d'[i]! = d'.toList.getD i key0 := fun i hi => by
    have : i < d'.size := by omega
    simp [this, List.getD]
  refine ⟨rfl, d'.toList, by simpa using hd, fun x => hperm.mem_iff, ?_, fun i hi => ?_, wrote_sort⟩
  · rw [List.pairwise_iff_getElem]
    intro i j hi hj hij
    have hi' : i < m := by simpa [hd] using hi
    have hj' : j < m := by simpa [hd] using hj
    have h1 := hso i j (Nat.zero_le _) hij hj'
    have h2 := (cfK_not _ _).1 h1
    have ei : d'[i]! = d'.toList[i] := by simp [show i < d'.size by omega]
    have ej : d'[j]! = d'.toList[j] := by simp [show j < d'.size by omega]
    rw [ei, ej] at h2
    have hne : d'.toList[i] ≠ d'.toList[j] := by
      have hnd : d'.toList.Nodup := hperm.nodup_iff.2 hn
      exact (List.pairwise_iff_getElem.1 hnd) i j hi hj hij
    exact (ltK_total hne).resolve_right h2
  · have hh := holdsK_sortWorldK keyC 2 w g 0 n ks.toArray d' os hg hH hp.1
    have a := hh.cell (i := i) (c := 0) (by omega) (by omega)
    have b := hh.cell (i := i) (c := 1) (by omega) (by omega)
    rw [hget i hi] at a b
    rw [Nat.zero_add, Nat.add_zero] at a
    rw [Nat.zero_add] at b
    exact ⟨a.1, b.1⟩
theorem jSort_none (w : World) (p : Option Addr) (cap : Nat) : Calls Try.prog 15 #[.slice p 0 cap, .func (.func 16) #[] #[]] w fun e w' => e = .returned (.tuple #[]) ∧ w' = w :=
  AnyF.slices_SortFunc_none Try.sortKL p cap _ w
end Go.Proofs.Ythddhgjfboeggaa
namespace Go.Proofs.Ythddhgjfboeggaa
open Go.RowKit

/-- What Net tells of the keys one by one. -/
def netO (l : List Flw) (x : Int × Int) : Option Flw := if finB (netA l x) then some (netF l x) else none
def netN (l : List Flw) (S : List (Int × Int)) : Nat → Option (List Flw)
  | 0 => some []
  | k + 1 => (netN l S k).bind fun m => (netO l (S.getD k key0)).map fun f => m ++ [f]
theorem netN_succ {l : List Flw} {S : List (Int × Int)} {k : Nat} {m : List Flw} {f : Flw} (h : netN l S k = some m) (hf : netO l (S.getD k key0) = some f) : netN l S (k + 1) = some (m ++ [f]) := by
  unfold netN; rw [h, Option.bind_some, hf, Option.map_some]
theorem netN_stop {l : List Flw} {S : List (Int × Int)} {k : Nat} (hf : netO l (S.getD k key0) = none) : ∀ n, k < n → netN l S n = none
  | 0, h => by omega
  | n + 1, h => by
    unfold netN
    by_cases c : k < n
    · rw [netN_stop hf n c, Option.bind_none]
    · obtain rfl : k = n := by omega
      rw [hf]; cases netN l S k with
      | none => rw [Option.bind_none]
      | some m => rw [Option.bind_some, Option.map_none]
theorem netN_len {l : List Flw} {S : List (Int × Int)} : ∀ {k : Nat} {m : List Flw}, netN l S k = some m → m.length = k
  | 0, m, h => by obtain rfl : [] = m := by simpa [netN] using h
                  rfl
  | k + 1, m, h => by
    unfold netN at h
    cases hm : netN l S k with
    | none => rw [hm] at h; cases h
    | some m' =>
      rw [hm, Option.bind_some] at h
      cases hf : netO l (S.getD k key0) with
      | none => rw [hf] at h; cases h
      | some f =>
        rw [hf, Option.map_some] at h
        obtain rfl : m' ++ [f] = m := Option.some.inj h
        rw [List.length_append, netN_len hm]; rfl
/-- Keys in their order, in memory. -/
structure KRow (w : World) (g m : Nat) (S : List (Int × Int)) : Prop where
  len : S.length = m
  lt : 0 < m → g < w.heap.size
  cell : ∀ i < m, w.cell? ⟨g, i * 2, none⟩ = some (.int .i64 (S.getD i key0).1) ∧ w.cell? ⟨g, i * 2 + 1, none⟩ = some (.int .i64 (S.getD i key0).2)
theorem KRow.stay {w w' : World} {B g m : Nat} {S : List (Int × Int)} (h : KRow w g m S) (hb : Below B w w') (hB : 0 < m → g < B) : KRow w' g m S :=
  ⟨h.len, fun h0 => Nat.lt_of_lt_of_le (h.lt h0) hb.size, fun i hi => ⟨(hb.cell (p := ⟨g, i * 2, none⟩) (hB (by omega))).trans (h.cell i hi).1, (hb.cell (p := ⟨g, i * 2 + 1, none⟩) (hB (by omega))).trans (h.cell i hi).2⟩⟩
/-- What Net has behind the sort. -/
structure NetS (w w2 : World) (l : List Flw) (S : List (Int × Int)) (g m : Nat) (pb : Int × Int → Nat) (vv : Int × Int → Value) : Prop where
  row : KRow w2 g m S
  map : MapK w2 w.heap.size l.length (keysN l l.length) pb
  fam : Fam w2 w.heap.size (keysN l l.length) pb vv (71 + l.length) (fun x => sumN l x l.length)
  bl : Below w.heap.size w w2
  key : ∀ x, x ∈ S ↔ x ∈ keysN l l.length
  rise : S.Pairwise ltK
/-- The sort of the keys, as Net calls it. -/
theorem jSortS {w w1 : World} {l : List Flw} {vk : Value} {pb : Int × Int → Nat} {vv : Int × Int → Value} (h : SumS w w1 vk (keysN l l.length) pb vv (fun x => sumN l x l.length) l.length (71 + l.length)) (hl : l.length ≤ 4096) :
    ∃ p g m c, vk = .slice p m c ∧ (0 < m → p = some ⟨g, 0, none⟩) ∧ m ≤ 4096 ∧ Calls Try.prog 15 #[.slice p m c, .func (.func 16) #[] #[]] w1 fun e w' => e = .returned (.tuple #[]) ∧ ∃ S, NetS w w' l S g m pb vv := by
  have hk := keysN_len l l.length
  rcases h.own.2 with ⟨rfl, h0⟩ | ⟨g, cap, cur, rfl, hg, hh, hnc, hcm, hsz, htk⟩
  · refine ⟨none, 0, 0, 0, rfl, fun h => by omega, by omega, (jSort_none w1 none 0).mono ?_⟩
    rintro e w' ⟨rfl, rfl⟩
    refine ⟨rfl, [], ⟨rfl, fun h => by omega, fun i hi => by omega⟩, h.map, h.fam, h.bl, fun x => ?_, List.Pairwise.nil⟩
    rw [List.length_eq_zero_iff.1 h0]
  · refine ⟨_, g, _, cap, rfl, fun _ => rfl, by omega, (jSort_any w1 w.heap.size g _ cap _ h.own rfl (keysN_nodup l _) (by omega)).mono ?_⟩
    rintro e w' ⟨rfl, S, hS, hm, hr, hc, hw⟩
    have ob : Value.ownBlock (.slice (some ⟨g, 0, none⟩) (keysN l l.length).length cap) = some g := rfl
    refine ⟨rfl, S, ⟨hS, fun _ => Nat.lt_of_lt_of_le (Array.getElem?_eq_some_iff.1 hh).1 hw.size, hc⟩, h.map.wrote hw (fun e => own_map h.own h.map (by rw [ob, e])), h.fam.wrote hw (fun x hx k hk e => fam_own h.fam h.own hx hk (by rw [ob, e])), h.bl.trans (hw.below (fun k e => by rw [e]; exact hg) h.bl.size), hm, hr⟩
theorem NetS.keyR {w w2 : World} {l : List Flw} {S : List (Int × Int)} {g m : Nat} {pb : Int × Int → Nat} {vv : Int × Int → Value} (h : NetS w w2 l S g m pb vv) : KeyR l S :=
  ⟨h.rise, fun x => (h.key x).trans (keysN_mem l x l.length)⟩
theorem badF_key {f : Flw} (h : badF f = 0) : KeyB (keyF f) := by
  unfold badF at h
  split at h
  · cases h
  split at h
  · cases h
  split at h
  · cases h
  · rename_i h1 _ h3
    unfold KeyB keyF
    dsimp only
    have a := Decidable.not_not.1 h1
    have b := Decidable.not_not.1 h3
    omega
theorem valSt_ltJ (a : A.St) : A.valSt a < 18446744073709551616 := by
  unfold A.valSt
  split
  · unfold valF joinN
    split
    · omega
    · have := nearR_le a.N.natAbs (-2148)
      split <;> omega
  · split
    · omega
    · split <;> omega

set_option maxRecDepth 20000 in
set_option maxHeartbeats 6400000 in
theorem jNet_bad (l : List Flw) (p : Option Addr) (b off c N : Nat) (E K : Int) (w : World) (hl : JSrc aF w p b off l) (hN : l.length = N) (hc : N ≤ 9223372036854775807) (hf : FitJ l) (hE : ChkF l E K) (hE0 : E ≠ 0) :
    Calls Try.prog 6 #[.slice p N c] w fun e w' => e = .returned (.tuple #[.slice none 0 0, .int .i64 E]) ∧ Below w.heap.size w w' := by
  have HC := hideS (jCheck_any l p b off c N E K w hl hN hc hf hE)
  have d1 : (E != 0) = true := bne_iff_ne.2 hE0
  clear hl hN hc hf hE hE0
  go_enter Try.func6, Try.ntmps6
  go_wp2_with fail
  refine HC.out.mono ?_
  rintro e w1 ⟨rfl, hb1⟩
  have HB := hideS hb1
  clear hb1
  go_wp2_with fail
  go_ret2
  exact ⟨rfl, HB.out⟩

set_option maxRecDepth 20000 in
set_option maxHeartbeats 6400000 in
theorem jNet_ok (l : List Flw) (p : Option Addr) (b off c N : Nat) (w : World) (hl : JSrc aF w p b off l) (hN : l.length = N) (hc : N ≤ 4096) (hf : FitJ l) (hE : ChkF l 0 0) :
    Calls Try.prog 6 #[.slice p N c] w fun e w' => ∃ S, KeyR l S ∧ LstO aF 36 (netN l S S.length) 91 w.heap.size e w' ∧ Below w.heap.size w w' := by
  have HC := hideS (jCheck_any l p b off c N 0 0 w hl hN (by omega) hf hE)
  have hk : ∀ i < N, KeyB (keyF (l.getD i flw0)) := fun i hi => badF_key (by
    cases hE with
    | fine _ h => exact h i (by omega)
    | bad _ k _ _ _ h0 _ => exact absurd rfl h0)
  have HSm := hideS fun wx (hb : Below w.heap.size w wx) => jSum_any l p b off c N wx (hl.below hb) hN hc hf hk
  have HSo := hideS fun wx w1 vk pb vv (h : SumS wx w1 vk (keysN l N) pb vv (fun x => sumN l x N) N (71 + N)) => jSortS (w := wx) (w1 := w1) (l := l) (vk := vk) (pb := pb) (vv := vv) (by rw [hN]; exact h) (by omega)
  have HN := hideS hN
  clear hl hN hf hE hk
  go_enter Try.func6, Try.ntmps6
  go_wp2_with fail
  refine HC.out.mono ?_
  rintro e w1 ⟨rfl, hb1⟩
  have HB1 := hideS hb1
  clear hb1
  go_wp2_with fail
  refine (HSm.out w1 HB1.out).mono ?_
  rintro e w2 ⟨vk, pb, vv, rfl, hs⟩
  obtain ⟨pk, g, m, ck, rfl, hpk, hm, hso⟩ := HSo.out w1 w2 vk pb vv hs
  have HSq := hideS hso
  have HPk := hideS hpk
  clear hs hso hpk HSm HSo HC
  go_wp2_with fail
  refine HSq.out.mono ?_
  rintro e w3 ⟨rfl, S, hS⟩
  have HS := hideS hS
  have HO0 := hideS (fown_nil aF w3 w3.heap.size 36)
  clear hS HSq
  go_wp2_with fail
  go_loopw [8, 29] (fun v i wr => ∃ (k : Nat) (L : List Flw), k ≤ m ∧ i = .int .i64 k ∧ Hid (netN l S k = some L) ∧ Hid (wr.ownsRow w3.heap.size 36 3 v k (rowF aF L)) ∧ Hid (Below w3.heap.size w3 wr)) (fun _ i _ => m - (intOf i).toNat)
  case atStart => exact ⟨0, [], Nat.zero_le _, rfl, rfl, HO0, Below.refl _ _⟩
  case round =>
    clear HO0
    obtain ⟨k, L, hk, rfl, HM, HO, HB⟩ := hrel
    by_cases hlt : k < m
    · obtain rfl := HPk.out (by omega)
      have HW := hideS (HS.out.row.stay HB.out HS.out.row.lt)
      obtain ⟨c0, c1⟩ := HW.out.cell k hlt
      have hx : S.getD k key0 ∈ keysN l l.length := (HS.out.key _).1 (by
        have : k < S.length := by rw [HS.out.row.len]; exact hlt
        rw [List.getD_eq_getElem?_getD, List.getElem?_eq_getElem this]
        exact List.getElem_mem this)
      have HSt := hideS (fun h => netN_stop (l := l) (S := S) (k := k) h m hlt)
      have HSu := hideS (fun f h => netN_succ (f := f) HM.out h)
      have HKB := hideS (setKy_box wr (S.getD k key0))
      obtain ⟨⟨m0, m1⟩, fm⟩ := zeroKy_cells wr
      have n0 := fm 0
      have n1 := fm 1
      clear fm
      have HBr := hideS (HB.out.trans (HKB.out.bl.mono HB.out.size))
      have HS5 := hideS (HS.out.map.wrote (A.wrote_below (F := fun _ => False) (HBr.out)) id)
      have HF5 := hideS (HS.out.fam.below HBr.out)
      have hlk0 := (HS5.out.there hx).2
      have HVl := hideS (A.value_any w1.heap.size _ _ (71 + l.length) _ _ (HF5.out.acc _ hx) (Nat.le_trans HS.out.bl.size HBr.out.size) (by have := HN.out; omega))
      have HNm : Hid (netO l (S.getD k key0) = if finB (A.valSt (sumN l (S.getD k key0) l.length)) then some ⟨(S.getD k key0).2, A.valSt (sumN l (S.getD k key0) l.length), (S.getD k key0).1⟩ else none) := rfl
      have HVu := hideS (valSt_ltJ (sumN l (S.getD k key0) l.length))
      try dsimp only at HVl
      generalize A.valSt (sumN l (S.getD k key0) l.length) = am at *
      obtain ⟨x, hxx⟩ : ∃ x, S.getD k key0 = x := ⟨_, rfl⟩
      rw [hxx] at c0 c1 HKB hlk0 HVl HNm HSt HSu HBr HF5 HS5
      clear hx hxx
      obtain ⟨qc, qd⟩ := x
      unfold keyV at hlk0
      try dsimp only at *
      obtain ⟨w4, hw4⟩ : ∃ w4, wr.alloc zeroKy = w4 := ⟨_, rfl⟩
      rw [hw4] at m0 m1 n0 n1 HKB HBr HF5 HS5 hlk0 HVl
      unfold zeroKy at hw4
      obtain ⟨w5, hw5⟩ : ∃ w5, setKy w4 wr.heap.size (qc, qd) = w5 := ⟨_, rfl⟩
      rw [hw5] at HKB HBr HF5 HS5 hlk0 HVl
      unfold setKy at hw5
      dsimp only at hw5
      have e0 := HKB.out.t0
      have e1 := HKB.out.t1
      dsimp only at e0 e1
      have HNn := hideS fun wx => jNum_any am wx (by have := HVu.out; unfold U64; omega)
      go_wp2_with fail
      clear hlk0 hw4 hw5 m0 m1 n0 n1 e0 e1 c0 c1
      refine HVl.out.mono ?_
      rintro e w6 ⟨rfl, hb6⟩
      have HK6 := hideS (HKB.out.step hb6)
      have HB6 := hideS (HKB.out.bl.trans (hb6.mono HKB.out.bl.size))
      have f0 := HK6.out.t0
      have f1 := HK6.out.t1
      dsimp only at f0 f1
      clear hb6 HVl
      cases hfa : finB am
      · rw [hfa] at HNn HNm
        have HE : Hid (∃ S, KeyR l S ∧ LstO aF 36 (netN l S S.length) 91 w.heap.size (.returned (.tuple #[.slice none 0 0, .int .i64 91])) w6 ∧ Below w.heap.size w w6) := by
          refine ⟨S, HS.out.keyR, Or.inl ⟨?_, rfl⟩, ?_⟩
          · rw [HS.out.row.len]; exact HSt.out HNm.out
          · have h3 := HS.out.bl.trans (HB.out.mono HS.out.bl.size)
            exact HB1.out.trans ((h3.trans (HB6.out.mono h3.size)).mono HB1.out.size)
        clear hfa
        go_wp2_with fail
        refine (turned (HNn.out _)).mono ?_
        rintro e w7 ⟨rfl, rfl⟩
        go_wp2_with fail
        go_ret2
        exact HE.out
      · rw [hfa] at HNn HNm
        have HG := hideS (HSu.out _ HNm.out)
        have HBw := hideS (HB6.out.trans (((Below.refl w6.heap.size w6).alloc (Nat.le_refl _) (.cells #[.int .i64 qd, .float .f64 am, .int .i64 qc] 36)).mono HB6.out.size))
        have HO4 := hideS (fown_below HO.out HBw.out)
        have HFc := hideS (fcells_new w6 ⟨qd, am, qc⟩)
        have HB4 := hideS (HB.out.trans (HBw.out.mono HB.out.size))
        clear hfa
        go_wp2_with fail
        refine (turned (HNn.out _)).mono ?_
        rintro e w7 ⟨rfl, rfl⟩
        go_wp2_with (at_builtin; refine wpList_append_f1 _ rfl (.tmp 40) (.tmp 47) rfl w3.heap.size u8 k L rfl HO4.out HB4.out.size w6.heap.size ⟨qd, am, qc⟩ rfl HFc.out (by omega) ?_; intro v8 w8 ho8 hb8; have HB8 := hideS (HB4.out.trans hb8); have HO8 := hideS ho8; clear ho8 hb8)
        go_roundw
        case rel => exact ⟨k + 1, _, by omega, by go_num, HG, HO8, HB8⟩
        case measure => simp [intOf]; omega
    · obtain rfl : k = m := by omega
      go_wp2_with fail
      go_ret2
      refine ⟨S, HS.out.keyR, ?_, HB1.out.trans ((HS.out.bl.trans (HB.out.mono HS.out.bl.size)).mono HB1.out.size)⟩
      rw [HS.out.row.len, HM.out]
      refine Or.inr ⟨L, _, rfl, rfl, ?_⟩
      rw [netN_len HM.out]
      exact fown_mono HO.out (Nat.le_trans HB1.out.size HS.out.bl.size)
end Go.Proofs.Ythddhgjfboeggaa
namespace Go.Proofs.Ythddhgjfboeggaa
open Go.RowKit

/-- What the amounts of one key come to, in units. -/
def usI (u : Nat → Int) (x : Int × Int) : List Flw → Int
  | [] => 0
  | f :: l => (if keyF f = x then u f.am else 0) + usI u x l
theorem usI_cons (u : Nat → Int) (x : Int × Int) (f : Flw) (l : List Flw) : usI u x (f :: l) = (if keyF f = x then u f.am else 0) + usI u x l := rfl
theorem usI_append (u : Nat → Int) (x : Int × Int) : ∀ a b : List Flw, usI u x (a ++ b) = usI u x a + usI u x b
  | [], b => by rw [List.nil_append, show usI u x [] = 0 from rfl, Int.zero_add]
  | f :: a, b => by rw [List.cons_append, usI_cons, usI_cons, usI_append u x a b, Int.add_assoc]
theorem usI_perm (u : Nat → Int) (x : Int × Int) {a b : List Flw} (h : a.Perm b) : usI u x a = usI u x b := by
  induction h with
  | nil => rfl
  | cons f _ ih => rw [usI_cons, usI_cons, ih]
  | swap f g l => rw [usI_cons, usI_cons, usI_cons, usI_cons]; omega
  | trans _ _ h1 h2 => exact h1.trans h2
def FinL (l : List Flw) : Prop := ∀ f ∈ l, finB (f.am : Nat) = true ∧ f.am < 18446744073709551616
/-- The units of an amount. -/
def uA (b : Nat) : Int := A.unitI (b : Int)
theorem one_fin {b : Nat} (h : finB (b : Int) = true) (hb : b < 18446744073709551616) : A.oneS (b : Int) = ⟨0, uA b⟩ := by
  unfold A.oneS uA
  rw [(spl_vI hb (numB_fin h)).1, if_pos rfl]
theorem uA_vI {b K : Nat} (hK : K = 1074) (hb : b < 18446744073709551616) (h : NumB b) : uA b = vI b * ((2 ^ K : Nat) : Int) := by unfold uA; exact unit_vN hK hb h
theorem take_get {l : List Flw} {k : Nat} (hk : k < l.length) : l.take (k + 1) = l.take k ++ [l.getD k flw0] := by
  rw [List.take_add_one, List.getD_eq_getElem?_getD, List.getElem?_eq_getElem hk]; rfl
theorem get_mem {l : List Flw} {k : Nat} (hk : k < l.length) : l.getD k flw0 ∈ l := by
  rw [List.getD_eq_getElem?_getD, List.getElem?_eq_getElem hk]; exact List.getElem_mem hk
theorem merge_00 (N M : Int) : (⟨0, N⟩ : A.St).merge ⟨0, M⟩ = ⟨0, N + M⟩ := rfl
theorem sumN_succ (l : List Flw) (x : Int × Int) (k : Nat) : sumN l x (k + 1) = if keyF (l.getD k flw0) = x then (sumN l x k).merge (A.oneS (l.getD k flw0).am) else sumN l x k := rfl
theorem sum_us {l : List Flw} {u : Nat → Int} (hu : ∀ f ∈ l, A.oneS (f.am : Int) = ⟨0, u f.am⟩) (x : Int × Int) : ∀ k, k ≤ l.length → sumN l x k = ⟨0, usI u x (l.take k)⟩ := by
  intro k
  induction k with
  | zero => intro _; rw [List.take_zero]; rfl
  | succ k ih =>
    intro hk
    have hm := hu _ (get_mem (k := k) (by omega))
    rw [take_get (by omega), usI_append, sumN_succ, ih (by omega), hm, usI_cons, show usI u x [] = 0 from rfl, Int.add_zero]
    generalize usI u x (l.take k) = N
    by_cases h : keyF (l.getD k flw0) = x
    · rw [if_pos h, if_pos h, merge_00]
    · rw [if_neg h, if_neg h, Int.add_zero]
theorem valSt_00 (N : Int) : A.valSt ⟨0, N⟩ = valF N := by unfold A.valSt; rw [if_pos rfl]
theorem netA_us {l : List Flw} (hf : FinL l) (x : Int × Int) : netA l x = valF (usI uA x l) := by
  unfold netA
  rw [sum_us (u := uA) (fun f hm => one_fin (hf f hm).1 (hf f hm).2) x l.length (Nat.le_refl _), List.take_length, valSt_00]
/-- Units are whole multiples. -/
theorem us_mult {K : Nat} (hK : K = 1074) (x : Int × Int) : ∀ {l : List Flw}, FinL l → ∃ W : Int, usI uA x l = W * ((2 ^ K : Nat) : Int)
  | [], _ => ⟨0, by rw [Int.zero_mul]; rfl⟩
  | f :: l, h => by
    obtain ⟨W, hW⟩ := us_mult hK x (l := l) (fun g hg => h g (List.mem_cons_of_mem _ hg))
    have hm := h f (List.mem_cons_self ..)
    by_cases e : keyF f = x
    · refine ⟨vI f.am + W, ?_⟩
      rw [usI_cons, if_pos e, hW, uA_vI hK hm.2 (numB_fin hm.1), Int.add_mul]
    · refine ⟨W, ?_⟩
      rw [usI_cons, if_neg e, hW, Int.zero_add]
theorem val_zero : valF 0 = 0 := by unfold valF joinN; rw [if_pos rfl]
theorem val_pos {X r : Nat} (hX : 0 < X) (h : nearR X (-2148) = r) : valF (X : Int) = r := by
  unfold valF joinN
  rw [if_neg (by omega), if_neg (by omega), Int.natAbs_natCast]; exact h
theorem val_neg {X r b : Nat} (hX : 0 < X) (h : nearR X (-2148) = r) (hb : 9223372036854775808 + r = b) : valF (-(X : Int)) = b := by
  unfold valF joinN
  rw [if_neg (by omega), if_pos (by omega), Int.natAbs_neg, Int.natAbs_natCast, h]; exact hb
theorem vI_up {r : Nat} (h : r < 9223372036854775808) : vI r = (V r : Int) := by
  have e1 : r / 9223372036854775808 % 2 = 0 := by omega
  have e2 : r % 9223372036854775808 = r := by omega
  unfold vI
  rw [e1, e2, if_neg (by decide)]
theorem vI_dn {r b : Nat} (h : r < 9223372036854775808) (hb : 9223372036854775808 + r = b) : vI b = -(V r : Int) := by
  have e1 : b / 9223372036854775808 % 2 = 1 := by omega
  have e2 : b % 9223372036854775808 = r := by omega
  unfold vI
  rw [e1, e2, if_pos (by decide)]
theorem near_own {P K r : Nat} (hK : K = 1074) (hP : 2 ^ K = P) (hr : r < 9218868437227405312) : nearR (V r * P) (-2148) = r := by
  have := nearR_V hr K
  rw [show (-1074 - ((K : Nat) : Int)) = -2148 by omega, hP] at this
  exact this
theorem near_one {P K M : Nat} (hK : K = 1074) (hP : 2 ^ K = P) (hM : 1 ≤ M) : 1 ≤ nearR (M * P) (-2148) := by
  have h1 := near_own (r := 1) hK hP (by decide)
  have hv : V 1 = 1 := by decide
  rw [hv, Nat.one_mul] at h1
  have h2 := nearR_mono (-2148) (Nat.le_mul_of_pos_left P hM)
  rw [h1] at h2
  exact h2
theorem V_own {P K r : Nat} (hK : K = 1074) (hP : 2 ^ K = P) (hr : r < 9218868437227405312) (h1 : 1 ≤ r) : 0 < V r * P := by
  rcases Nat.eq_zero_or_pos (V r * P) with h | h
  · have := near_own hK hP hr
    rw [h, nearR_zero (by omega)] at this
    omega
  · exact h
theorem fin_up {r : Nat} (h : finB (r : Int) = true) (hr : r ≤ 9218868437227405312) : r < 9218868437227405312 := by
  unfold finB szI at h
  rw [decide_eq_true_eq] at h
  omega
theorem fin_dn {r b : Nat} (hb : 9223372036854775808 + r = b) (h : finB (b : Int) = true) (hr : r ≤ 9218868437227405312) : r < 9218868437227405312 := by
  unfold finB szI at h
  rw [decide_eq_true_eq] at h
  omega
theorem self_up {P K X b : Nat} (hK : K = 1074) (hP : 2 ^ K = P) (hX : 1 ≤ X) (hb : valF ((X * P : Nat) : Int) = b) (hf : finB (b : Int) = true) (hp : 0 < P) : valF (uA b) = b := by
  obtain ⟨r, hr⟩ : ∃ r, nearR (X * P) (-2148) = r := ⟨_, rfl⟩
  have h1 : 1 ≤ r := by rw [← hr]; exact near_one hK hP hX
  have ht : r ≤ 9218868437227405312 := by rw [← hr]; exact nearR_top _ _
  have e : b = r := by rw [← hb]; exact val_pos (Nat.mul_pos hX hp) hr
  subst e
  have hl := fin_up hf ht
  rw [uA_vI hK (by omega) (by unfold NumB; omega), hP, vI_up (by omega), show (V b : Int) * (P : Int) = ((V b * P : Nat) : Int) from (Int.natCast_mul _ _).symm]
  exact val_pos (V_own hK hP hl h1) (near_own hK hP hl)
theorem self_dn {P K X b : Nat} (hK : K = 1074) (hP : 2 ^ K = P) (hX : 1 ≤ X) (hb : valF (-((X * P : Nat) : Int)) = b) (hf : finB (b : Int) = true) (hp : 0 < P) : valF (uA b) = b := by
  obtain ⟨r, hr⟩ : ∃ r, nearR (X * P) (-2148) = r := ⟨_, rfl⟩
  have h1 : 1 ≤ r := by rw [← hr]; exact near_one hK hP hX
  have ht : r ≤ 9218868437227405312 := by rw [← hr]; exact nearR_top _ _
  obtain ⟨c, hc⟩ : ∃ c, 9223372036854775808 + r = c := ⟨_, rfl⟩
  have e : c = b := by rw [← hb]; exact (val_neg (Nat.mul_pos hX hp) hr hc).symm
  subst e
  have hl := fin_dn hc hf ht
  rw [uA_vI hK (by omega) (by unfold NumB; omega), hP, vI_dn (by omega) hc, Int.neg_mul, show (V r : Int) * (P : Int) = ((V r * P : Nat) : Int) from (Int.natCast_mul _ _).symm]
  exact val_neg (V_own hK hP hl h1) (near_own hK hP hl) hc
/-- A sum that was rounded is itself when it is rounded again. -/
theorem val_self {K b : Nat} (hK : K = 1074) (W : Int) (hb : valF (W * ((2 ^ K : Nat) : Int)) = b) (hf : finB (b : Int) = true) : valF (uA b) = b := by
  by_cases h0 : W = 0
  · subst h0
    rw [Int.zero_mul, val_zero] at hb
    subst hb
    have : uA 0 = 0 := by
      rw [uA_vI hK (by decide) (by unfold NumB; decide)]
      have : vI 0 = 0 := by decide
      rw [this, Int.zero_mul]
    rw [this, val_zero]
  · have hp : 0 < 2 ^ K := Nat.two_pow_pos K
    obtain ⟨P, hP⟩ : ∃ P, 2 ^ K = P := ⟨_, rfl⟩
    rw [hP] at hp hb
    by_cases hs : W < 0
    · obtain ⟨X, hX⟩ : ∃ X : Nat, W = -(X : Int) := ⟨W.natAbs, by omega⟩
      subst hX
      rw [Int.neg_mul, ← Int.natCast_mul] at hb
      exact self_dn hK hP (by omega) hb hf hp
    · obtain ⟨X, hX⟩ : ∃ X : Nat, W = (X : Int) := ⟨W.natAbs, by omega⟩
      subst hX
      rw [← Int.natCast_mul] at hb
      exact self_up hK hP (by omega) hb hf hp
theorem neg_if (b : Nat) (hb : b < 18446744073709551616) : Op.negFloat .f64 b = if b < 9223372036854775808 then 9223372036854775808 + b else b - 9223372036854775808 := by
  have := neg_wrd hb
  rw [this]
  unfold wrd sB
  by_cases h : b < 9223372036854775808
  · rw [if_pos h]
    have h1 : b / 9223372036854775808 % 2 = 0 := by omega
    simp only [h1]
    simp; omega
  · rw [if_neg h]
    have h1 : b / 9223372036854775808 % 2 = 1 := by omega
    simp only [h1]
    simp; omega
/-- An amount turned in sign. -/
theorem unit_neg {b : Nat} (hb : b < 18446744073709551616) (h : finB (b : Int) = true) : uA (Op.negFloat .f64 b) = -uA b := by
  obtain ⟨K, hK⟩ : ∃ K, K = 1074 := ⟨_, rfl⟩
  have hn := numB_fin h
  have hn2 : NumB (Op.negFloat .f64 b) := by
    rw [neg_if b hb]; unfold NumB at hn ⊢; split <;> omega
  have hl : Op.negFloat .f64 b < 18446744073709551616 := by rw [neg_if b hb]; split <;> omega
  rw [uA_vI hK hb hn, uA_vI hK hl hn2]
  have : vI (Op.negFloat .f64 b) = -vI b := by
    rw [neg_if b hb]
    unfold vI
    by_cases hs : b < 9223372036854775808
    · rw [if_pos hs, show (9223372036854775808 + b) / 9223372036854775808 % 2 = 1 by omega, show (9223372036854775808 + b) % 9223372036854775808 = b by omega, show b / 9223372036854775808 % 2 = 0 by omega, show b % 9223372036854775808 = b by omega]
      rfl
    · rw [if_neg hs, show (b - 9223372036854775808) / 9223372036854775808 % 2 = 0 by omega, show (b - 9223372036854775808) % 9223372036854775808 = b - 9223372036854775808 by omega, show b / 9223372036854775808 % 2 = 1 by omega, show b % 9223372036854775808 = b - 9223372036854775808 by omega]
      simp
  rw [this, Int.neg_mul]
theorem us_give (x : Int × Int) : ∀ {l : List Flw}, FinL l → usI uA x (l.map giveF) = -usI uA x l
  | [], _ => rfl
  | f :: l, h => by
    have hm := h f (List.mem_cons_self ..)
    have hk : keyF (giveF f) = keyF f := rfl
    have ha : (giveF f).am = Op.negFloat .f64 f.am := rfl
    rw [List.map_cons, usI_cons, usI_cons, us_give x (l := l) (fun g hg => h g (List.mem_cons_of_mem _ hg)), hk, ha, unit_neg hm.2 hm.1]
    generalize uA f.am = q
    split <;> omega
def leK (x y : Int × Int) : Bool := decide (x.1 < y.1 ∨ x.1 = y.1 ∧ x.2 ≤ y.2)
theorem keyR_ex (l : List Flw) : ∃ S, KeyR l S := by
  refine ⟨(keysN l l.length).mergeSort leK, ?_, fun x => ?_⟩
  · have h1 := List.pairwise_mergeSort (le := leK) (fun a b c h h' => by unfold leK at *; rw [decide_eq_true_eq] at *; omega) (fun a b => by unfold leK; rw [Bool.or_eq_true, decide_eq_true_eq, decide_eq_true_eq]; omega) (keysN l l.length)
    have h2 : ((keysN l l.length).mergeSort leK).Nodup := (List.mergeSort_perm _ _).nodup_iff.2 (keysN_nodup l l.length)
    refine (h1.and h2).imp ?_
    rintro ⟨a, b⟩ ⟨c, d⟩ ⟨h, hn⟩
    unfold leK at h
    rw [decide_eq_true_eq] at h
    have hn' : ¬ (a = c ∧ b = d) := fun ⟨e1, e2⟩ => hn (by rw [e1, e2])
    unfold ltK
    omega
  · rw [List.mem_mergeSort, keysN_mem]
/-- The keys, by their flows. -/
theorem keyR_mem {l : List Flw} {S : List (Int × Int)} (h : KeyR l S) (x : Int × Int) : x ∈ S ↔ ∃ f ∈ l, keyF f = x := by
  rw [h.mem]
  constructor
  · rintro ⟨i, hi, e⟩; exact ⟨_, get_mem hi, e⟩
  · rintro ⟨f, hf, e⟩
    obtain ⟨i, hi, ei⟩ := List.mem_iff_getElem.1 hf
    exact ⟨i, hi, by rw [List.getD_eq_getElem?_getD, List.getElem?_eq_getElem hi, ei]; exact e⟩
theorem keyR_of {l m : List Flw} {S : List (Int × Int)} (h : KeyR l S) (hm : ∀ x, (∃ f ∈ m, keyF f = x) ↔ x ∈ S) : KeyR m S := by
  refine ⟨h.rise, fun x => ?_⟩
  rw [← hm x]
  constructor
  · rintro ⟨f, hf, e⟩
    obtain ⟨i, hi, ei⟩ := List.mem_iff_getElem.1 hf
    exact ⟨i, hi, by rw [List.getD_eq_getElem?_getD, List.getElem?_eq_getElem hi, ei]; exact e⟩
  · rintro ⟨i, hi, e⟩; exact ⟨_, get_mem hi, e⟩
/-- Lists of one key's amounts alike are netted alike. -/
theorem net_alike {l m : List Flw} {S : List (Int × Int)} (h : ∀ x ∈ S, netA m x = netA l x) : ∀ k, k ≤ S.length → netN m S k = netN l S k
  | 0, _ => rfl
  | k + 1, hk => by
    have hx : S.getD k key0 ∈ S := by
      rw [List.getD_eq_getElem?_getD, List.getElem?_eq_getElem (show k < S.length by omega)]; exact List.getElem_mem _
    have e : netO m (S.getD k key0) = netO l (S.getD k key0) := by unfold netO netF; rw [h _ hx]
    show (netN m S k).bind _ = (netN l S k).bind _
    rw [net_alike h k (by omega), e]
theorem chk_all {l : List Flw} (h : ChkF l 0 0) : l.length ≤ 4096 ∧ ∀ f ∈ l, badF f = 0 := by
  cases h with
  | fine a b =>
    refine ⟨a, fun f hf => ?_⟩
    obtain ⟨i, hi, ei⟩ := List.mem_iff_getElem.1 hf
    have := b i hi
    rw [List.getD_eq_getElem?_getD, List.getElem?_eq_getElem hi, ei] at this
    exact this
  | bad _ k _ _ _ h0 _ => exact absurd rfl h0
theorem chk_of {l : List Flw} (h : l.length ≤ 4096) (hb : ∀ f ∈ l, badF f = 0) : ChkF l 0 0 := .fine h fun _ hi => hb _ (get_mem hi)
theorem badF_fin {f : Flw} (h : badF f = 0) : finB (f.am : Nat) = true ∧ (0 ≤ f.day ∧ f.day ≤ 109572) ∧ 1 ≤ f.cur ∧ f.cur ≤ 8 := by
  unfold badF at h
  split at h
  · cases h
  · split at h
    · cases h
    · split at h
      · cases h
      · rename_i a b c
        exact ⟨by simpa using b, by omega, by omega⟩
theorem fin_chk {l : List Flw} (h : ChkF l 0 0) (hf : FitJ l) : FinL l := fun f hm => by
  refine ⟨(badF_fin ((chk_all h).2 f hm)).1, ?_⟩
  obtain ⟨i, hi, ei⟩ := List.mem_iff_getElem.1 hm
  have := hf i
  rw [List.getD_eq_getElem?_getD, List.getElem?_eq_getElem hi, ei] at this
  exact this
theorem fit_perm {l m : List Flw} (hp : m.Perm l) (hf : FitJ l) : FitJ m := fun i => by
  by_cases hi : i < m.length
  · have hm : m.getD i flw0 ∈ l := hp.mem_iff.1 (get_mem hi)
    obtain ⟨j, hj, ej⟩ := List.mem_iff_getElem.1 hm
    have := hf j
    rw [List.getD_eq_getElem?_getD, List.getElem?_eq_getElem hj] at this
    rw [← ej]; exact this
  · rw [List.getD_eq_getElem?_getD, List.getElem?_eq_none (by omega)]; decide
/-- In another order. -/
theorem net_perm {l m : List Flw} {S : List (Int × Int)} (hp : m.Perm l) (h : ChkF l 0 0) (hf : FitJ l) (hS : KeyR l S) : ChkF m 0 0 ∧ KeyR m S ∧ netN m S S.length = netN l S S.length := by
  have hc := chk_all h
  have hcm : ChkF m 0 0 := chk_of (by rw [hp.length_eq]; exact hc.1) (fun f hm => hc.2 f (hp.mem_iff.1 hm))
  refine ⟨hcm, keyR_of hS (fun x => ?_), net_alike (fun x _ => ?_) _ (Nat.le_refl _)⟩
  · rw [keyR_mem hS]
    constructor
    · rintro ⟨f, a, b⟩; exact ⟨f, hp.mem_iff.1 a, b⟩
    · rintro ⟨f, a, b⟩; exact ⟨f, hp.mem_iff.2 a, b⟩
  · rw [netA_us (fin_chk hcm (fit_perm hp hf)), netA_us (fin_chk h hf), usI_perm uA x hp]
theorem chk_perm {l m : List Flw} {E K : Int} (hp : m.Perm l) (h : ChkF l E K) (h0 : E ≠ 0) : ∃ E' K', ChkF m E' K' ∧ E' ≠ 0 := by
  obtain ⟨E', K', h'⟩ := chkF_ex m
  refine ⟨E', K', h', fun e => ?_⟩
  subst e
  have hz : K' = 0 := by
    cases h' with
    | fine => rfl
    | bad _ k _ _ _ h0 _ => exact absurd rfl h0
  subst hz
  have hc := chk_all h'
  cases h with
  | many hm => have := hp.length_eq; omega
  | fine => exact h0 rfl
  | bad _ k hk e he h0 _ => exact h0 (by rw [← he]; exact hc.2 _ (hp.mem_iff.2 (get_mem hk)))
theorem netN_mapJ {l : List Flw} {S : List (Int × Int)} : ∀ {k : Nat} {m : List Flw}, k ≤ S.length → netN l S k = some m → m = (S.take k).map (netF l) ∧ ∀ f ∈ m, finB (f.am : Nat) = true
  | 0, m, _, h => by
    obtain rfl := Option.some.inj h
    exact ⟨rfl, fun f hf => by cases hf⟩
  | k + 1, m, hk, h => by
    cases e : netN l S k with
    | none =>
      have : netN l S (k + 1) = none := by unfold netN; rw [e]; rfl
      rw [this] at h; cases h
    | some m0 =>
      obtain ⟨h1, h2⟩ := netN_mapJ (by omega) e
      cases eo : netO l (S.getD k key0) with
      | none => rw [netN_stop eo _ (Nat.lt_succ_self k)] at h; cases h
      | some f =>
        rw [netN_succ e eo] at h
        obtain rfl := Option.some.inj h
        have hfin : f = netF l (S.getD k key0) ∧ finB (f.am : Nat) = true := by
          unfold netO at eo
          split at eo
          · rename_i hh; obtain rfl := Option.some.inj eo; exact ⟨rfl, hh⟩
          · cases eo
        refine ⟨?_, fun g hg => ?_⟩
        · rw [h1, List.take_add_one, List.map_append, hfin.1, List.getD_eq_getElem?_getD, List.getElem?_eq_getElem (show k < S.length by omega)]; rfl
        · rcases List.mem_append.1 hg with hg | hg
          · exact h2 g hg
          · rw [List.mem_singleton.1 hg]; exact hfin.2
theorem us_keys (u : Nat → Int) (n : Int × Int → Nat) (x : Int × Int) : ∀ {S : List (Int × Int)}, S.Nodup → usI u x (S.map fun y => (⟨y.2, n y, y.1⟩ : Flw)) = if x ∈ S then u (n x) else 0
  | [], _ => rfl
  | y :: S, h => by
    have hn := List.nodup_cons.1 h
    have hk : keyF (⟨y.2, n y, y.1⟩ : Flw) = y := rfl
    rw [List.map_cons, usI_cons, us_keys u n x hn.2, hk]
    by_cases e : y = x
    · subst e
      rw [if_pos rfl, if_neg hn.1, if_pos (List.mem_cons_self ..), Int.add_zero]
    · rw [if_neg e, Int.zero_add]
      by_cases hm : x ∈ S
      · rw [if_pos hm, if_pos (List.mem_cons_of_mem _ hm)]
      · rw [if_neg hm, if_neg (fun h => (List.mem_cons.1 h).elim (fun h => e h.symm) hm)]
theorem netF_map (l : List Flw) (S : List (Int × Int)) : S.map (netF l) = S.map fun y => (⟨y.2, netA l y, y.1⟩ : Flw) := rfl
/-- What is netted, netted again. -/
theorem net_twice {l m : List Flw} {S : List (Int × Int)} (h : ChkF l 0 0) (hf : FitJ l) (hS : KeyR l S) (hm : netN l S S.length = some m) : ChkF m 0 0 ∧ FitJ m ∧ KeyR m S ∧ netN m S S.length = some m ∧ m.length = S.length ∧ S.length ≤ l.length ∧ ∀ i < S.length, keyF (m.getD i flw0) = S.getD i key0 := by
  obtain ⟨K, hK⟩ : ∃ K, K = 1074 := ⟨_, rfl⟩
  have hc := chk_all h
  obtain ⟨e, hfin⟩ := netN_mapJ (Nat.le_refl _) hm
  rw [List.take_length] at e
  have hlen : m.length = S.length := by rw [e, List.length_map]
  have hSl : S.length ≤ l.length := by
    have hk : S.Perm (keysN l l.length) := by
      refine (List.perm_ext_iff_of_nodup hS.len (keysN_nodup l l.length)).2 (fun x => ?_)
      rw [hS.mem, keysN_mem]
    rw [hk.length_eq]; exact keysN_len l l.length
  have hkey : ∀ i < S.length, keyF (m.getD i flw0) = S.getD i key0 := fun i hi => by
    rw [e, List.getD_eq_getElem?_getD, List.getElem?_map, List.getD_eq_getElem?_getD, List.getElem?_eq_getElem hi]; rfl
  have hcm : ChkF m 0 0 := chk_of (by omega) (fun f hfm => by
    have hfi := hfin f hfm
    rw [e] at hfm
    obtain ⟨x, hx, ex⟩ := List.mem_map.1 hfm
    obtain ⟨g, hg, eg⟩ := (keyR_mem hS x).1 hx
    have hb := badF_fin (hc.2 g hg)
    rw [← ex] at hfi ⊢
    unfold badF
    have e1 : (netF l x).day = g.day := by rw [← eg]; rfl
    have e2 : (netF l x).cur = g.cur := by rw [← eg]; rfl
    rw [e1, e2, hfi, if_neg (by omega), if_neg (by decide), if_neg (by omega)])
  have hfm : FitJ m := fun i => by
    by_cases hi : i < m.length
    · have hx := get_mem hi
      rw [e] at hx
      obtain ⟨x, _, ex⟩ := List.mem_map.1 hx
      rw [e, ← ex]
      show netA l x < _
      unfold netA
      exact valSt_ltJ _
    · rw [List.getD_eq_getElem?_getD, List.getElem?_eq_none (by omega)]; decide
  refine ⟨hcm, hfm, keyR_of hS (fun x => ?_), ?_, hlen, hSl, hkey⟩
  · constructor
    · rintro ⟨f, a, b⟩
      rw [e] at a
      obtain ⟨y, hy, ey⟩ := List.mem_map.1 a
      rw [← ey] at b
      have : y = x := b
      rw [← this]; exact hy
    · intro hx
      exact ⟨netF l x, by rw [e]; exact List.mem_map.2 ⟨x, hx, rfl⟩, rfl⟩
  · refine (net_alike (fun x hx => ?_) _ (Nat.le_refl _)).trans hm
    rw [netA_us (fin_chk hcm hfm), e, netF_map, us_keys uA (netA l) x hS.len, if_pos hx, netA_us (fin_chk h hf)]
    obtain ⟨W, hW⟩ := us_mult hK x (fin_chk h hf)
    have hin : netF l x ∈ m := by rw [e]; exact List.mem_map.2 ⟨x, hx, rfl⟩
    have hh : finB (((netF l x).am : Nat) : Int) = true := hfin _ hin
    have ha : (netF l x).am = netA l x := rfl
    rw [ha, netA_us (fin_chk h hf)] at hh
    exact val_self hK W (by rw [hW]) hh
theorem map_getD_give {l : List Flw} : ∀ f ∈ l.map giveF, ∃ g ∈ l, f = giveF g := fun f hf => by
  obtain ⟨g, a, b⟩ := List.mem_map.1 hf
  exact ⟨g, a, b.symm⟩
/-- A list and what is given, netted: noughts. -/
theorem net_gone {l : List Flw} {S : List (Int × Int)} (h : ChkF l 0 0) (hf : FitJ l) (hS : KeyR l S) (hl : l.length ≤ 120) : ChkF (l ++ l.map giveF) 0 0 ∧ FitJ (l ++ l.map giveF) ∧ KeyR (l ++ l.map giveF) S ∧ netN (l ++ l.map giveF) S S.length = some (S.map fun x => ⟨x.2, 0, x.1⟩) := by
  have hc := chk_all h
  have hF := fin_chk h hf
  have hgb : ∀ f ∈ l, badF (giveF f) = 0 := fun f hm => by
    obtain ⟨a, b, c⟩ := badF_fin (hc.2 f hm)
    have := neg_ltJ a (hF f hm).2
    unfold badF
    rw [show (giveF f).day = f.day from rfl, show (giveF f).cur = f.cur from rfl, show (giveF f).am = Op.negFloat .f64 f.am from rfl, this, if_neg (by omega), if_neg (by decide), if_neg (by omega)]
  have hcA : ChkF (l ++ l.map giveF) 0 0 := chk_of (by rw [List.length_append, List.length_map]; omega) (fun f hm => by
    rcases List.mem_append.1 hm with hm | hm
    · exact hc.2 f hm
    · obtain ⟨g, a, rfl⟩ := map_getD_give f hm
      exact hgb g a)
  have hfl : ∀ f ∈ l, Op.negFloat .f64 f.am < 18446744073709551616 := fun f hm => by
    rw [neg_if _ (hF f hm).2]
    have := (hF f hm).2
    split <;> omega
  have hfA : FitJ (l ++ l.map giveF) := fun i => by
    by_cases hi : i < (l ++ l.map giveF).length
    · have hx := get_mem hi
      rcases List.mem_append.1 hx with hm | hm
      · exact (hF _ hm).2
      · obtain ⟨g, a, e⟩ := map_getD_give _ hm
        rw [e]; exact hfl g a
    · rw [List.getD_eq_getElem?_getD, List.getElem?_eq_none (by omega)]; decide
  refine ⟨hcA, hfA, keyR_of hS (fun x => ?_), ?_⟩
  · rw [keyR_mem hS]
    constructor
    · rintro ⟨f, a, b⟩
      rcases List.mem_append.1 a with a | a
      · exact ⟨f, a, b⟩
      · obtain ⟨g, c, rfl⟩ := map_getD_give f a
        exact ⟨g, c, b⟩
    · rintro ⟨f, a, b⟩; exact ⟨f, List.mem_append_left _ a, b⟩
  · have hz : ∀ x, netA (l ++ l.map giveF) x = 0 := fun x => by
      rw [netA_us (fin_chk hcA hfA), usI_append, us_give x hF, Int.add_right_neg, val_zero]
    have : ∀ k, k ≤ S.length → netN (l ++ l.map giveF) S k = some ((S.take k).map fun x => (⟨x.2, 0, x.1⟩ : Flw)) := by
      intro k
      induction k with
      | zero => intro _; rfl
      | succ k ih =>
        intro hk
        have eo : netO (l ++ l.map giveF) (S.getD k key0) = some ⟨(S.getD k key0).2, 0, (S.getD k key0).1⟩ := by
          unfold netO netF
          rw [hz, if_pos (by decide)]
        rw [netN_succ (ih (by omega)) eo, List.take_add_one, List.map_append, List.getD_eq_getElem?_getD, List.getElem?_eq_getElem (show k < S.length by omega)]; rfl
    rw [this S.length (Nat.le_refl _), List.take_length]
end Go.Proofs.Ythddhgjfboeggaa
namespace Go.Proofs.Ythddhgjfboeggaa
open Go.RowKit

def awL : List Flw := [⟨5, 4613937818241073152, 2⟩, ⟨5, 4607182418800017408, 1⟩, ⟨5, 4611686018427387904, 1⟩]
def awObj : Obj := .cells #[.int .i64 5, .float .f64 4613937818241073152, .int .i64 2, .int .i64 5, .float .f64 4607182418800017408, .int .i64 1, .int .i64 5, .float .f64 4611686018427387904, .int .i64 1] 36
theorem awL_src (w : World) : JSrc aF (w.alloc awObj) (some ⟨w.heap.size, 0, none⟩) w.heap.size 0 awL := by
  have h := heap_alloc_new w awObj
  refine ⟨fun _ => rfl, fun _ => (Array.getElem?_eq_some_iff.1 h).1, fun i hi => ?_⟩
  have hi3 : i < 3 := hi
  unfold awObj at h
  rcases (show i = 0 ∨ i = 1 ∨ i = 2 by omega) with rfl | rfl | rfl
  all_goals
    refine ⟨?_, ?_, ?_⟩
    all_goals
      simp only [World.cell?, h, awObj, Option.isSome_none, Bool.false_eq_true, if_false]
      rfl
theorem awL_fit : FitJ awL := fun i => by
  rcases (show i = 0 ∨ i = 1 ∨ i = 2 ∨ 3 ≤ i by omega) with rfl | rfl | rfl | h
  · decide
  · decide
  · decide
  · rw [List.getD_eq_getElem?_getD, List.getElem?_eq_none (by exact h)]; decide
theorem awL_chk : ChkF awL 0 0 := .fine (by decide) (fun i hi => by
  have hi3 : i < 3 := hi
  rcases (show i = 0 ∨ i = 1 ∨ i = 2 by omega) with rfl | rfl | rfl <;> decide)
theorem awL_key : KeyR awL [(1, 5), (2, 5)] := by
  refine ⟨?_, fun x => ?_⟩
  · simp [ltK]
  · constructor
    · intro h
      simp only [List.mem_cons, List.not_mem_nil, or_false] at h
      rcases h with rfl | rfl
      · exact ⟨1, by decide, rfl⟩
      · exact ⟨0, by decide, rfl⟩
    · rintro ⟨i, hi, rfl⟩
      have hi3 : i < 3 := hi
      rcases (show i = 0 ∨ i = 1 ∨ i = 2 by omega) with rfl | rfl | rfl <;> simp [keyF, awL]
def unitJ (u : Int) : Int := splM u * ((2 ^ (splE u + 2148).toNat : Nat) : Int)
theorem unitJ_eq (u : Int) : A.unitI u = unitJ u := by unfold A.unitI unitJ; rw [Int.natCast_pow]; rfl
def oneJ (u : Int) : A.St := if splOk u then ⟨0, unitJ u⟩ else ⟨A.endN u, 0⟩
theorem oneJ_eq (u : Int) : A.oneS u = oneJ u := by unfold A.oneS oneJ; rw [unitJ_eq]
theorem awL_one : netA awL (1, 5) = 4613937818241073152 := by
  have h : sumN awL (1, 5) awL.length = ((⟨0, 0⟩ : A.St).merge (oneJ (4607182418800017408 : Nat))).merge (oneJ (4611686018427387904 : Nat)) := by
    rw [← oneJ_eq, ← oneJ_eq]; rfl
  have e : A.valSt (((⟨0, 0⟩ : A.St).merge (oneJ (4607182418800017408 : Nat))).merge (oneJ (4611686018427387904 : Nat))) = 4613937818241073152 := by kernel_rfl
  unfold netA
  rw [h]; exact e
theorem awL_two : netA awL (2, 5) = 4613937818241073152 := by
  have h : sumN awL (2, 5) awL.length = (⟨0, 0⟩ : A.St).merge (oneJ (4613937818241073152 : Nat)) := by
    rw [← oneJ_eq]; rfl
  have e : A.valSt ((⟨0, 0⟩ : A.St).merge (oneJ (4613937818241073152 : Nat))) = 4613937818241073152 := by kernel_rfl
  unfold netA
  rw [h]; exact e
theorem fin_three : finB ((4613937818241073152 : Nat) : Int) = true := by decide
theorem awL_net : netN awL [(1, 5), (2, 5)] 2 = some [⟨5, 4613937818241073152, 1⟩, ⟨5, 4613937818241073152, 2⟩] := by
  have o1 : netO awL (1, 5) = some ⟨5, 4613937818241073152, 1⟩ := by unfold netO netF; rw [awL_one, fin_three, if_pos rfl]
  have o2 : netO awL (2, 5) = some ⟨5, 4613937818241073152, 2⟩ := by unfold netO netF; rw [awL_two, fin_three, if_pos rfl]
  have e0 : ([(1, 5), (2, 5)] : List (Int × Int)).getD 0 key0 = (1, 5) := rfl
  have e1 : ([(1, 5), (2, 5)] : List (Int × Int)).getD 1 key0 = (2, 5) := rfl
  have z : netN awL [(1, 5), (2, 5)] 0 = some [] := by unfold netN; rfl
  rw [← e0] at o1
  rw [← e1] at o2
  exact netN_succ (netN_succ z o1) o2
theorem awL_scl : sclL 4611686018427387904 awL = some [⟨5, 4618441417868443648, 2⟩, ⟨5, 4611686018427387904, 1⟩, ⟨5, 4616189618054758400, 1⟩] := by kernel_rfl
theorem awL_give : awL.map giveF = [⟨5, 13837309855095848960, 2⟩, ⟨5, 13830554455654793216, 1⟩, ⟨5, 13835058055282163712, 1⟩] := by kernel_rfl
theorem awL_win : (awL.filter (winF 5 6)).length = 3 ∧ (awL.filter (winF 6 9)).length = 0 := ⟨by decide, by decide⟩

theorem eqlFl (w : World) : (binOp .eql 36 (.agg #[.int .i64 5, .float .f64 4613937818241073152, .int .i64 1]) (.agg #[.int .i64 5, .float .f64 4613937818241073152, .int .i64 1])).run Try.prog w = .ok (.bool true) w := by kernel_rfl
set_option maxRecDepth 20000 in
set_option maxHeartbeats 6400000 in
theorem awake14 (w : World) : Calls Try.prog 5 #[] w fun e w' => e = .returned (.bool true) ∧ Below w.heap.size w w' := by
  have H0 := hideS ((Below.refl _ w).alloc (Nat.le_refl _) awObj)
  have HSr := hideS (awL_src w)
  obtain ⟨w1, hw1⟩ : ∃ w1, w.alloc awObj = w1 := ⟨_, rfl⟩
  rw [hw1] at H0 HSr
  have HNe := hideS (jNet_ok awL (some ⟨w.heap.size, 0, none⟩) w.heap.size 0 3 3 w1 HSr.out rfl (by decide) awL_fit awL_chk)
  have HGi := hideS fun wx (hb : Below w1.heap.size w1 wx) => jGive_any awL (some ⟨w.heap.size, 0, none⟩) w.heap.size 0 3 3 wx (HSr.out.below hb) rfl (by decide)
  have HSc := hideS fun wx (hb : Below w1.heap.size w1 wx) => jScale_any awL (some ⟨w.heap.size, 0, none⟩) w.heap.size 0 3 3 4611686018427387904 wx (HSr.out.below hb) rfl (by decide) (by decide) awL_fit
  have HWa := hideS fun wx (hb : Below w1.heap.size w1 wx) => jWindow_any awL (some ⟨w.heap.size, 0, none⟩) w.heap.size 0 3 3 5 6 wx (HSr.out.below hb) rfl (by decide)
  have HWb := hideS fun wx (hb : Below w1.heap.size w1 wx) => jWindow_any awL (some ⟨w.heap.size, 0, none⟩) w.heap.size 0 3 3 6 9 wx (HSr.out.below hb) rfl (by decide)
  unfold awObj at hw1
  go_enter Try.func5, Try.ntmps5
  go_wp2_with fail
  refine HNe.out.mono ?_
  rintro e w2 ⟨S, hS, hL, hb2⟩
  rw [hS.unique awL_key, show [((1 : Int), (5 : Int)), (2, 5)].length = 2 from rfl, awL_net] at hL
  rcases hL with ⟨h, _⟩ | ⟨m, u, h, rfl, ho⟩
  · cases h
  obtain rfl := Option.some.inj h
  obtain ⟨pa, ga, ca, rfl, sa, _, _, _⟩ := fown_src ho rfl
  clear h ho hS HNe
  obtain rfl := sa.at_ (by decide)
  have HSa := hideS sa
  have HB2 := hideS hb2
  clear hb2 sa
  go_wp2_with fail
  refine (HGi.out w2 HB2.out).mono ?_
  rintro e w3 ⟨⟨u, rfl, ho⟩, hb3⟩
  rw [awL_give] at ho
  obtain ⟨pg, gg, cg, rfl, sg, _, _, _⟩ := fown_src ho rfl
  obtain rfl := sg.at_ (by decide)
  have HSa3 := hideS (HSa.out.below hb3)
  have HSg := hideS sg
  have HB3 := hideS (HB2.out.trans (hb3.mono HB2.out.size))
  clear ho hb3 sg HSa HGi
  go_wp2_with fail
  refine (HSc.out w3 HB3.out).mono ?_
  rintro e w4 ⟨hL, hb4⟩
  rw [awL_scl] at hL
  rcases hL with ⟨h, _⟩ | ⟨m, u, h, rfl, ho⟩
  · cases h
  obtain rfl := Option.some.inj h
  obtain ⟨ps, gs, cs, rfl, ss, _, _, _⟩ := fown_src ho rfl
  obtain rfl := ss.at_ (by decide)
  have HSa4 := hideS (HSa3.out.below hb4)
  have HSg4 := hideS (HSg.out.below hb4)
  have HSs := hideS ss
  have HB4 := hideS (HB3.out.trans (hb4.mono HB3.out.size))
  clear ho hb4 ss HSa3 HSg HSc h
  have a0 : w4.cell? ⟨ga, 0, none⟩ = some (.int .i64 5) := (HSa4.out.cell 0 (by decide)).c0
  have a1 : w4.cell? ⟨ga, 1, none⟩ = some (.float .f64 4613937818241073152) := (HSa4.out.cell 0 (by decide)).c1
  have a2 : w4.cell? ⟨ga, 2, none⟩ = some (.int .i64 1) := (HSa4.out.cell 0 (by decide)).c2
  have g1 : w4.cell? ⟨gg, 1, none⟩ = some (.float .f64 13837309855095848960) := (HSg4.out.cell 0 (by decide)).c1
  have s1 : w4.cell? ⟨gs, 7, none⟩ = some (.float .f64 4616189618054758400) := (HSs.out.cell 2 (by decide)).c1
  clear HSa4 HSg4 HSs
  have heq := eqlFl
  have q1 : (FloatKind.f64.format.order 13837309855095848960 13837309855095848960 == some .eq) = true := by kernel_rfl
  have q2 : (FloatKind.f64.format.order 4616189618054758400 4616189618054758400 == some .eq) = true := by kernel_rfl
  go_wp2_with fail
  refine (HWa.out w4 HB4.out).mono ?_
  rintro e w5 ⟨⟨u, rfl, ho⟩, hb5⟩
  obtain ⟨px, gx, cx, rfl, _, _, _, _⟩ := fown_src ho rfl
  have HB5 := hideS (HB4.out.trans (hb5.mono HB4.out.size))
  rw [awL_win.1]
  clear ho hb5
  go_wp2_with fail
  refine (HWb.out w5 HB5.out).mono ?_
  rintro e w6 ⟨⟨u, rfl, ho⟩, hb6⟩
  obtain ⟨py, gy, cy, rfl, _, _, _, _⟩ := fown_src ho rfl
  have HB6 := hideS (HB5.out.trans (hb6.mono HB5.out.size))
  rw [awL_win.2]
  clear ho hb6
  go_wp2_with fail
  go_ret
  exact ⟨rfl, H0.out.trans (HB6.out.mono H0.out.size)⟩
end Go.Proofs.Ythddhgjfboeggaa
