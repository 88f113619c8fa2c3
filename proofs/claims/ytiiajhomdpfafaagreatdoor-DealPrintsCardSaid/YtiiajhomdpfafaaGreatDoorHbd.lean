/- Package deal: a tree is measured, whatever it is. The document's way to tell whether a list of terms is a tree: where each term's part begins, and how deep it is; against the stack of loose terms. No word of a program. Package deal: Check and Depth of any list of terms. Package deal: a term without parts is read, of any closed text, behind any terms. -/
import Derived.Test.YtiiajhomdpfafaaGreatDoorHba
import Derived.Test.YtiiajhomdpfafaaGreatDoorHbc
import Derived.Test.YtiiajhomdpfafaaGreatDoorRwJ
namespace Go.Proofs.YtiiajhomdpfafaaGreatDoor
open Go.RowKit

structure TSrc (w : World) (p : Option Addr) (b off : Nat) (ts : List Trm) : Prop where
  at_ : 0 < ts.length → p = some ⟨b, off, none⟩
  lt : 0 < ts.length → b < w.heap.size
  c0 : ∀ i < ts.length, w.cell? ⟨b, off + i * 11, none⟩ = some (.int .i64 (ts.getD i trm0).kind)
  c1 : ∀ i < ts.length, w.cell? ⟨b, off + i * 11 + 1, none⟩ = some (.int .i64 (ts.getD i trm0).a)
  c2 : ∀ i < ts.length, w.cell? ⟨b, off + i * 11 + 2, none⟩ = some (.int .i64 (ts.getD i trm0).b)
  c3 : ∀ i < ts.length, w.cell? ⟨b, off + i * 11 + 3, none⟩ = some (.float .f64 (ts.getD i trm0).x)
  c4 : ∀ i < ts.length, w.cell? ⟨b, off + i * 11 + 4, none⟩ = some (.float .f64 (ts.getD i trm0).y)
  c5 : ∀ i < ts.length, w.cell? ⟨b, off + i * 11 + 5, none⟩ = some (.int .i64 (ts.getD i trm0).day)
  c6 : ∀ i < ts.length, w.cell? ⟨b, off + i * 11 + 6, none⟩ = some (.int .i64 (ts.getD i trm0).to)
  c7 : ∀ i < ts.length, w.cell? ⟨b, off + i * 11 + 7, none⟩ = some (.int .i64 (ts.getD i trm0).cur)
  c8 : ∀ i < ts.length, w.cell? ⟨b, off + i * 11 + 8, none⟩ = some (.int .i64 (ts.getD i trm0).count)
  c9 : ∀ i < ts.length, w.cell? ⟨b, off + i * 11 + 9, none⟩ = some (.int .i64 (ts.getD i trm0).n)
  c10 : ∀ i < ts.length, w.cell? ⟨b, off + i * 11 + 10, none⟩ = some (.int .i64 (ts.getD i trm0).months)
theorem TSrc.below {w w' : World} {p : Option Addr} {b off : Nat} {ts : List Trm} (h : TSrc w p b off ts) (hb : Below w.heap.size w w') : TSrc w' p b off ts := by
  have k : ∀ i, i < ts.length → ∀ j, w'.cell? ⟨b, j, none⟩ = w.cell? ⟨b, j, none⟩ := fun i hi j => World.cell?_of_block (w := w) (a := ⟨b, j, none⟩) (hb.block b (h.lt (by omega)))
  exact ⟨h.at_, fun hn => Nat.lt_of_lt_of_le (h.lt hn) hb.size, fun i hi => (k i hi _).trans (h.c0 i hi), fun i hi => (k i hi _).trans (h.c1 i hi), fun i hi => (k i hi _).trans (h.c2 i hi), fun i hi => (k i hi _).trans (h.c3 i hi), fun i hi => (k i hi _).trans (h.c4 i hi), fun i hi => (k i hi _).trans (h.c5 i hi), fun i hi => (k i hi _).trans (h.c6 i hi), fun i hi => (k i hi _).trans (h.c7 i hi), fun i hi => (k i hi _).trans (h.c8 i hi), fun i hi => (k i hi _).trans (h.c9 i hi), fun i hi => (k i hi _).trans (h.c10 i hi)⟩
theorem TmR.src {w : World} {g : Nat} {ts : List Trm} (h : TmR w g ts) : TSrc w (some ⟨g, 0, none⟩) g 0 ts := by
  refine ⟨fun _ => rfl, h.lt, ?_, ?_, ?_, ?_, ?_, ?_, ?_, ?_, ?_, ?_, ?_⟩ <;> intro i hi <;> rw [Nat.zero_add]
  · exact h.c0 i hi
  · exact h.c1 i hi
  · exact h.c2 i hi
  · exact h.c3 i hi
  · exact h.c4 i hi
  · exact h.c5 i hi
  · exact h.c6 i hi
  · exact h.c7 i hi
  · exact h.c8 i hi
  · exact h.c9 i hi
  · exact h.c10 i hi
theorem pt_le (k : Int) : ptN k ≤ 2 := by
  unfold ptN
  split
  · exact Nat.le_refl _
  · split <;> omega
def stT (xs : List (Int × Int)) (i : Nat) (t : Trm) : Option (List (Int × Int)) := if fitT t = true then jnL xs i (ptN t.kind) t.a t.b else none
def mS (ts : List Trm) : Nat → Option (List (Int × Int))
  | 0 => some []
  | k + 1 => (mS ts k).bind fun xs => stT xs k (ts.getD k trm0)
inductive MesR (ts : List Trm) : Int → Int → Int → Prop
  | long : 1024 < ts.length → MesR ts 0 2 0
  | bad (k : Nat) (xs : List (Int × Int)) : ts.length ≤ 1024 → k < ts.length → mS ts k = some xs → mS ts (k + 1) = none → MesR ts 0 171 k
  | empty : ts.length = 0 → MesR ts 0 171 0
  | more (xs : List (Int × Int)) : ts.length ≤ 1024 → mS ts ts.length = some xs → 1 < xs.length → MesR ts 0 171 ((ts.length : Int) - 1)
  | deep (p d : Int) : ts.length ≤ 1024 → mS ts ts.length = some [(p, d)] → 64 < d → MesR ts 0 172 ((ts.length : Int) - 1)
  | ok (p d : Int) : ts.length ≤ 1024 → mS ts ts.length = some [(p, d)] → d ≤ 64 → MesR ts d 0 0
theorem mS_none {ts : List Trm} {k : Nat} (h : mS ts k = none) : ∀ j, k ≤ j → mS ts j = none
  | 0, hj => by
    obtain rfl : k = 0 := by omega
    exact h
  | j + 1, hj => by
    by_cases e : k = j + 1
    · rw [← e]; exact h
    · show (mS ts j).bind _ = none
      rw [mS_none h j (by omega)]; rfl
theorem jn_sm {xs ys : List (Int × Int)} {pl a b : Int} {m k : Nat} (h : jnL xs pl m a b = some ys) (hl : xs.length ≤ k) (hs : ∀ x ∈ xs, 0 ≤ x.2 ∧ x.2 ≤ k) : ys.length ≤ k + 1 ∧ (∀ x ∈ ys, 0 ≤ x.2 ∧ x.2 ≤ ((k + 1 : Nat) : Int)) ∧ 1 ≤ ys.length := by
  have up : ∀ x ∈ xs, 0 ≤ x.2 ∧ x.2 ≤ ((k + 1 : Nat) : Int) := fun x hx => by have := hs x hx; omega
  have gd : ∀ i, i < xs.length → 0 ≤ (xs.getD i (0, 0)).2 ∧ (xs.getD i (0, 0)).2 ≤ k := fun i hi => by
    have e : xs.getD i (0, 0) = xs[i] := by simp [List.getD, List.getElem?_eq_getElem hi]
    rw [e]; exact hs _ (List.getElem_mem hi)
  unfold jnL at h
  split at h
  · injection h with h; subst h
    refine ⟨by simp; omega, fun x hx => ?_, by simp⟩
    rw [List.mem_append, List.mem_singleton] at hx
    rcases hx with hx | rfl
    · exact up x hx
    · exact ⟨by show (0 : Int) ≤ 1; decide, by show (1 : Int) ≤ _; omega⟩
  split at h
  · split at h
    · cases h
    rename_i h1
    split at h
    · injection h with h; subst h
      refine ⟨by simp; omega, fun x hx => ?_, by simp⟩
      rw [List.mem_append, List.mem_singleton] at hx
      rcases hx with hx | rfl
      · exact up x (List.mem_of_mem_take hx)
      · have := gd (xs.length - 1) (by omega)
        exact ⟨by show 0 ≤ max _ _ + 1; omega, by show max _ _ + 1 ≤ _; omega⟩
    · cases h
  · split at h
    · cases h
    rename_i h1
    split at h
    · injection h with h; subst h
      refine ⟨by simp; omega, fun x hx => ?_, by simp⟩
      rw [List.mem_append, List.mem_singleton] at hx
      rcases hx with hx | rfl
      · exact up x (List.mem_of_mem_take hx)
      · have := gd (xs.length - 1) (by omega)
        have := gd (xs.length - 2) (by omega)
        exact ⟨by show 0 ≤ max _ _ + 1; omega, by show max _ _ + 1 ≤ _; omega⟩
    · cases h
theorem mS_sm {ts : List Trm} : ∀ (k : Nat) {xs : List (Int × Int)}, mS ts k = some xs → xs.length ≤ k ∧ (∀ x ∈ xs, 0 ≤ x.2 ∧ x.2 ≤ (k : Int)) ∧ (0 < k → 1 ≤ xs.length)
  | 0, xs, h => by
    injection h with h; subst h
    exact ⟨Nat.le_refl _, (fun x hx => by cases hx), (fun h => by omega)⟩
  | k + 1, xs, h => by
    have h' : (mS ts k).bind (fun xs => stT xs k (ts.getD k trm0)) = some xs := h
    cases e : mS ts k with
    | none => rw [e] at h'; cases h'
    | some ys =>
      rw [e] at h'
      have h2 : stT ys k (ts.getD k trm0) = some xs := h'
      unfold stT at h2
      split at h2
      · obtain ⟨a1, a2, _⟩ := mS_sm k e
        obtain ⟨b1, b2, b3⟩ := jn_sm h2 a1 a2
        exact ⟨b1, b2, fun _ => b3⟩
      · cases h2
theorem mS_step {ts : List Trm} {k : Nat} {xs : List (Int × Int)} (h : mS ts k = some xs) : mS ts (k + 1) = stT xs k (ts.getD k trm0) := by
  show (mS ts k).bind _ = _
  rw [h]; rfl
theorem fit_kind {t : Trm} (h : fitT t = true) : 1 ≤ t.kind ∧ t.kind ≤ 8 := by
  unfold fitT at h
  rw [Bool.and_eq_true] at h
  have h := h.1
  unfold fldB at h
  by_cases hk : 1 ≤ t.kind ∧ t.kind ≤ 8
  · exact hk
  · rw [if_neg (by omega), if_neg (by omega), if_neg (by omega), if_neg (by omega), if_neg (by omega), if_neg (by omega), if_neg (by omega), if_neg (by omega)] at h
    cases h
theorem fnd_none {u : Nat → Value} {v : Value} {n : Int} (hn : ¬ (1 ≤ n ∧ n ≤ 8)) (h : fndV u (fun i => (kdG i).num == n) v) : v = .tuple #[noK, .bool false] := by
  rcases h with ⟨_, h⟩ | ⟨i, hi, h1, h2, _⟩
  · exact h
  · have h1' : (kdG i).num = n := by simpa using h1
    rw [kd_num hi] at h1'
    omega
set_option maxRecDepth 20000 in
set_option maxHeartbeats 25600000 in
theorem measure_any (ts : List Trm) (n : Nat) (p0 : Option Addr) (b off c : Nat) (w : World) (hs : TSrc w p0 b off ts) (hn : ts.length = n) (hu : ∀ i < n, TrU (ts.getD i trm0)) (hl : n ≤ 9223372036854775807) :
    Calls Tryz.prog 16 #[.slice p0 n c] w fun e w' => ∃ D E A, e = .returned (.tuple #[.int .i64 D, .int .i64 E, .int .i64 A]) ∧ MesR ts D E A ∧ Below w.heap.size w w' := by
  have HS := hidD (And.intro hs (And.intro hn hu))
  clear hs hn hu
  by_cases hlong : 1024 < n
  · have i0 : (1024 : Int) < (n : Int) := by omega
    have HL := hidD hlong
    clear hlong
    go_enter Tryz.func16, Tryz.ntmps16
    go_wp2_with fail
    go_ret3
    exact ⟨_, _, _, rfl, .long (by rw [HS.out.2.1]; exact HL.out), Below.refl _ _⟩
  have i0 : ¬ (1024 : Int) < (n : Int) := by omega
  have i00 : n ≤ 1024 := by omega
  have HL : Hid (ts.length ≤ 1024) := by show _ ≤ _; rw [HS.out.2.1]; exact i00
  have hst := store_fltD
  clear hlong hl
  go_enter Tryz.func16, Tryz.ntmps16
  go_wp2_with fail
  refine (kinds_any _).mono ?_
  rintro e wk ⟨v, rfl, hv, hb⟩
  obtain ⟨h, u, rfl, ht⟩ := tab_open hv
  have HT := hidD ht
  have HB := hidD hb
  have HSk := hidD (HS.out.1.below hb)
  clear hv hb ht
  go_wp2_with fail
  go_loopw [6, 18] (fun sv i wr => ∃ (k : Nat) (xs : List (Int × Int)), k ≤ n ∧ i = .int .i64 k ∧ Hid (mS ts k = some xs) ∧ Hid (OwnL wk.heap.size sv xs wr) ∧ Hid (Below wk.heap.size wk wr)) (fun _ i _ => n - (intOf i).toNat)
  case atStart => exact ⟨0, [], Nat.zero_le _, rfl, rfl, ownL_nil _ _, Below.refl _ _⟩
  case round =>
    obtain ⟨k, xs, hk, rfl, HMs, HO, HW⟩ := hrel
    by_cases hlt : k < n
    · have hlt' : k < ts.length := by rw [HS.out.2.1]; exact hlt
      have HSr := hidD (HSk.out.below HW.out)
      obtain rfl := HSr.out.at_ (by omega)
      have c0 := HSr.out.c0 k hlt'
      have c1 := HSr.out.c1 k hlt'
      have c2 := HSr.out.c2 k hlt'
      have c3 := HSr.out.c3 k hlt'
      have c4 := HSr.out.c4 k hlt'
      have c5 := HSr.out.c5 k hlt'
      have c6 := HSr.out.c6 k hlt'
      have c7 := HSr.out.c7 k hlt'
      have c8 := HSr.out.c8 k hlt'
      have c9 := HSr.out.c9 k hlt'
      have c10 := HSr.out.c10 k hlt'
      have hbl : b < wr.heap.size := HSr.out.lt (by omega)
      have hbn := Nat.ne_of_lt hbl
      have HTr := hidD (HT.out.below HW.out)
      have HNx := hidD (mS_step HMs.out)
      have HBd : Hid (mS ts (k + 1) = none → MesR ts 0 171 k) := fun h0 => .bad k xs HL.out hlt' HMs.out h0
      have HUt := hidD (HS.out.2.2 k hlt)
      have HSm : Hid (SmL xs) := by
        obtain ⟨a1, a2, _⟩ := mS_sm k HMs.out
        exact ⟨by omega, fun x hx => by have := a2 x hx; omega⟩
      generalize ht : ts.getD k trm0 = t at *
      clear ht
      have i1 : (k : Int) < (n : Int) := by omega
      by_cases hkd : 1 ≤ t.kind ∧ t.kind ≤ 8
      rotate_left
      · have HOf : Hid (∀ wx, TabC h u wx → Calls Tryz.prog 19 #[.slice (some ⟨h, 0, none⟩) 8 8, .int .i64 t.kind] wx fun e w' => e = .returned (.tuple #[.agg #[.int .i64 0, .string ⟨#[]⟩, .slice none 0 0, .int .i64 0, .nilFunc], .bool false]) ∧ Below wx.heap.size wx w') := fun wx ht => (ofNumber_any h u t.kind wx ht).mono fun e w' ⟨v, he, hv, hb⟩ => ⟨by
          rw [he, fnd_none hkd hv]; rfl, hb⟩
        have hno : mS ts (k + 1) = none := by
          rw [HNx.out]
          unfold stT
          exact if_neg fun hf => hkd (fit_kind hf)
        have HBf := hidD (HBd.out hno)
        clear hno hkd HBd HNx
        go_wp2_with fail
        refine (HOf.out _ (HTr.out.below (al_bel _ _))).mono ?_
        rintro e w1 ⟨rfl, hb1⟩
        have HB1 := hidD (HB.out.trans ((HW.out.trans (((al_bel wr _).trans (hb1.mono (by simp))).mono HW.out.size)).mono HB.out.size))
        have HB2 : Hid (∀ ob, Below w.heap.size w (w1.alloc ob)) := fun ob => HB1.out.alloc HB1.out.size ob
        clear hb1 c0 c1 c2 c3 c4 c5 c6 c7 c8 c9 c10 HOf
        go_wp2_with fail
        go_ret3
        exact ⟨_, _, _, rfl, HBf.out, HB2.out _⟩
      obtain ⟨ix, h8, hkx⟩ : ∃ ix : Nat, ix < 8 ∧ t.kind = (ix : Int) + 1 := ⟨(t.kind - 1).toNat, by omega, by omega⟩
      obtain ⟨m, hm⟩ : ∃ m, ptN t.kind = m := ⟨_, rfl⟩
      have hm2 : m ≤ 2 := by rw [← hm]; exact pt_le _
      have HPt : Hid ((kdG ix).parts = (m : Int)) := by show _ = _; rw [pt_kd h8, ← hkx, hm]
      have HSt : Hid (mS ts (k + 1) = if fitT t = true then jnL xs k m t.a t.b else none) := by show _ = _; rw [HNx.out]; unfold stT; rw [hm]
      obtain ⟨p, q, hu, hq⟩ := (HTr.out.slc ix h8).shape
      clear hq
      have HU := hidD hu
      have HOf : Hid (∀ wx, TabC h u wx → Calls Tryz.prog 19 #[.slice (some ⟨h, 0, none⟩) 8 8, .int .i64 t.kind] wx fun e w' => e = .returned (.tuple #[.agg #[.int .i64 (kdG ix).num, .string (kdG ix).word, .slice p q q, .int .i64 (kdG ix).parts, .func (.func (kdG ix).mean) #[] #[]], .bool true]) ∧ Below wx.heap.size wx w') := fun wx ht => (ofNumber_any h u t.kind wx ht).mono fun e w' ⟨v, he, hv, hb⟩ => ⟨by
        rw [hkx] at hv
        have := fnd_num h8 hv
        rw [hu] at this
        rw [he, this]; rfl, hb⟩
      have HFt : Hid (∀ wx, Below wk.heap.size wk wx → Calls Tryz.prog 30 #[.agg #[.int .i64 (kdG ix).num, .string (kdG ix).word, .slice p q q, .int .i64 (kdG ix).parts, .func (.func (kdG ix).mean) #[] #[]], .agg #[.int .i64 t.kind, .int .i64 t.a, .int .i64 t.b, .float .f64 t.x, .float .f64 t.y, .int .i64 t.day, .int .i64 t.to, .int .i64 t.cur, .int .i64 t.count, .int .i64 t.n, .int .i64 t.months]] wx fun e w' => e = .returned (.bool (fitT t)) ∧ Below wx.heap.size wx w') := fun wx hx => by
        have := kFits_any (kdG ix) (u ix) (psG ix) t wx HUt.out ((HT.out.below hx).slc ix h8) (ps_len h8) (fdI_G h8) (ps_in h8) (ds_len h8)
        rw [fit_tree t h8 hkx] at this
        unfold kV at this
        rw [hu] at this
        exact this
      have HPa : Hid (∀ wx, Calls Tryz.prog 21 #[.agg #[.int .i64 (kdG ix).num, .string (kdG ix).word, .slice p q q, .int .i64 (kdG ix).parts, .func (.func (kdG ix).mean) #[] #[]], .agg #[.int .i64 t.kind, .int .i64 t.a, .int .i64 t.b, .float .f64 t.x, .float .f64 t.y, .int .i64 t.day, .int .i64 t.to, .int .i64 t.cur, .int .i64 t.count, .int .i64 t.n, .int .i64 t.months]] wx fun e w' => e = .returned (.slice (some ⟨wx.heap.size + 1 + 1, 0, none⟩) m 2) ∧ PtsB w' (wx.heap.size + 1 + 1) t.a t.b ∧ Below wx.heap.size wx w') := fun wx => partsOf_any (kdG ix) p q m HPt.out hm2 t wx
      generalize hF : fitT t = F at HFt HSt
      have HM2 := hidD hm2
      clear hu hF hkx hm HNx hkd hm2 h8
      go_wp2_with fail
      have Ht1 : Hid (TrB (wr.alloc (.cells #[.int .i64 t.kind, .int .i64 t.a, .int .i64 t.b, .float .f64 t.x, .float .f64 t.y, .int .i64 t.day, .int .i64 t.to, .int .i64 t.cur, .int .i64 t.count, .int .i64 t.n, .int .i64 t.months] 47)) wr.heap.size t) := heap_alloc_new _ _
      refine (HOf.out _ (HTr.out.below (al_bel _ _))).mono ?_
      rintro e w1 ⟨rfl, hb1⟩
      have HB1 := hidD ((al_bel wr _).trans (hb1.mono (by simp)))
      have Ht2 := hidD ((Ht1.out.below hb1).below (al_bel w1 (.cells #[.int .i64 (kdG ix).num, .string (kdG ix).word, .slice p q q, .int .i64 (kdG ix).parts, .func (.func (kdG ix).mean) #[] #[]] 65)))
      have Hk2 := hidD (heap_alloc_new w1 (.cells #[.int .i64 (kdG ix).num, .string (kdG ix).word, .slice p q q, .int .i64 (kdG ix).parts, .func (.func (kdG ix).mean) #[] #[]] 65))
      have HW2 := hidD (HW.out.trans ((HB1.out.trans ((al_bel w1 (.cells #[.int .i64 (kdG ix).num, .string (kdG ix).word, .slice p q q, .int .i64 (kdG ix).parts, .func (.func (kdG ix).mean) #[] #[]] 65)).mono HB1.out.size)).mono HW.out.size))
      obtain ⟨d0, d1, d2, d3, d4, d5, d6, d7, d8, d9, d10⟩ := trm_cells Ht2.out
      obtain ⟨e0, e1, e2, e3, e4⟩ := cellK_of Hk2.out
      clear hb1 c0 c1 c2 c3 c4 c5 c6 c7 c8 c9 c10 HOf Ht1
      go_wp2_with fail
      refine (HFt.out _ HW2.out).mono ?_
      rintro e w2 ⟨rfl, hb2⟩
      have Ht3 := hidD (Ht2.out.below hb2)
      have Hk3 := hidD ((hb2.block _ (lt_of_blk Hk2.out)).trans Hk2.out)
      have HW3 := hidD (HW2.out.trans (hb2.mono HW2.out.size))
      have HO3 := hidD (((HO.out.below HB1.out).below (al_bel w1 (.cells #[.int .i64 (kdG ix).num, .string (kdG ix).word, .slice p q q, .int .i64 (kdG ix).parts, .func (.func (kdG ix).mean) #[] #[]] 65))).below hb2)
      clear hb2 d0 d1 d2 d3 d4 d5 d6 d7 d8 d9 d10 e0 e1 e2 e3 e4 HFt Ht2 Hk2 HW2
      cases F
      · have HBf := hidD (HBd.out (by rw [HSt.out]; rfl))
        have HBB := hidD (HB.out.trans (HW3.out.mono HB.out.size))
        clear HBd HSt
        go_wp2_with fail
        go_ret3
        exact ⟨_, _, _, rfl, HBf.out, HBB.out⟩
      have HSt2 : Hid (mS ts (k + 1) = jnL xs k m t.a t.b) := by show _ = _; rw [HSt.out, if_pos rfl]
      obtain ⟨d0, d1, d2, d3, d4, d5, d6, d7, d8, d9, d10⟩ := trm_cells Ht3.out
      obtain ⟨e0, e1, e2, e3, e4⟩ := cellK_of Hk3.out
      clear HSt
      go_wp2_with fail
      refine (HPa.out _).mono ?_
      rintro e w3 ⟨rfl, hp3, hb3⟩
      have HW4 := hidD (HW3.out.trans (hb3.mono HW3.out.size))
      have HJ := hidD (joined_any _ _ xs k t.a t.b m _ w3 (HO3.out.below hb3) HW4.out.size HSm.out HM2.out hp3)
      clear hb3 hp3 d0 d1 d2 d3 d4 d5 d6 d7 d8 d9 d10 e0 e1 e2 e3 e4
      go_wp2_with fail
      refine HJ.out.mono ?_
      rintro e w4 ⟨hj, hb4⟩
      have HW5 := hidD (HW4.out.trans hb4)
      clear hb4 HJ
      cases hj with
      | no hn0 =>
        have HBf := hidD (HBd.out (by rw [HSt2.out]; exact hn0))
        have HBB := hidD (HB.out.trans (HW5.out.mono HB.out.size))
        clear hn0 HBd HSt2
        go_wp2_with fail
        go_ret3
        exact ⟨_, _, _, rfl, HBf.out, HBB.out⟩
      | yes v4 ys hy ho4 =>
        have HO5 := hidD ho4
        have HNx : Hid (mS ts (k + 1) = some ys) := by show _ = _; rw [HSt2.out]; exact hy
        clear ho4 hy HBd HSt2
        go_wp2_with fail
        go_roundw
        case rel => exact ⟨k + 1, ys, by omega, by simp, HNx, HO5, HW5⟩
        case measure => simp [intOf]; omega
    · obtain rfl : k = n := by omega
      have i1 : ¬ (k : Int) < (k : Int) := by omega
      obtain ⟨a1, a2, a3⟩ := mS_sm k HMs.out
      have HBf := hidD (HB.out.trans (HW.out.mono HB.out.size))
      have HKl := hidD HS.out.2.1
      obtain ⟨pv, cc, gg, hv, hcc, hp, hpn, _, hcl, _⟩ := HO.out.src
      obtain ⟨L, hLx⟩ : ∃ L, xs.length = L := ⟨_, rfl⟩
      have HLx := hidD hLx
      rw [hLx] at hcc hp hcl hv a1
      subst hv
      by_cases h0 : k = 0
      · subst h0
        obtain rfl : L = 0 := by omega
        have HRs : Hid (MesR ts 0 171 0) := .empty HKl.out
        clear hLx hp hpn hcl a1 a2 a3 HO
        go_wp2_with fail
        go_ret3
        exact ⟨_, _, _, rfl, HRs.out, HBf.out⟩
      have hL1 : 1 ≤ L := by rw [← hLx]; exact a3 (by omega)
      obtain rfl := hp (by omega)
      have j0 : ((L : Int) == 0) = false := beq_eq_false_iff_ne.2 (by omega)
      by_cases h1 : 1 < L
      · have HRs : Hid (MesR ts 0 171 ((ts.length : Int) - 1)) := .more xs HL.out (by rw [HKl.out]; exact HMs.out) (by omega)
        have j1 : (1 : Int) < (L : Int) := by omega
        rw [HKl.out] at HRs
        clear hLx hp hpn hcl a1 a2 a3 HO h1
        go_wp2_with fail
        go_ret3
        exact ⟨_, _, _, rfl, HRs.out, HBf.out⟩
      obtain rfl : L = 1 := by omega
      obtain ⟨x0, x1⟩ := hcl 0 (by omega)
      rw [Nat.zero_mul, Nat.zero_add] at x1
      have hxx : xs = [((xs.getD 0 (0, 0)).1, (xs.getD 0 (0, 0)).2)] := by
        match xs, hLx with
        | [x], _ => rfl
      have HX : Hid (mS ts ts.length = some [((xs.getD 0 (0, 0)).1, (xs.getD 0 (0, 0)).2)]) := by show _ = _; rw [HKl.out, ← hxx]; exact HMs.out
      generalize (xs.getD 0 (0, 0)).1 = pp at HX
      generalize (xs.getD 0 (0, 0)).2 = d at HX x1
      clear hLx hp hpn hcl a1 a2 a3 HO h1 x0 hxx HMs HLx
      by_cases hd : 64 < d
      · have HRs : Hid (MesR ts 0 172 ((ts.length : Int) - 1)) := .deep pp d HL.out HX.out hd
        rw [HKl.out] at HRs
        go_wp2_with fail
        go_ret3
        exact ⟨_, _, _, rfl, HRs.out, HBf.out⟩
      · have HRs : Hid (MesR ts d 0 0) := .ok pp d HL.out HX.out (by omega)
        go_wp2_with fail
        go_ret3
        exact ⟨_, _, _, rfl, HRs.out, HBf.out⟩
end Go.Proofs.YtiiajhomdpfafaaGreatDoor
namespace Go.Proofs.YtiiajhomdpfafaaGreatDoor
open Go.RowKit

def shS (i : Nat) (t : Trm) (F D : List Int) : Option (Int × Int) :=
  if fldB t = false then none
  else if t.kind ≤ 3 then if t.a = 0 ∧ t.b = 0 then some ((i : Int), 1) else none
  else if t.kind = 5 then if 0 < i ∧ t.b = (i : Int) - 1 ∧ 0 < F.getD (i - 1) 0 ∧ t.a = F.getD (i - 1) 0 - 1 then some (F.getD t.a.toNat 0, 1 + max (D.getD t.a.toNat 0) (D.getD (i - 1) 0)) else none
  else if 0 < i ∧ t.a = (i : Int) - 1 ∧ t.b = 0 then some (F.getD (i - 1) 0, 1 + D.getD (i - 1) 0) else none
def shP (ts : List Trm) : Nat → Option (List Int × List Int)
  | 0 => some ([], [])
  | k + 1 => (shP ts k).bind fun s => (shS k (ts.getD k trm0) s.1 s.2).map fun r => (s.1 ++ [r.1], s.2 ++ [r.2])
inductive Chn (F D : List Int) : Nat → List (Int × Int) → Prop
  | nil : Chn F D 0 []
  | snoc (i f : Nat) (ys : List (Int × Int)) : F.getD i 0 = (f : Int) → f ≤ i → Chn F D f ys → Chn F D (i + 1) (ys ++ [((i : Int), D.getD i 0)])
theorem getD_appE {l : List Int} {x : Int} {j : Nat} (h : j < l.length) : (l ++ [x]).getD j 0 = l.getD j 0 := by
  simp [List.getD, List.getElem?_append_left h]
theorem getD_end {l : List Int} {x : Int} {j : Nat} (h : j = l.length) : (l ++ [x]).getD j 0 = x := by
  subst h; simp [List.getD]
theorem Chn.more {F D : List Int} {f d : Int} {i : Nat} {xs : List (Int × Int)} (h : Chn F D i xs) (hF : i ≤ F.length) (hD : i ≤ D.length) : Chn (F ++ [f]) (D ++ [d]) i xs := by
  induction h with
  | nil => exact .nil
  | snoc i g ys e hg _ ih =>
    have := Chn.snoc (F := F ++ [f]) (D := D ++ [d]) i g ys (by rw [getD_appE (by omega)]; exact e) hg (ih (by omega) (by omega))
    rw [getD_appE (by omega)] at this
    exact this
structure ShI (F D : List Int) (k : Nat) : Prop where
  lf : F.length = k
  ld : D.length = k
  f0 : ∀ j < k, 0 ≤ F.getD j 0 ∧ F.getD j 0 ≤ j
  d0 : ∀ j < k, 1 ≤ D.getD j 0 ∧ D.getD j 0 ≤ (j : Int) + 1
theorem ShI.more {F D : List Int} {k : Nat} (h : ShI F D k) {f d : Int} (hf : 0 ≤ f ∧ f ≤ k) (hd : 1 ≤ d ∧ d ≤ (k : Int) + 1) : ShI (F ++ [f]) (D ++ [d]) (k + 1) := by
  refine ⟨by simp [h.lf], by simp [h.ld], fun j hj => ?_, fun j hj => ?_⟩
  · by_cases e : j = k
    · rw [getD_end (by rw [h.lf]; exact e), e]; exact hf
    · rw [getD_appE (by rw [h.lf]; omega)]; exact h.f0 j (by omega)
  · by_cases e : j = k
    · rw [getD_end (by rw [h.ld]; exact e), e]; exact hd
    · rw [getD_appE (by rw [h.ld]; omega)]; exact h.d0 j (by omega)
theorem fit_leaf {t : Trm} (h : fitT t = true) : ptN t.kind = 0 → t.kind ≤ 3 ∧ t.a = 0 ∧ t.b = 0 := by
  intro h0
  obtain ⟨k1, k8⟩ := fit_kind h
  have ha := h
  unfold fitT abZ at ha
  rw [h0, if_neg (by decide), if_neg (by decide), Bool.and_eq_true, Bool.and_eq_true, beq_iff_eq, beq_iff_eq] at ha
  refine ⟨?_, ha.2⟩
  unfold ptN at h0
  split at h0
  · cases h0
  · split at h0
    · cases h0
    · omega
theorem fit_one {t : Trm} (h : fitT t = true) : ptN t.kind = 1 → 3 < t.kind ∧ t.kind ≠ 5 ∧ t.b = 0 := by
  intro h0
  have ha := h
  unfold fitT abZ at ha
  rw [h0, if_neg (by decide), if_pos rfl, Bool.and_eq_true, beq_iff_eq] at ha
  unfold ptN at h0
  split at h0
  · cases h0
  · split at h0
    · exact ⟨by omega, by assumption, ha.2⟩
    · cases h0
theorem fit_two {t : Trm} : ptN t.kind = 2 → t.kind = 5 := by
  intro h0
  unfold ptN at h0
  split at h0
  · assumption
  · split at h0 <;> cases h0
theorem jn_app1 (ys : List (Int × Int)) (x : Int × Int) (pl a b : Int) : jnL (ys ++ [x]) pl 1 a b = if x.1 = a then some (ys ++ [(pl, max 0 x.2 + 1)]) else none := by
  unfold jnL
  rw [if_neg (by decide), if_pos rfl, if_neg (by simp), List.length_append, List.length_singleton, Nat.add_sub_cancel, List.take_left]
  have : (ys ++ [x]).getD ys.length (0, 0) = x := by simp [List.getD]
  rw [this]
theorem jn_app2 (r : List (Int × Int)) (x y : Int × Int) (pl a b : Int) : jnL (r ++ [x] ++ [y]) pl 2 a b = if x.1 = a ∧ y.1 = b then some (r ++ [(pl, max (max 0 x.2) y.2 + 1)]) else none := by
  rw [show r ++ [x] ++ [y] = r ++ [x, y] by simp]
  unfold jnL
  have l2 : (r ++ [x, y]).length = r.length + 2 := by simp
  rw [if_neg (by decide), if_neg (by decide), if_neg (by omega), l2, show r.length + 2 - 2 = r.length by omega, show r.length + 2 - 1 = r.length + 1 by omega, List.take_left]
  have g1 : (r ++ [x, y]).getD r.length (0, 0) = x := by simp [List.getD]
  have g2 : (r ++ [x, y]).getD (r.length + 1) (0, 0) = y := by simp [List.getD]
  rw [g1, g2]
theorem sh_step {F D : List Int} {k : Nat} {xs : List (Int × Int)} (hI : ShI F D k) (hc : Chn F D k xs) (t : Trm) :
    (shS k t F D = none ∧ stT xs k t = none) ∨ ∃ f d ys, shS k t F D = some (f, d) ∧ stT xs k t = some ys ∧ Chn (F ++ [f]) (D ++ [d]) (k + 1) ys ∧ (0 ≤ f ∧ f ≤ (k : Int)) ∧ 1 ≤ d ∧ d ≤ (k : Int) + 1 := by
  have new : ∀ (f : Nat) (d : Int) (ys : List (Int × Int)), f ≤ k → Chn F D f ys → Chn (F ++ [(f : Int)]) (D ++ [d]) (k + 1) (ys ++ [((k : Int), d)]) := fun f d ys hf h => by
    have := Chn.snoc (F := F ++ [(f : Int)]) (D := D ++ [d]) k f ys (getD_end hI.lf.symm) hf (h.more (by rw [hI.lf]; exact hf) (by rw [hI.ld]; exact hf))
    rw [getD_end hI.ld.symm] at this
    exact this
  unfold stT
  cases hft : fitT t with
  | false =>
    refine .inl ⟨?_, if_neg (by decide)⟩
    unfold shS
    cases hb : fldB t with
    | false => exact if_pos rfl
    | true =>
      rw [if_neg (by decide)]
      have hab : abZ t = false := by unfold fitT at hft; rw [hb, Bool.true_and] at hft; exact hft
      have hk8 : 1 ≤ t.kind ∧ t.kind ≤ 8 := by
        by_cases hk : 1 ≤ t.kind ∧ t.kind ≤ 8
        · exact hk
        · unfold fldB at hb
          rw [if_neg (by omega), if_neg (by omega), if_neg (by omega), if_neg (by omega), if_neg (by omega), if_neg (by omega), if_neg (by omega), if_neg (by omega)] at hb
          cases hb
      unfold abZ at hab
      by_cases h3 : t.kind ≤ 3
      · rw [if_pos h3]
        have hp : ptN t.kind = 0 := by unfold ptN; rw [if_neg (by omega), if_neg (by omega)]
        rw [hp, if_neg (by decide), if_neg (by decide)] at hab
        refine if_neg fun h => ?_
        rw [h.1, h.2] at hab; cases hab
      · rw [if_neg h3]
        by_cases h5 : t.kind = 5
        · have hp : ptN t.kind = 2 := by unfold ptN; rw [if_pos h5]
          rw [hp, if_pos rfl] at hab; cases hab
        · rw [if_neg h5]
          have hp : ptN t.kind = 1 := by unfold ptN; rw [if_neg h5, if_pos (by omega)]
          rw [hp, if_neg (by decide), if_pos rfl] at hab
          refine if_neg fun h => ?_
          rw [h.2.2] at hab; cases hab
  | true =>
    rw [if_pos rfl]
    have hb : fldB t = true := by unfold fitT at hft; rw [Bool.and_eq_true] at hft; exact hft.1
    have hb' : ¬ fldB t = false := by rw [hb]; decide
    have hp3 : ptN t.kind = 0 ∨ ptN t.kind = 1 ∨ ptN t.kind = 2 := by have := pt_le t.kind; omega
    rcases hp3 with hp | hp | hp
    · obtain ⟨h3, ha, hbz⟩ := fit_leaf hft hp
      refine .inr ⟨(k : Int), 1, xs ++ [((k : Int), 1)], ?_, by rw [hp]; rfl, new k 1 xs (Nat.le_refl _) hc, ⟨by omega, Int.le_refl _⟩, by decide, by omega⟩
      unfold shS
      rw [if_neg hb', if_pos h3, if_pos ⟨ha, hbz⟩]
    · obtain ⟨h3, h5, hbz⟩ := fit_one hft hp
      rw [hp]
      have hs : shS k t F D = if 0 < k ∧ t.a = (k : Int) - 1 ∧ t.b = 0 then some (F.getD (k - 1) 0, 1 + D.getD (k - 1) 0) else none := by
        unfold shS; rw [if_neg hb', if_neg (by omega), if_neg h5]
      rw [hs]
      cases hc with
      | nil => exact .inl ⟨if_neg (by omega), rfl⟩
      | snoc i f ys e hf hcf =>
        rw [jn_app1]
        have hd := hI.d0 i (by omega)
        by_cases hai : (i : Int) = t.a
        · rw [if_pos ⟨by omega, by omega, hbz⟩, if_pos hai]
          have e1 : i + 1 - 1 = i := by omega
          rw [e1, e]
          refine .inr ⟨(f : Int), 1 + D.getD i 0, ys ++ [(((i + 1 : Nat) : Int), 1 + D.getD i 0)], rfl, ?_, new f _ ys (by omega) hcf, ⟨by omega, by omega⟩, by omega, by omega⟩
          rw [show max 0 (D.getD i 0) + 1 = 1 + D.getD i 0 by omega]
        · rw [if_neg (by omega), if_neg hai]
          exact .inl ⟨rfl, rfl⟩
    · have h5 := fit_two hp
      rw [hp]
      have hs : shS k t F D = if 0 < k ∧ t.b = (k : Int) - 1 ∧ 0 < F.getD (k - 1) 0 ∧ t.a = F.getD (k - 1) 0 - 1 then some (F.getD t.a.toNat 0, 1 + max (D.getD t.a.toNat 0) (D.getD (k - 1) 0)) else none := by
        unfold shS; rw [if_neg hb', if_neg (by omega), if_pos h5]
      rw [hs]
      cases hc with
      | nil => exact .inl ⟨if_neg (by omega), rfl⟩
      | snoc i f ys e hf hcf =>
        have e1 : i + 1 - 1 = i := by omega
        rw [e1, e]
        have hd := hI.d0 i (by omega)
        cases hcf with
        | nil =>
          refine .inl ⟨if_neg (by omega), ?_⟩
          unfold jnL
          rw [if_neg (by decide), if_neg (by decide), if_pos (by simp)]
        | snoc j f2 zs e2 hf2 hc2 =>
          rw [jn_app2]
          have hd2 := hI.d0 j (by omega)
          by_cases hab : (j : Int) = t.a ∧ (i : Int) = t.b
          · rw [if_pos ⟨by omega, by omega, by omega, by omega⟩, if_pos hab]
            have ea : t.a.toNat = j := by omega
            rw [ea, e2]
            refine .inr ⟨(f2 : Int), 1 + max (D.getD j 0) (D.getD i 0), zs ++ [(((i + 1 : Nat) : Int), 1 + max (D.getD j 0) (D.getD i 0))], rfl, ?_, new f2 _ zs (by omega) hc2, ⟨by omega, by omega⟩, by omega, by omega⟩
            rw [show max (max 0 (D.getD j 0)) (D.getD i 0) + 1 = 1 + max (D.getD j 0) (D.getD i 0) by omega]
          · rw [if_neg (by omega), if_neg hab]
            exact .inl ⟨rfl, rfl⟩
theorem sh_both (ts : List Trm) : ∀ k, (shP ts k = none ∧ mS ts k = none) ∨ ∃ F D xs, shP ts k = some (F, D) ∧ mS ts k = some xs ∧ Chn F D k xs ∧ ShI F D k
  | 0 => .inr ⟨[], [], [], rfl, rfl, .nil, ⟨rfl, rfl, fun j hj => by omega, fun j hj => by omega⟩⟩
  | k + 1 => by
    show ((shP ts k).bind _ = none ∧ (mS ts k).bind _ = none) ∨ ∃ F D xs, (shP ts k).bind _ = some (F, D) ∧ (mS ts k).bind _ = some xs ∧ _
    rcases sh_both ts k with ⟨h1, h2⟩ | ⟨F, D, xs, h1, h2, hc, hI⟩
    · rw [h1, h2]; exact .inl ⟨rfl, rfl⟩
    · rw [h1, h2]
      rcases sh_step hI hc (ts.getD k trm0) with ⟨g1, g2⟩ | ⟨f, d, ys, g1, g2, gc, gf, gd⟩
      · refine .inl ⟨?_, g2⟩
        show Option.map _ (shS k (ts.getD k trm0) F D) = none
        rw [g1]; rfl
      · refine .inr ⟨F ++ [f], D ++ [d], ys, ?_, g2, gc, hI.more gf gd⟩
        show Option.map _ (shS k (ts.getD k trm0) F D) = _
        rw [g1]; rfl
theorem shP_next {ts : List Trm} {k : Nat} {F D : List Int} (h : shP ts k = some (F, D)) : shP ts (k + 1) = (shS k (ts.getD k trm0) F D).map fun r => (F ++ [r.1], D ++ [r.2]) := by
  show (shP ts k).bind _ = _
  rw [h]; rfl
theorem shP_inv {ts : List Trm} {k : Nat} {F D : List Int} (h : shP ts k = some (F, D)) : ShI F D k ∧ ∃ xs, mS ts k = some xs ∧ Chn F D k xs := by
  rcases sh_both ts k with ⟨h1, _⟩ | ⟨F', D', xs, h1, h2, hc, hI⟩
  · rw [h1] at h; cases h
  · rw [h1] at h
    injection h with h
    injection h with e1 e2
    subst e1 e2
    exact ⟨hI, xs, h2, hc⟩
theorem shP_bad {ts : List Trm} {k : Nat} (h : shP ts k = none) : mS ts k = none := by
  rcases sh_both ts k with ⟨_, h2⟩ | ⟨F', D', xs, h1, _⟩
  · exact h2
  · rw [h1] at h; cases h
theorem chn_one {F D : List Int} {n : Nat} {xs : List (Int × Int)} (h : Chn F D n xs) (hn : 1 ≤ n) (h0 : F.getD (n - 1) 0 = 0) : xs = [(((n : Int) - 1), D.getD (n - 1) 0)] := by
  cases h with
  | nil => omega
  | snoc i f ys e hf hc =>
    rw [show i + 1 - 1 = i by omega] at h0 ⊢
    rw [e] at h0
    obtain rfl : f = 0 := by omega
    cases hc with
    | nil => rw [show (((i + 1 : Nat) : Int) - 1) = (i : Int) by omega]; rfl
theorem chn_many {F D : List Int} {n : Nat} {xs : List (Int × Int)} (h : Chn F D n xs) (hn : 1 ≤ n) (h0 : 0 < F.getD (n - 1) 0) : 1 < xs.length := by
  cases h with
  | nil => omega
  | snoc i f ys e hf hc =>
    rw [show i + 1 - 1 = i by omega] at h0
    rw [e] at h0
    cases hc with
    | nil => omega
    | snoc j f2 zs _ _ _ => simp
theorem mes_bad {ts : List Trm} {k : Nat} {F D : List Int} (hl : ts.length ≤ 1024) (hk : k < ts.length) (h : shP ts k = some (F, D)) (h' : shP ts (k + 1) = none) : MesR ts 0 171 k := by
  obtain ⟨_, xs, hx, _⟩ := shP_inv h
  exact .bad k xs hl hk hx (shP_bad h')
theorem mes_more {ts : List Trm} {n : Nat} {F D : List Int} (hl : ts.length ≤ 1024) (hn : ts.length = n) (h1 : 1 ≤ n) (h : shP ts n = some (F, D)) (h0 : 0 < F.getD (n - 1) 0) : MesR ts 0 171 ((n : Int) - 1) := by
  obtain ⟨_, xs, hx, hc⟩ := shP_inv h
  subst hn
  exact .more xs hl hx (chn_many hc h1 h0)
theorem mes_one {ts : List Trm} {n : Nat} {F D : List Int} (hl : ts.length ≤ 1024) (hn : ts.length = n) (h1 : 1 ≤ n) (h : shP ts n = some (F, D)) (h0 : F.getD (n - 1) 0 = 0) : (64 < D.getD (n - 1) 0 → MesR ts 0 172 ((n : Int) - 1)) ∧ (D.getD (n - 1) 0 ≤ 64 → MesR ts (D.getD (n - 1) 0) 0 0) := by
  obtain ⟨_, xs, hx, hc⟩ := shP_inv h
  subst hn
  rw [chn_one hc h1 h0] at hx
  exact ⟨fun hd => .deep _ _ hl hx hd, fun hd => .ok _ _ hl hx hd⟩
theorem MesR.unique {ts : List Trm} {D E A D' E' A' : Int} (h : MesR ts D E A) (h' : MesR ts D' E' A') : D = D' ∧ E = E' ∧ A = A' := by
  have low : ∀ {k xs}, k < ts.length → mS ts k = some xs → mS ts (k + 1) = none → mS ts ts.length = none := fun hk _ hb => mS_none hb _ (by omega)
  cases h with
  | long hl => cases h' <;> first | exact ⟨rfl, rfl, rfl⟩ | omega
  | bad k xs hl hk hx hn =>
    cases h' with
    | long => omega
    | bad k' xs' _ hk' hx' hn' =>
      rcases Nat.lt_trichotomy k k' with h | h | h
      · rw [mS_none hn k' (by omega)] at hx'; cases hx'
      · rw [h]; exact ⟨rfl, rfl, rfl⟩
      · rw [mS_none hn' k (by omega)] at hx; cases hx
    | empty => omega
    | more _ _ hy => rw [low hk hx hn] at hy; cases hy
    | deep _ _ _ hy => rw [low hk hx hn] at hy; cases hy
    | ok _ _ _ hy => rw [low hk hx hn] at hy; cases hy
  | empty h0 =>
    have hz : mS ts ts.length = some [] := by rw [h0]; rfl
    cases h' with
    | long => omega
    | bad k' xs' _ hk' => omega
    | empty => exact ⟨rfl, rfl, rfl⟩
    | more _ _ hy hx => rw [hz] at hy; injection hy with hy; subst hy; simp at hx
    | deep _ _ _ hy => rw [hz] at hy; injection hy with hy; cases hy
    | ok _ _ _ hy => rw [hz] at hy; injection hy with hy; cases hy
  | more xs hl hx hlen =>
    cases h' with
    | long => omega
    | bad k' xs' _ hk' hx' hn' => rw [low hk' hx' hn'] at hx; cases hx
    | empty h0 => have hz : mS ts ts.length = some [] := by rw [h0]; rfl
                  rw [hz] at hx; injection hx with hx; subst hx; simp at hlen
    | more => exact ⟨rfl, rfl, rfl⟩
    | deep _ _ _ hy => rw [hx] at hy; injection hy with hy; subst hy; simp at hlen
    | ok _ _ _ hy => rw [hx] at hy; injection hy with hy; subst hy; simp at hlen
  | deep p d hl hx hd =>
    cases h' with
    | long => omega
    | bad k' xs' _ hk' hx' hn' => rw [low hk' hx' hn'] at hx; cases hx
    | empty h0 => have hz : mS ts ts.length = some [] := by rw [h0]; rfl
                  rw [hz] at hx; injection hx with hx; cases hx
    | more _ _ hy hlen => rw [hx] at hy; injection hy with hy; subst hy; simp at hlen
    | deep => exact ⟨rfl, rfl, rfl⟩
    | ok p' d' _ hy hd' => rw [hx] at hy; injection hy with hy; injection hy with hy; injection hy with _ hy; omega
  | ok p d hl hx hd =>
    cases h' with
    | long => omega
    | bad k' xs' _ hk' hx' hn' => rw [low hk' hx' hn'] at hx; cases hx
    | empty h0 => have hz : mS ts ts.length = some [] := by rw [h0]; rfl
                  rw [hz] at hx; injection hx with hx; cases hx
    | more _ _ hy hlen => rw [hx] at hy; injection hy with hy; subst hy; simp at hlen
    | deep p' d' _ hy hd' => rw [hx] at hy; injection hy with hy; injection hy with hy; injection hy with _ hy; omega
    | ok p' d' _ hy => rw [hx] at hy; injection hy with hy; injection hy with hy; injection hy with _ hy; exact ⟨hy, rfl, rfl⟩
theorem mesR_ex (ts : List Trm) : ∃ D E A, MesR ts D E A := by
  by_cases hl : 1024 < ts.length
  · exact ⟨_, _, _, .long hl⟩
  by_cases h0 : ts.length = 0
  · exact ⟨_, _, _, .empty h0⟩
  have hfst : ∀ k, k ≤ ts.length → (∃ j xs, j < k ∧ mS ts j = some xs ∧ mS ts (j + 1) = none) ∨ ∃ xs, mS ts k = some xs := by
    intro k
    induction k with
    | zero => exact fun _ => .inr ⟨[], rfl⟩
    | succ k ih =>
      intro hk
      rcases ih (by omega) with ⟨j, xs, hj, h1, h2⟩ | ⟨xs, hx⟩
      · exact .inl ⟨j, xs, by omega, h1, h2⟩
      · cases e : mS ts (k + 1) with
        | none => exact .inl ⟨k, xs, by omega, hx, e⟩
        | some ys => exact .inr ⟨ys, rfl⟩
  rcases hfst _ (Nat.le_refl _) with ⟨j, xs, hj, h1, h2⟩ | ⟨xs, hx⟩
  · exact ⟨_, _, _, .bad j xs (by omega) hj h1 h2⟩
  · have h1 := (mS_sm _ hx).2.2 (by omega)
    by_cases hm : 1 < xs.length
    · exact ⟨_, _, _, .more xs (by omega) hx hm⟩
    · match xs, (show xs.length = 1 by omega) with
      | [(p, d)], _ =>
        by_cases hd : 64 < d
        · exact ⟨_, _, _, .deep p d (by omega) hx hd⟩
        · exact ⟨_, _, _, .ok p d (by omega) hx (by omega)⟩
end Go.Proofs.YtiiajhomdpfafaaGreatDoor
namespace Go.Proofs.YtiiajhomdpfafaaGreatDoor
open Go.RowKit

set_option maxRecDepth 20000 in
theorem dCheck_of (v : Value) (D E A : Int) (w : World) (hm : Calls Tryz.prog 16 #[v] w fun e w' => e = .returned (.tuple #[.int .i64 D, .int .i64 E, .int .i64 A]) ∧ Below w.heap.size w w') : Calls Tryz.prog 7 #[v] w fun e w' => e = .returned (.tuple #[.int .i64 E, .int .i64 A]) ∧ Below w.heap.size w w' := by
  have H := hidD hm
  clear hm
  go_enter Tryz.func7, Tryz.ntmps7
  go_wp2_with fail
  refine H.out.mono ?_
  rintro e w1 ⟨rfl, hb⟩
  have HB := hidD hb
  clear hb
  go_wp2_with fail
  go_ret2
  exact ⟨rfl, HB.out⟩
theorem dMes_is {ts : List Trm} {D E A : Int} (hm : MesR ts D E A) (n : Nat) (p0 : Option Addr) (b off c : Nat) (w : World) (hs : TSrc w p0 b off ts) (hn : ts.length = n) (hu : ∀ i < n, TrU (ts.getD i trm0)) (hl : n ≤ 9223372036854775807) :
    Calls Tryz.prog 16 #[.slice p0 n c] w fun e w' => e = .returned (.tuple #[.int .i64 D, .int .i64 E, .int .i64 A]) ∧ Below w.heap.size w w' :=
  (measure_any ts n p0 b off c w hs hn hu hl).mono fun e w' ⟨D', E', A', he, hm', hb⟩ => by
    obtain ⟨rfl, rfl, rfl⟩ := hm.unique hm'
    exact ⟨he, hb⟩
theorem dCheck_is {ts : List Trm} {D E A : Int} (hm : MesR ts D E A) (n : Nat) (p0 : Option Addr) (b off c : Nat) (w : World) (hs : TSrc w p0 b off ts) (hn : ts.length = n) (hu : ∀ i < n, TrU (ts.getD i trm0)) (hl : n ≤ 9223372036854775807) :
    Calls Tryz.prog 7 #[.slice p0 n c] w fun e w' => e = .returned (.tuple #[.int .i64 E, .int .i64 A]) ∧ Below w.heap.size w w' := dCheck_of _ D E A w (dMes_is hm n p0 b off c w hs hn hu hl)
theorem tsrc_of {w : World} {B n c : Nat} {p : Option Addr} {l : List Trm} (h : w.ownsRow B 47 11 (.slice p n c) n (rowV trC l)) (hn : l.length = n) : ∃ g, TSrc w p g 0 l := by
  obtain ⟨p', c', g, hv, _, _, hp, _, hb, hc, _⟩ := orow_src h
  injection hv with hv1 hv2 hv3
  subst hv1 hv3
  have hg : ∀ i < l.length, ∀ j < 11, w.cell? ⟨g, i * 11 + j, none⟩ = (trC (l.getD i trm0))[j]? := fun i hi j hj => by
    rw [hc _ (by omega), rowV_get (f := trC) (s := 11) (fun _ => rfl) trm0 l i j hi hj]
  refine ⟨g, ⟨fun h => hp (by omega), fun h => (hb _ (hp (by omega))).2.2, ?_, ?_, ?_, ?_, ?_, ?_, ?_, ?_, ?_, ?_, ?_⟩⟩ <;> intro i hi <;> rw [Nat.zero_add]
  · exact hg i hi 0 (by decide)
  · exact hg i hi 1 (by decide)
  · exact hg i hi 2 (by decide)
  · exact hg i hi 3 (by decide)
  · exact hg i hi 4 (by decide)
  · exact hg i hi 5 (by decide)
  · exact hg i hi 6 (by decide)
  · exact hg i hi 7 (by decide)
  · exact hg i hi 8 (by decide)
  · exact hg i hi 9 (by decide)
  · exact hg i hi 10 (by decide)
end Go.Proofs.YtiiajhomdpfafaaGreatDoor
namespace Go.Proofs.YtiiajhomdpfafaaGreatDoor
open Go.RowKit

structure BelY (b : Nat) (q : Option Nat) (w w' : World) : Prop where
  os : w'.os = w.os
  tape : w'.tape = w.tape
  output : w'.output = w.output
  size : w.heap.size ≤ w'.heap.size
  block : ∀ k, k < w.heap.size → k ≠ b → q ≠ some k → w'.heap[k]? = w.heap[k]?
theorem BelY.of_x {b : Nat} {q : Option Nat} {w w' : World} (h : BelX b w w') : BelY b q w w' := ⟨h.os, h.tape, h.output, h.size, fun k hk hn _ => h.block k hk hn⟩
theorem BelY.trans {b : Nat} {q q1 : Option Nat} {w w1 w2 : World} (h : BelY b q w w1) (k : BelY b q1 w1 w2) (hq : q1 = q ∨ ∀ j, q1 = some j → w.heap.size ≤ j) : BelY b q w w2 :=
  ⟨k.os.trans h.os, k.tape.trans h.tape, k.output.trans h.output, Nat.le_trans h.size k.size, fun j hj hn hnq => (k.block j (Nat.lt_of_lt_of_le hj h.size) hn (by
    rcases hq with rfl | hq
    · exact hnq
    · intro e
      have := hq j e
      omega)).trans (h.block j hj hn hnq)⟩
theorem BelY.below {b B : Nat} {q : Option Nat} {w0 w w' : World} (h : BelY b q w w') (h0 : Below B w0 w) (hB : B ≤ b) (hq : ∀ j, q = some j → B ≤ j) (hw : B ≤ w.heap.size) : Below B w0 w' :=
  ⟨h.os.trans h0.os, h.tape.trans h0.tape, h.output.trans h0.output, Nat.le_trans h0.size h.size, fun k hk => (h.block k (by omega) (by omega) (fun e => by have := hq k e; omega)).trans (h0.block k hk)⟩
structure RPlan where
  ix : Nat
  at_ : Nat → Nat
  po : Nat → Nat
  wd : Nat → ByteArray
  ic : Nat → Nat
  vl : Nat → Value
  tm : Nat → Trm
structure RPlan.Ok (P : RPlan) (s : ByteArray) (i : Nat) (w0 : World) : Prop where
  lt : P.ix < 8
  first : ∀ j < P.ix, ((kdG j).word.toList == (kdG P.ix).word.toList) = false
  kw : WordR s i (P.at_ 0) (P.po 0)
  kx : s.extract (P.at_ 0) (P.po 0) = (kdG P.ix).word
  wr : ∀ k < (kdG P.ix).ds.length, WordR s (P.po k) (P.at_ (k + 1)) (P.po (k + 1))
  ex : ∀ k < (kdG P.ix).ds.length, s.extract (P.at_ (k + 1)) (P.po (k + 1)) = P.wd k
  tm0 : P.tm 0 = { trm0 with kind := (kdG P.ix).num }
  put : ∀ k < (kdG P.ix).ds.length, ∀ w g, TrB w g (P.tm k) → TrB (w.setCell ⟨g, P.ic k, none⟩ (P.vl k)) g (P.tm (k + 1))
  tru : ∀ k, TrU (P.tm k)
  fdi : ∀ k (hk : k < (kdG P.ix).ds.length), fdI (kdG P.ix).ds[k] (P.ic k)
  fit : ∀ k (hk : k < (kdG P.ix).ds.length), fdFit (kdG P.ix).ds[k] (P.ic k) (P.tm (k + 1)) = true
  read : ∀ k (hk : k < (kdG P.ix).ds.length) x0 x1 x2 x3, FdAt (kdG P.ix).ds[k] (.agg #[x0, x1, x2, x3]) w0 → ∃ F cap, x0 = .func (.func F) #[] cap ∧ (∀ xs w, (callFunc F xs).run Tryz.prog w = .ok (.enter F xs) w) ∧ ∀ (g : Nat) (wx : World), Below w0.heap.size w0 wx → TrB wx g (P.tm k) → Calls Tryz.prog F (#[.pointer (some ⟨g, 0, none⟩), .string (P.wd k)] ++ cap) wx fun e w' => e = .returned (.bool true) ∧ ∃ w1, Below wx.heap.size wx w1 ∧ w' = w1.setCell ⟨g, P.ic k, none⟩ (P.vl k)
  sz : s.size ≤ 9223372036854775806
theorem step_append_th {ops : Array Oper} {o : Oper} {a : Act} {w : World} {K : Act → World → Prop} {Q : Exit → Act → World → Prop} {E : Prop} (hgd : o.guard = none) (s x : Operand)
    (ho : o.op = .call { callee := .builtin .append, args := #[s, x], argTypes := #[22, 22] })
    (B : Nat) (v : Value) (ts : List Trm) (hs : a.eval s = v) (hown : OwnT B v ts w) (hb : B ≤ w.heap.size)
    (g : Nat) (t : Trm) (hx : a.eval x = .slice (some ⟨g, 0, none⟩) 1 1) (hc : TrB w g t) (hn : ts.length ≤ 100000)
    (h : ∀ v' w', OwnT B v' (ts ++ [t]) w' → w.grownBy w' v.ownBlock → (v'.ownBlock = v.ownBlock ∨ v'.ownBlock = some w.heap.size) → K (a.put o.dst v') w') :
    if Region.wanted o (yielded ops a.tmps) = true then Oper.wp Tryz.prog o a w K Q else E := by
  refine step_append_h Tryz.underlying22 info_trC rfl (by decide) hgd s x ho B v ts.length (rowT ts) hs hown hb g 1 1 (rowT [t]) hx (by rw [rowT_len]; rfl) ?_ (rowT_one [t]) (by omega) (by omega) fun v' w' h1 h2 h3 => h v' w' ?_ h2 h3
  · intro j u hj
    have hlt : j < 11 := by
      have := (List.getElem?_eq_some_iff.1 hj).1
      rw [rowT_len] at this
      exact this
    have e : rowT [t] = (trC t).toList := by simp [rowT]
    rw [e, Array.getElem?_toList] at hj
    unfold TrB at hc
    simp only [World.cell?, hc, Option.isSome_none, Bool.false_eq_true, if_false]
    exact hj
  · unfold OwnT
    rw [List.length_append, List.length_singleton, rowT_append]
    exact h1
theorem term_end3 {w wn w5 : World} {b g5 c5 n5 B : Nat} {s : ByteArray} {kv : Value} {a n g : Int} {v0 : Value} {ts0 ts : List Trm} (hr : RdB wn b s kv a n g v0) (hx : BelX b w wn) (h0 : OwnT B v0 ts0 w) (ho : OwnT B (.slice (some ⟨g5, 0, none⟩) n5 c5) ts w5) (hg : wn.grownBy w5 v0.ownBlock) (hn : (Value.slice (some ⟨g5, 0, none⟩) n5 c5).ownBlock = v0.ownBlock ∨ (Value.slice (some ⟨g5, 0, none⟩) n5 c5).ownBlock = some wn.heap.size) (hb : b < w.heap.size) (hrw : ∃ cur T, w.heap[b]? = some (.cells cur T) ∧ T ≠ 47) :
    RdB w5 b s kv a n g v0 ∧ RdB (w5.setCell ⟨b, 5, none⟩ (.slice (some ⟨g5, 0, none⟩) n5 c5)) b s kv a n g (.slice (some ⟨g5, 0, none⟩) n5 c5) ∧ OwnT B (.slice (some ⟨g5, 0, none⟩) n5 c5) ts (w5.setCell ⟨b, 5, none⟩ (.slice (some ⟨g5, 0, none⟩) n5 c5)) ∧ ((Value.slice (some ⟨g5, 0, none⟩) n5 c5).ownBlock = v0.ownBlock ∨ ∀ k, (Value.slice (some ⟨g5, 0, none⟩) n5 c5).ownBlock = some k → w.heap.size ≤ k) ∧ BelY b v0.ownBlock w (w5.setCell ⟨b, 5, none⟩ (.slice (some ⟨g5, 0, none⟩) n5 c5)) := by
  obtain ⟨cur, T, hc, hT⟩ := hrw
  have hvb : v0.ownBlock ≠ some b := fun e => by
    have := orow_box h0 hc (Ne.symm hT) b e
    exact this rfl
  have h5 : RdB w5 b s kv a n g v0 := (hg.block b (lt_of_blk hr) (fun e => hvb e.symm)).trans hr
  have s1 := hx.size
  have hgb : g5 ≠ b := fun e => by
    rcases hn with hn | hn
    · exact hvb (by rw [← hn, e]; rfl)
    · have : g5 = wn.heap.size := by simpa [Value.ownBlock] using hn
      omega
  refine ⟨h5, h5.terms _, ho.keep fun k hk => ?_, hn.imp id (fun hn k hk => ?_), ?_⟩
  · have : g5 = k := by simpa [Value.ownBlock] using hk
    exact blkF_far _ _ _ _ (by show k ≠ b; omega)
  · rw [hn] at hk
    injection hk with hk
    omega
  · have o1 := OneB.one b w5 5 (.slice (some ⟨g5, 0, none⟩) n5 c5)
    refine ⟨(hg.os.trans hx.os), (hg.tape.trans hx.tape), (hg.output.trans hx.output), Nat.le_trans s1 (by rw [World.size_setCell]; exact hg.size), fun k hk hn hq => ?_⟩
    exact (o1.out k hn).trans ((hg.block k (by omega) (fun e => hq e.symm)).trans (hx.block k hk hn))
theorem kd_few : ∀ {ix : Nat}, ix < 8 → (kdG ix).ds.length ≤ 7 := by decide
theorem tmG_put {w : World} {b K T i : Nat} {s : ByteArray} {kv : Value} {a n g : Int} {tv : Value} {kc : Array Value} {v : Value} {t t' : Trm} {w2 wm w3 : World} (hp : ∀ w g, TrB w g t → TrB (w.setCell ⟨g, i, none⟩ v) g t') (h : TmS w b K T s kv a n g tv kc t w2) (hb : Below w2.heap.size w2 wm) (e : w3 = wm.setCell ⟨T, i, none⟩ v) : TmS w b K T s kv a n g tv kc t' w3 := by
  subst e
  exact (h.step hb).put _ _ (hp _ _ (h.step hb).tb)
set_option maxRecDepth 20000 in
set_option maxHeartbeats 25600000 in
theorem termLeaf (P : RPlan) {s : ByteArray} {i : Nat} (b h : Nat) (u : Nat → Value) (g depth : Int) (w0 w : World) (a0 : Int) (v0 : Value) (ts0 : List Trm) (B : Nat) (hP : P.Ok s i w0) (hp0 : (kdG P.ix).parts = 0) (ht : TabC h u w0) (hb0 : Below w0.heap.size w0 w) (hlb : w0.heap.size ≤ b) (hR : RdB w b s (.slice (some ⟨h, 0, none⟩) 8 8) a0 i g v0) (ho : OwnT B v0 ts0 w) (hBw : B ≤ w.heap.size) (hl : ts0.length ≤ 1000) (hg0 : 0 ≤ g) (hg : g < 1024) (hd : depth ≤ 64) :
    Calls Tryz.prog 26 #[.pointer (some ⟨b, 0, none⟩), .int .i64 depth] w fun e w' => e = .returned (.int .i64 ts0.length) ∧ ∃ v, RdB w' b s (.slice (some ⟨h, 0, none⟩) 8 8) (P.at_ (kdG P.ix).ds.length) (P.po (kdG P.ix).ds.length) (g + 1) v ∧ OwnT B v (ts0 ++ [P.tm (kdG P.ix).ds.length]) w' ∧ (v.ownBlock = v0.ownBlock ∨ ∀ k, v.ownBlock = some k → w.heap.size ≤ k) ∧ BelY b v0.ownBlock w w' := by
  have HK := hidD (rdKind_ok hP.kw b h u v0 a0 g depth P.ix hP.lt hP.kx hP.first w0 w ht hb0 hlb hR hP.sz (by omega) hd)
  obtain ⟨p, m, G, hu, hm, hG, hc⟩ := flds_cell (ht.slc P.ix hP.lt)
  have hfa : ∀ k (hk : k < (kdG P.ix).ds.length), k < m := fun k hk => by omega
  have HC := hidD hc
  have HT := hidD (And.intro ht (And.intro hb0 (And.intro hlb hG)))
  have HR := hidD hR
  have HP := hidD hP
  have HO := hidD (And.intro ho (And.intro hBw hl))
  have HRW : Hid (∃ cur T, w.heap[b]? = some (.cells cur T) ∧ T ≠ 47) := ⟨_, _, hR, by decide⟩
  have hbw : b < w.heap.size := lt_of_blk hR
  have i1 : g + 1 ≤ 1024 := by omega
  obtain ⟨num, hnum⟩ : ∃ x, (kdG P.ix).num = x := ⟨_, rfl⟩
  obtain ⟨word, hword⟩ : ∃ x, (kdG P.ix).word = x := ⟨_, rfl⟩
  obtain ⟨mf, hmn⟩ : ∃ x, (kdG P.ix).mean = x := ⟨_, rfl⟩
  have hm7 : m ≤ 7 := by rw [hm]; exact kd_few hP.lt
  have HM := hidD (And.intro hm hnum)
  rw [← hm]
  unfold kV at HK
  rw [hu, hnum, hword, hp0, hmn] at HK
  unfold fnB at HK
  clear ht hb0 hlb hR hG hc hg hd ho hBw hl hP hfa hu hm hnum hword hmn hp0
  have hst := store_fltD
  go_enter Tryz.func26, Tryz.ntmps26
  go_wp2_with fail
  refine HK.out.mono ?_
  rintro e w1 ⟨rfl, hr, hx⟩
  obtain ⟨_, q4, _, qf⟩ := rd_cells (hr.stay (al_bel w1 (.cells #[.int .i64 num, .string word, .slice p m m, .int .i64 0, .func (.func mf) #[] #[]] 65)))
  have y4 := qf 4
  have HR1 := hidD hr
  have HX1 := hidD hx
  clear hr hx qf HK
  go_wp2_with fail
  have HS := hidD (tmS_at #[.int .i64 num, .string word, .slice p m m, .int .i64 0, .func (.func mf) #[] #[]] { trm0 with kind := num } (g + 1) HR1.out HX1.out hbw)
  unfold trC trm0 at HS
  dsimp only at HS
  clear q4 y4 HR1 HX1
  generalize hw2 : World.alloc _ _ = w2 at HS ⊢
  clear hw2
  obtain ⟨K, hK⟩ : ∃ K, w1.heap.size = K := ⟨_, rfl⟩
  obtain ⟨T, hT⟩ : ∃ T, w1.heap.size + 1 = T := ⟨_, rfl⟩
  rw [hT, hK] at HS
  rw [hT, hK]
  clear hK hT
  have HS0 : Hid (TmS w b K T s (.slice (some ⟨h, 0, none⟩) 8 8) (P.at_ 0) (P.po 0) (g + 1) v0 #[.int .i64 num, .string word, .slice p m m, .int .i64 0, .func (.func mf) #[] #[]] (P.tm 0) w2) := by rw [HP.out.tm0, HM.out.2]; exact HS
  clear HS
  go_loopw [25] (fun i wr => ∃ k : Nat, k ≤ m ∧ i = .int .i64 k ∧ Hid (TmS w b K T s (.slice (some ⟨h, 0, none⟩) 8 8) (P.at_ k) (P.po k) (g + 1) v0 #[.int .i64 num, .string word, .slice p m m, .int .i64 0, .func (.func mf) #[] #[]] (P.tm k) wr)) (fun i _ => m - (intOf i).toNat)
  case atStart => exact ⟨0, Nat.zero_le _, rfl, HS0⟩
  case round =>
    clear HS0
    obtain ⟨k, hk, rfl, HI⟩ := hrel
    by_cases hlt : k < m
    · have hlt' : k < (kdG P.ix).ds.length := by rw [← HM.out.1]; exact hlt
      obtain rfl := (HT.out.2.2.2 (by omega)).1
      have hGl := (HT.out.2.2.2 (by omega)).2
      have HBw := hidD (HI.out.bl.below HT.out.2.1 HT.out.2.2.1 HT.out.2.1.size)
      obtain ⟨x0, x1, x2, x3, HF⟩ : ∃ c0 c1 c2 c3, FCell w0 G (k * 4) ((kdG P.ix).ds[k]'hlt') c0 c1 c2 c3 := HC.out k hlt'
      obtain ⟨F0, C0, rfl, en0, hR0⟩ := HP.out.read k hlt' _ _ _ _ HF.fd
      obtain ⟨F1, C1, rfl, en1, hF1⟩ := fd_fit HF.fd (HP.out.fdi k hlt') (P.tm (k + 1)) (HP.out.tru _)
      rw [HP.out.fit k hlt'] at hF1
      obtain ⟨F3, C3, rfl, _, _⟩ := fd_clear HF.fd (HP.out.fdi k hlt')
      obtain ⟨_, _, F2, C2, _, rfl⟩ := fd_shape HF.fd
      obtain ⟨c0, c1, c2, c3, _⟩ := HF.below hGl HBw.out
      have HWd := hidD (fun wx a (hr : RdB wx b s (.slice (some ⟨h, 0, none⟩) 8 8) a (P.po k) (g + 1) v0) => word_at (HP.out.wr k hlt') b (.slice (some ⟨h, 0, none⟩) 8 8) v0 a (g + 1) (P.wd k) (HP.out.ex k hlt') wx hr HP.out.sz)
      have HRd := hidD hR0
      have HFt := hidD hF1
      have i2 : (k : Int) < (m : Int) := by omega
      have i3 : (0 : Int) ≤ (k : Int) := by omega
      have i4 : ¬ (m : Int) ≤ (k : Int) := by omega
      clear hR0 hF1 HF hGl
      go_wp2_with fail
      have HIf := hidD (HI.out.step (al_bel wr (.cells #[.func (.func F0) #[] C0, .func (.func F1) #[] C1, .func (.func F2) #[] C2, .func (.func F3) #[] C3] 98)))
      have hfb := heap_alloc_new wr (.cells #[.func (.func F0) #[] C0, .func (.func F1) #[] C1, .func (.func F2) #[] C2, .func (.func F3) #[] C3] 98)
      have hFBb : wr.heap.size ≠ b := Nat.ne_of_gt (lt_of_blk HI.out.rb)
      have hFBT : wr.heap.size ≠ T := Nat.ne_of_gt (lt_of_blk HI.out.tb)
      obtain ⟨wf, hwf⟩ : ∃ wf, wr.alloc (.cells #[.func (.func F0) #[] C0, .func (.func F1) #[] C1, .func (.func F2) #[] C2, .func (.func F3) #[] C3] 98) = wf := ⟨_, rfl⟩
      rw [hwf] at HIf hfb ⊢
      obtain ⟨FB, hFB⟩ : ∃ FB, wr.heap.size = FB := ⟨_, rfl⟩
      rw [hFB] at hfb hFBb hFBT ⊢
      have HFB := hidD hfb
      obtain ⟨f0, f1, _, _⟩ := cellF_of hfb
      clear hwf hFB hfb c0 c1 c2 c3 HBw HI
      have HWa := hidD ((HWd.out (wf.drewN 1) _ HIf.out.rb).mono fun e w' hh => (⟨hh.1, HIf.out.one ⟨hh.2.2.os, hh.2.2.tape, hh.2.2.output, hh.2.2.size, hh.2.2.out⟩ hh.2.1, (hh.2.2.out FB hFBb).trans HFB.out⟩ : e = .returned (.string (P.wd k)) ∧ TmS w b K T s (.slice (some ⟨h, 0, none⟩) 8 8) (P.at_ (k + 1)) (P.po (k + 1)) (g + 1) v0 #[.int .i64 num, .string word, .slice (some ⟨G, 0, none⟩) m m, .int .i64 0, .func (.func mf) #[] #[]] (P.tm k) w' ∧ w'.heap[FB]? = some (.cells #[.func (.func F0) #[] C0, .func (.func F1) #[] C1, .func (.func F2) #[] C2, .func (.func F3) #[] C3] 98)))
      go_region_with (first
        | (go_at_call 27; refine HWa.out.mono ?_; rintro e w2 ⟨rfl, hi2, hb2⟩; have HI2 := hidD hi2; have HF2 := hidD hb2; have HK2 := hidD (And.intro (cellF_of hb2).1 (cellF_of hb2).2.1); have k20 := (cellF_of hb2).1; have k21 := (cellF_of hb2).2.1; clear hi2 hb2)
        | (refine (HRd.out _ _ (HI2.out.bl.below HT.out.2.1 HT.out.2.2.1 HT.out.2.1.size) HI2.out.tb).mono ?_; rintro e w3 ⟨rfl, wm, hbm, hw3⟩; have HI3 : Hid (TmS w b K T s (.slice (some ⟨h, 0, none⟩) 8 8) (P.at_ (k + 1)) (P.po (k + 1)) (g + 1) v0 #[.int .i64 num, .string word, .slice (some ⟨G, 0, none⟩) m m, .int .i64 0, .func (.func mf) #[] #[]] (P.tm (k + 1)) w3) := tmG_put (HP.out.put k hlt') HI2.out hbm hw3; have HF3 := hidD (fb_put HF2.out hbm hw3 hFBT); have HK3 := hidD (And.intro (cellF_of HF3.out).1 (cellF_of HF3.out).2.1); have k30 := (cellF_of HF3.out).1; have k31 := (cellF_of HF3.out).2.1; obtain ⟨d0, d1, d2, d3, d4, d5, d6, d7, d8, d9, d10⟩ := trm_cells HI3.out.tb; clear hbm hw3)
        | (refine (HFt.out _ (HI3.out.bl.below HT.out.2.1 HT.out.2.2.1 HT.out.2.1.size)).mono ?_; rintro e w4 ⟨rfl, hb4⟩; have HI4 := hidD (HI3.out.step hb4); have HK4 := hidD (And.intro ((hb4.cell (cell_ltD HK3.out.1)).trans HK3.out.1) ((hb4.cell (cell_ltD HK3.out.2)).trans HK3.out.2)); clear hb4))
      all_goals
        clear HWa HWd HRd HFt HI2 HI3 HF2 HF3 d0 d1 d2 d3 d4 d5 d6 d7 d8 d9 d10 k20 k21 k30 k31 f0 f1 HFB HIf HK2 HK3 HK4
        simp only [Act.put, List.setIfInBounds_toArray]
        go_wp2_with fail
        go_roundw
        case rel => exact ⟨k + 1, by omega, by go_num, HI4⟩
        case measure => simp [intOf]; omega
    · obtain rfl : k = m := by omega
      have i2 : ¬ (k : Int) < (k : Int) := by omega
      obtain ⟨_, _, _, q3, _⟩ := cellK_of HI.out.kb
      obtain ⟨_, _, r5, rf⟩ := rd_cells HI.out.rb
      obtain ⟨d0, d1, d2, d3, d4, d5, d6, d7, d8, d9, d10⟩ := trm_cells HI.out.tb
      have hbl := lt_of_blk HI.out.rb
      have hbn := Nat.ne_of_lt hbl
      have hTl := lt_of_blk HI.out.tb
      have hTn := Nat.ne_of_lt hTl
      have HRA := hidD (HI.out.rb.stay (al_bel wr (.cells #[.int .i64 (P.tm k).kind, .int .i64 (P.tm k).a, .int .i64 (P.tm k).b, .float .f64 (P.tm k).x, .float .f64 (P.tm k).y, .int .i64 (P.tm k).day, .int .i64 (P.tm k).to, .int .i64 (P.tm k).cur, .int .i64 (P.tm k).count, .int .i64 (P.tm k).n, .int .i64 (P.tm k).months] 47)))
      have HXA := hidD (HI.out.bl.trans (.of_below (al_bel wr (.cells #[.int .i64 (P.tm k).kind, .int .i64 (P.tm k).a, .int .i64 (P.tm k).b, .float .f64 (P.tm k).x, .float .f64 (P.tm k).y, .int .i64 (P.tm k).day, .int .i64 (P.tm k).to, .int .i64 (P.tm k).cur, .int .i64 (P.tm k).count, .int .i64 (P.tm k).n, .int .i64 (P.tm k).months] 47))))
      have HOA : Hid (OwnT B v0 ts0 (wr.alloc (.cells #[.int .i64 (P.tm k).kind, .int .i64 (P.tm k).a, .int .i64 (P.tm k).b, .float .f64 (P.tm k).x, .float .f64 (P.tm k).y, .int .i64 (P.tm k).day, .int .i64 (P.tm k).to, .int .i64 (P.tm k).cur, .int .i64 (P.tm k).count, .int .i64 (P.tm k).n, .int .i64 (P.tm k).months] 47))) := HO.out.1.keep fun q hq => HXA.out.block q (HO.out.1.lt q hq).2 (fun e => by
        obtain ⟨cur, T', hc, hT'⟩ := HRW.out
        exact orow_box HO.out.1 hc (Ne.symm hT') q hq e)
      have HSA : Hid (B ≤ (wr.alloc (.cells #[.int .i64 (P.tm k).kind, .int .i64 (P.tm k).a, .int .i64 (P.tm k).b, .float .f64 (P.tm k).x, .float .f64 (P.tm k).y, .int .i64 (P.tm k).day, .int .i64 (P.tm k).to, .int .i64 (P.tm k).cur, .int .i64 (P.tm k).count, .int .i64 (P.tm k).n, .int .i64 (P.tm k).months] 47)).heap.size ∧ ts0.length ≤ 100000) := ⟨Nat.le_trans HO.out.2.1 HXA.out.size, by have := HO.out.2.2; omega⟩
      have hlt0 : ts0.length ≤ 1000 := HO.out.2.2
      clear rf
      go_wp2_with fail
      go_region_law (refine step_append_th rfl (.tmp 65) (.tmp 67) rfl B v0 ts0 rfl HOA.out HSA.out.1 wr.heap.size (P.tm k) rfl (heap_alloc_new _ _) HSA.out.2 ?_; intro v5 w5 ho5 hg5 hn5; obtain ⟨g5, c5, rfl⟩ := ho5.full (by simp); have te := term_end3 HRA.out HXA.out HO.out.1 ho5 ⟨hg5.os, hg5.tape, hg5.output, hg5.size, hg5.block⟩ hn5 hbw HRW.out; have HTE := hidD te; have q5 := (rd_cells te.1).2.2.1; have y5 := (rd_cells te.1).2.2.2 5; have q6 := (rd_cells te.2.1).2.2.1; clear ho5 hg5 hn5 te)
      all_goals
        simp only [List.length_append, List.length_cons, List.length_nil] at HTE q6
        have e9 : (((ts0.length + 1 : Nat) : Int) - 1) = (ts0.length : Int) := by omega
        go_wp2_with fail
        go_ret
        exact ⟨by go_num, _, HTE.out.2.1, HTE.out.2.2.1, HTE.out.2.2.2.1, HTE.out.2.2.2.2⟩
end Go.Proofs.YtiiajhomdpfafaaGreatDoor
