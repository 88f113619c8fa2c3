/- Package deal: a tree is measured, whatever it is. The document's Same, of a code and itself. Package code: compiled, of a tree that came in. -/
import Derived.Test.YtienedhaogjahaaGreatDoorHba
import Derived.Test.YtienedhaogjahaaGreatDoorDmAw
import Derived.Test.YtienedhaogjahaaGreatDoorHbf
import Derived.Test.YtienedhaogjahaaGreatDoorHbe
namespace Go.Proofs.YtienedhaogjahaaGreatDoor
open Go.RowKit

structure TSrc (w : World) (p : Option Addr) (b off : Nat) (ts : List Trm) : Prop where
  at_ : 0 < ts.length → p = some ⟨b, off, none⟩
  lt : 0 < ts.length → b < w.heap.size
  c0 : ∀ i < ts.length, w.cell? ⟨b, off + i * 11, none⟩ = some (.int .i64 (ts.getD i trm0).kind)
  c1 : ∀ i < ts.length, w.cell? ⟨b, off + i * 11 + 1, none⟩ = some (.int .i64 (ts.getD i trm0).a)
  c2 : ∀ i < ts.length, w.cell? ⟨b, off + i * 11 + 2, none⟩ = some (.int .i64 (ts.getD i trm0).b)
  c3 : ∀ i < ts.length, w.cell? ⟨b, off + i * 11 + 3, none⟩ = some (.float .f64 (ts.getD i trm0).x)
  c4 : ∀ i < ts.length, w.cell? ⟨b, off + i * 11 + 4, none⟩ = some (.float .f64 (ts.getD i trm0).y)
  c5 : ∀ i < ts.length, w.cell? ⟨b, off + i * 11 + 5, none⟩ = some (.int .i64 (ts.getD i trm0).day)
  c6 : ∀ i < ts.length, w.cell? ⟨b, off + i * 11 + 6, none⟩ = some (.int .i64 (ts.getD i trm0).to)
  c7 : ∀ i < ts.length, w.cell? ⟨b, off + i * 11 + 7, none⟩ = some (.int .i64 (ts.getD i trm0).cur)
  c8 : ∀ i < ts.length, w.cell? ⟨b, off + i * 11 + 8, none⟩ = some (.int .i64 (ts.getD i trm0).count)
  c9 : ∀ i < ts.length, w.cell? ⟨b, off + i * 11 + 9, none⟩ = some (.int .i64 (ts.getD i trm0).n)
  c10 : ∀ i < ts.length, w.cell? ⟨b, off + i * 11 + 10, none⟩ = some (.int .i64 (ts.getD i trm0).months)
theorem TSrc.below {w w' : World} {p : Option Addr} {b off : Nat} {ts : List Trm} (h : TSrc w p b off ts) (hb : Below w.heap.size w w') : TSrc w' p b off ts := by
  have k : ∀ i, i < ts.length → ∀ j, w'.cell? ⟨b, j, none⟩ = w.cell? ⟨b, j, none⟩ := fun i hi j => World.cell?_of_block (w := w) (a := ⟨b, j, none⟩) (hb.block b (h.lt (by omega)))
  exact ⟨h.at_, fun hn => Nat.lt_of_lt_of_le (h.lt hn) hb.size, fun i hi => (k i hi _).trans (h.c0 i hi), fun i hi => (k i hi _).trans (h.c1 i hi), fun i hi => (k i hi _).trans (h.c2 i hi), fun i hi => (k i hi _).trans (h.c3 i hi), fun i hi => (k i hi _).trans (h.c4 i hi), fun i hi => (k i hi _).trans (h.c5 i hi), fun i hi => (k i hi _).trans (h.c6 i hi), fun i hi => (k i hi _).trans (h.c7 i hi), fun i hi => (k i hi _).trans (h.c8 i hi), fun i hi => (k i hi _).trans (h.c9 i hi), fun i hi => (k i hi _).trans (h.c10 i hi)⟩
theorem TmR.src {w : World} {g : Nat} {ts : List Trm} (h : TmR w g ts) : TSrc w (some ⟨g, 0, none⟩) g 0 ts := by
  refine ⟨fun _ => rfl, h.lt, ?_, ?_, ?_, ?_, ?_, ?_, ?_, ?_, ?_, ?_, ?_⟩ <;> intro i hi <;> rw [Nat.zero_add]
  · exact h.c0 i hi
  · exact h.c1 i hi
  · exact h.c2 i hi
  · exact h.c3 i hi
  · exact h.c4 i hi
  · exact h.c5 i hi
  · exact h.c6 i hi
  · exact h.c7 i hi
  · exact h.c8 i hi
  · exact h.c9 i hi
  · exact h.c10 i hi
theorem pt_le (k : Int) : ptN k ≤ 2 := by
  unfold ptN
  split
  · exact Nat.le_refl _
  · split <;> omega
def stT (xs : List (Int × Int)) (i : Nat) (t : Trm) : Option (List (Int × Int)) := if fitT t = true then jnL xs i (ptN t.kind) t.a t.b else none
def mS (ts : List Trm) : Nat → Option (List (Int × Int))
  | 0 => some []
  | k + 1 => (mS ts k).bind fun xs => stT xs k (ts.getD k trm0)
inductive MesR (ts : List Trm) : Int → Int → Int → Prop
  | long : 1024 < ts.length → MesR ts 0 2 0
  | bad (k : Nat) (xs : List (Int × Int)) : ts.length ≤ 1024 → k < ts.length → mS ts k = some xs → mS ts (k + 1) = none → MesR ts 0 171 k
  | empty : ts.length = 0 → MesR ts 0 171 0
  | more (xs : List (Int × Int)) : ts.length ≤ 1024 → mS ts ts.length = some xs → 1 < xs.length → MesR ts 0 171 ((ts.length : Int) - 1)
  | deep (p d : Int) : ts.length ≤ 1024 → mS ts ts.length = some [(p, d)] → 64 < d → MesR ts 0 172 ((ts.length : Int) - 1)
  | ok (p d : Int) : ts.length ≤ 1024 → mS ts ts.length = some [(p, d)] → d ≤ 64 → MesR ts d 0 0
theorem mS_none {ts : List Trm} {k : Nat} (h : mS ts k = none) : ∀ j, k ≤ j → mS ts j = none
  | 0, hj => by
    obtain rfl : k = 0 := by omega
    exact h
  | j + 1, hj => by
    by_cases e : k = j + 1
    · rw [← e]; exact h
    · show (mS ts j).bind _ = none
      rw [mS_none h j (by omega)]; rfl
theorem jn_sm {xs ys : List (Int × Int)} {pl a b : Int} {m k : Nat} (h : jnL xs pl m a b = some ys) (hl : xs.length ≤ k) (hs : ∀ x ∈ xs, 0 ≤ x.2 ∧ x.2 ≤ k) : ys.length ≤ k + 1 ∧ (∀ x ∈ ys, 0 ≤ x.2 ∧ x.2 ≤ ((k + 1 : Nat) : Int)) ∧ 1 ≤ ys.length := by
  have up : ∀ x ∈ xs, 0 ≤ x.2 ∧ x.2 ≤ ((k + 1 : Nat) : Int) := fun x hx => by have := hs x hx; omega
  have gd : ∀ i, i < xs.length → 0 ≤ (xs.getD i (0, 0)).2 ∧ (xs.getD i (0, 0)).2 ≤ k := fun i hi => by
    have e : xs.getD i (0, 0) = xs[i] := by simp [List.getD, List.getElem?_eq_getElem hi]
    rw [e]; exact hs _ (List.getElem_mem hi)
  unfold jnL at h
  split at h
  · injection h with h; subst h
    refine ⟨by simp; omega, fun x hx => ?_, by simp⟩
    rw [List.mem_append, List.mem_singleton] at hx
    rcases hx with hx | rfl
    · exact up x hx
    · exact ⟨by show (0 : Int) ≤ 1; decide, by show (1 : Int) ≤ _; omega⟩
  split at h
  · split at h
    · cases h
    rename_i h1
    split at h
    · injection h with h; subst h
      refine ⟨by simp; omega, fun x hx => ?_, by simp⟩
      rw [List.mem_append, List.mem_singleton] at hx
      rcases hx with hx | rfl
      · exact up x (List.mem_of_mem_take hx)
      · have := gd (xs.length - 1) (by omega)
        exact ⟨by show 0 ≤ max _ _ + 1; omega, by show max _ _ + 1 ≤ _; omega⟩
    · cases h
  · split at h
    · cases h
    rename_i h1
    split at h
    · injection h with h; subst h
      refine ⟨by simp; omega, fun x hx => ?_, by simp⟩
      rw [List.mem_append, List.mem_singleton] at hx
      rcases hx with hx | rfl
      · exact up x (List.mem_of_mem_take hx)
      · have := gd (xs.length - 1) (by omega)
        have := gd (xs.length - 2) (by omega)
        exact ⟨by show 0 ≤ max _ _ + 1; omega, by show max _ _ + 1 ≤ _; omega⟩
    · cases h
theorem mS_sm {ts : List Trm} : ∀ (k : Nat) {xs : List (Int × Int)}, mS ts k = some xs → xs.length ≤ k ∧ (∀ x ∈ xs, 0 ≤ x.2 ∧ x.2 ≤ (k : Int)) ∧ (0 < k → 1 ≤ xs.length)
  | 0, xs, h => by
    injection h with h; subst h
    exact ⟨Nat.le_refl _, (fun x hx => by cases hx), (fun h => by omega)⟩
  | k + 1, xs, h => by
    have h' : (mS ts k).bind (fun xs => stT xs k (ts.getD k trm0)) = some xs := h
    cases e : mS ts k with
    | none => rw [e] at h'; cases h'
    | some ys =>
      rw [e] at h'
      have h2 : stT ys k (ts.getD k trm0) = some xs := h'
      unfold stT at h2
      split at h2
      · obtain ⟨a1, a2, _⟩ := mS_sm k e
        obtain ⟨b1, b2, b3⟩ := jn_sm h2 a1 a2
        exact ⟨b1, b2, fun _ => b3⟩
      · cases h2
theorem mS_step {ts : List Trm} {k : Nat} {xs : List (Int × Int)} (h : mS ts k = some xs) : mS ts (k + 1) = stT xs k (ts.getD k trm0) := by
  show (mS ts k).bind _ = _
  rw [h]; rfl
theorem fit_kind {t : Trm} (h : fitT t = true) : 1 ≤ t.kind ∧ t.kind ≤ 8 := by
  unfold fitT at h
  rw [Bool.and_eq_true] at h
  have h := h.1
  unfold fldB at h
  by_cases hk : 1 ≤ t.kind ∧ t.kind ≤ 8
  · exact hk
  · rw [if_neg (by omega), if_neg (by omega), if_neg (by omega), if_neg (by omega), if_neg (by omega), if_neg (by omega), if_neg (by omega), if_neg (by omega)] at h
    cases h
theorem fnd_none {u : Nat → Value} {v : Value} {n : Int} (hn : ¬ (1 ≤ n ∧ n ≤ 8)) (h : fndV u (fun i => (kdG i).num == n) v) : v = .tuple #[noK, .bool false] := by
  rcases h with ⟨_, h⟩ | ⟨i, hi, h1, h2, _⟩
  · exact h
  · have h1' : (kdG i).num = n := by simpa using h1
    rw [kd_num hi] at h1'
    omega
set_option maxRecDepth 20000 in
set_option maxHeartbeats 25600000 in
theorem measure_any (ts : List Trm) (n : Nat) (p0 : Option Addr) (b off c : Nat) (w : World) (hs : TSrc w p0 b off ts) (hn : ts.length = n) (hu : ∀ i < n, TrU (ts.getD i trm0)) (hl : n ≤ 9223372036854775807) :
    Calls Tryz.prog 41 #[.slice p0 n c] w fun e w' => ∃ D E A, e = .returned (.tuple #[.int .i64 D, .int .i64 E, .int .i64 A]) ∧ MesR ts D E A ∧ Below w.heap.size w w' := by
  have HS := hidD (And.intro hs (And.intro hn hu))
  clear hs hn hu
  by_cases hlong : 1024 < n
  · have i0 : (1024 : Int) < (n : Int) := by omega
    have HL := hidD hlong
    clear hlong
    go_enter Tryz.func41, Tryz.ntmps41
    go_wp2_with fail
    go_ret3
    exact ⟨_, _, _, rfl, .long (by rw [HS.out.2.1]; exact HL.out), Below.refl _ _⟩
  have i0 : ¬ (1024 : Int) < (n : Int) := by omega
  have i00 : n ≤ 1024 := by omega
  have HL : Hid (ts.length ≤ 1024) := by show _ ≤ _; rw [HS.out.2.1]; exact i00
  have hst := store_fltD
  clear hlong hl
  go_enter Tryz.func41, Tryz.ntmps41
  go_wp2_with fail
  refine (kinds_any _).mono ?_
  rintro e wk ⟨v, rfl, hv, hb⟩
  obtain ⟨h, u, rfl, ht⟩ := tab_open hv
  have HT := hidD ht
  have HB := hidD hb
  have HSk := hidD (HS.out.1.below hb)
  clear hv hb ht
  go_wp2_with fail
  go_loopw [6, 18] (fun sv i wr => ∃ (k : Nat) (xs : List (Int × Int)), k ≤ n ∧ i = .int .i64 k ∧ Hid (mS ts k = some xs) ∧ Hid (OwnL wk.heap.size sv xs wr) ∧ Hid (Below wk.heap.size wk wr)) (fun _ i _ => n - (intOf i).toNat)
  case atStart => exact ⟨0, [], Nat.zero_le _, rfl, rfl, ownL_nil _ _, Below.refl _ _⟩
  case round =>
    obtain ⟨k, xs, hk, rfl, HMs, HO, HW⟩ := hrel
    by_cases hlt : k < n
    · have hlt' : k < ts.length := by rw [HS.out.2.1]; exact hlt
      have HSr := hidD (HSk.out.below HW.out)
      obtain rfl := HSr.out.at_ (by omega)
      have c0 := HSr.out.c0 k hlt'
      have c1 := HSr.out.c1 k hlt'
      have c2 := HSr.out.c2 k hlt'
      have c3 := HSr.out.c3 k hlt'
      have c4 := HSr.out.c4 k hlt'
      have c5 := HSr.out.c5 k hlt'
      have c6 := HSr.out.c6 k hlt'
      have c7 := HSr.out.c7 k hlt'
      have c8 := HSr.out.c8 k hlt'
      have c9 := HSr.out.c9 k hlt'
      have c10 := HSr.out.c10 k hlt'
      have hbl : b < wr.heap.size := HSr.out.lt (by omega)
      have hbn := Nat.ne_of_lt hbl
      have HTr := hidD (HT.out.below HW.out)
      have HNx := hidD (mS_step HMs.out)
      have HBd : Hid (mS ts (k + 1) = none → MesR ts 0 171 k) := fun h0 => .bad k xs HL.out hlt' HMs.out h0
      have HUt := hidD (HS.out.2.2 k hlt)
      have HSm : Hid (SmL xs) := by
        obtain ⟨a1, a2, _⟩ := mS_sm k HMs.out
        exact ⟨by omega, fun x hx => by have := a2 x hx; omega⟩
      generalize ht : ts.getD k trm0 = t at *
      clear ht
      have i1 : (k : Int) < (n : Int) := by omega
      by_cases hkd : 1 ≤ t.kind ∧ t.kind ≤ 8
      rotate_left
      · have HOf : Hid (∀ wx, TabC h u wx → Calls Tryz.prog 81 #[.slice (some ⟨h, 0, none⟩) 8 8, .int .i64 t.kind] wx fun e w' => e = .returned (.tuple #[.agg #[.int .i64 0, .string ⟨#[]⟩, .slice none 0 0, .int .i64 0, .nilFunc], .bool false]) ∧ Below wx.heap.size wx w') := fun wx ht => (ofNumber_any h u t.kind wx ht).mono fun e w' ⟨v, he, hv, hb⟩ => ⟨by
          rw [he, fnd_none hkd hv]; rfl, hb⟩
        have hno : mS ts (k + 1) = none := by
          rw [HNx.out]
          unfold stT
          exact if_neg fun hf => hkd (fit_kind hf)
        have HBf := hidD (HBd.out hno)
        clear hno hkd HBd HNx
        go_wp2_with fail
        refine (HOf.out _ (HTr.out.below (al_bel _ _))).mono ?_
        rintro e w1 ⟨rfl, hb1⟩
        have HB1 := hidD (HB.out.trans ((HW.out.trans (((al_bel wr _).trans (hb1.mono (by simp))).mono HW.out.size)).mono HB.out.size))
        have HB2 : Hid (∀ ob, Below w.heap.size w (w1.alloc ob)) := fun ob => HB1.out.alloc HB1.out.size ob
        clear hb1 c0 c1 c2 c3 c4 c5 c6 c7 c8 c9 c10 HOf
        go_wp2_with fail
        go_ret3
        exact ⟨_, _, _, rfl, HBf.out, HB2.out _⟩
      obtain ⟨ix, h8, hkx⟩ : ∃ ix : Nat, ix < 8 ∧ t.kind = (ix : Int) + 1 := ⟨(t.kind - 1).toNat, by omega, by omega⟩
      obtain ⟨m, hm⟩ : ∃ m, ptN t.kind = m := ⟨_, rfl⟩
      have hm2 : m ≤ 2 := by rw [← hm]; exact pt_le _
      have HPt : Hid ((kdG ix).parts = (m : Int)) := by show _ = _; rw [pt_kd h8, ← hkx, hm]
      have HSt : Hid (mS ts (k + 1) = if fitT t = true then jnL xs k m t.a t.b else none) := by show _ = _; rw [HNx.out]; unfold stT; rw [hm]
      obtain ⟨p, q, hu, hq⟩ := (HTr.out.slc ix h8).shape
      clear hq
      have HU := hidD hu
      have HOf : Hid (∀ wx, TabC h u wx → Calls Tryz.prog 81 #[.slice (some ⟨h, 0, none⟩) 8 8, .int .i64 t.kind] wx fun e w' => e = .returned (.tuple #[.agg #[.int .i64 (kdG ix).num, .string (kdG ix).word, .slice p q q, .int .i64 (kdG ix).parts, .func (.func (kdG ix).mean) #[] #[]], .bool true]) ∧ Below wx.heap.size wx w') := fun wx ht => (ofNumber_any h u t.kind wx ht).mono fun e w' ⟨v, he, hv, hb⟩ => ⟨by
        rw [hkx] at hv
        have := fnd_num h8 hv
        rw [hu] at this
        rw [he, this]; rfl, hb⟩
      have HFt : Hid (∀ wx, Below wk.heap.size wk wx → Calls Tryz.prog 82 #[.agg #[.int .i64 (kdG ix).num, .string (kdG ix).word, .slice p q q, .int .i64 (kdG ix).parts, .func (.func (kdG ix).mean) #[] #[]], .agg #[.int .i64 t.kind, .int .i64 t.a, .int .i64 t.b, .float .f64 t.x, .float .f64 t.y, .int .i64 t.day, .int .i64 t.to, .int .i64 t.cur, .int .i64 t.count, .int .i64 t.n, .int .i64 t.months]] wx fun e w' => e = .returned (.bool (fitT t)) ∧ Below wx.heap.size wx w') := fun wx hx => by
        have := kFits_any (kdG ix) (u ix) (psG ix) t wx HUt.out ((HT.out.below hx).slc ix h8) (ps_len h8) (fdI_G h8) (ps_in h8) (ds_len h8)
        rw [fit_tree t h8 hkx] at this
        unfold kV at this
        rw [hu] at this
        exact this
      have HPa : Hid (∀ wx, Calls Tryz.prog 84 #[.agg #[.int .i64 (kdG ix).num, .string (kdG ix).word, .slice p q q, .int .i64 (kdG ix).parts, .func (.func (kdG ix).mean) #[] #[]], .agg #[.int .i64 t.kind, .int .i64 t.a, .int .i64 t.b, .float .f64 t.x, .float .f64 t.y, .int .i64 t.day, .int .i64 t.to, .int .i64 t.cur, .int .i64 t.count, .int .i64 t.n, .int .i64 t.months]] wx fun e w' => e = .returned (.slice (some ⟨wx.heap.size + 1 + 1, 0, none⟩) m 2) ∧ PtsB w' (wx.heap.size + 1 + 1) t.a t.b ∧ Below wx.heap.size wx w') := fun wx => partsOf_any (kdG ix) p q m HPt.out hm2 t wx
      generalize hF : fitT t = F at HFt HSt
      have HM2 := hidD hm2
      clear hu hF hkx hm HNx hkd hm2 h8
      go_wp2_with fail
      have Ht1 : Hid (TrB (wr.alloc (.cells #[.int .i64 t.kind, .int .i64 t.a, .int .i64 t.b, .float .f64 t.x, .float .f64 t.y, .int .i64 t.day, .int .i64 t.to, .int .i64 t.cur, .int .i64 t.count, .int .i64 t.n, .int .i64 t.months] 50)) wr.heap.size t) := heap_alloc_new _ _
      refine (HOf.out _ (HTr.out.below (al_bel _ _))).mono ?_
      rintro e w1 ⟨rfl, hb1⟩
      have HB1 := hidD ((al_bel wr _).trans (hb1.mono (by simp)))
      have Ht2 := hidD ((Ht1.out.below hb1).below (al_bel w1 (.cells #[.int .i64 (kdG ix).num, .string (kdG ix).word, .slice p q q, .int .i64 (kdG ix).parts, .func (.func (kdG ix).mean) #[] #[]] 145)))
      have Hk2 := hidD (heap_alloc_new w1 (.cells #[.int .i64 (kdG ix).num, .string (kdG ix).word, .slice p q q, .int .i64 (kdG ix).parts, .func (.func (kdG ix).mean) #[] #[]] 145))
      have HW2 := hidD (HW.out.trans ((HB1.out.trans ((al_bel w1 (.cells #[.int .i64 (kdG ix).num, .string (kdG ix).word, .slice p q q, .int .i64 (kdG ix).parts, .func (.func (kdG ix).mean) #[] #[]] 145)).mono HB1.out.size)).mono HW.out.size))
      obtain ⟨d0, d1, d2, d3, d4, d5, d6, d7, d8, d9, d10⟩ := trm_cells Ht2.out
      obtain ⟨e0, e1, e2, e3, e4⟩ := cellK_of Hk2.out
      clear hb1 c0 c1 c2 c3 c4 c5 c6 c7 c8 c9 c10 HOf Ht1
      go_wp2_with fail
      refine (HFt.out _ HW2.out).mono ?_
      rintro e w2 ⟨rfl, hb2⟩
      have Ht3 := hidD (Ht2.out.below hb2)
      have Hk3 := hidD ((hb2.block _ (lt_of_blk Hk2.out)).trans Hk2.out)
      have HW3 := hidD (HW2.out.trans (hb2.mono HW2.out.size))
      have HO3 := hidD (((HO.out.below HB1.out).below (al_bel w1 (.cells #[.int .i64 (kdG ix).num, .string (kdG ix).word, .slice p q q, .int .i64 (kdG ix).parts, .func (.func (kdG ix).mean) #[] #[]] 145))).below hb2)
      clear hb2 d0 d1 d2 d3 d4 d5 d6 d7 d8 d9 d10 e0 e1 e2 e3 e4 HFt Ht2 Hk2 HW2
      cases F
      · have HBf := hidD (HBd.out (by rw [HSt.out]; rfl))
        have HBB := hidD (HB.out.trans (HW3.out.mono HB.out.size))
        clear HBd HSt
        go_wp2_with fail
        go_ret3
        exact ⟨_, _, _, rfl, HBf.out, HBB.out⟩
      have HSt2 : Hid (mS ts (k + 1) = jnL xs k m t.a t.b) := by show _ = _; rw [HSt.out, if_pos rfl]
      obtain ⟨d0, d1, d2, d3, d4, d5, d6, d7, d8, d9, d10⟩ := trm_cells Ht3.out
      obtain ⟨e0, e1, e2, e3, e4⟩ := cellK_of Hk3.out
      clear HSt
      go_wp2_with fail
      refine (HPa.out _).mono ?_
      rintro e w3 ⟨rfl, hp3, hb3⟩
      have HW4 := hidD (HW3.out.trans (hb3.mono HW3.out.size))
      have HJ := hidD (joined_any _ _ xs k t.a t.b m _ w3 (HO3.out.below hb3) HW4.out.size HSm.out HM2.out hp3)
      clear hb3 hp3 d0 d1 d2 d3 d4 d5 d6 d7 d8 d9 d10 e0 e1 e2 e3 e4
      go_wp2_with fail
      refine HJ.out.mono ?_
      rintro e w4 ⟨hj, hb4⟩
      have HW5 := hidD (HW4.out.trans hb4)
      clear hb4 HJ
      cases hj with
      | no hn0 =>
        have HBf := hidD (HBd.out (by rw [HSt2.out]; exact hn0))
        have HBB := hidD (HB.out.trans (HW5.out.mono HB.out.size))
        clear hn0 HBd HSt2
        go_wp2_with fail
        go_ret3
        exact ⟨_, _, _, rfl, HBf.out, HBB.out⟩
      | yes v4 ys hy ho4 =>
        have HO5 := hidD ho4
        have HNx : Hid (mS ts (k + 1) = some ys) := by show _ = _; rw [HSt2.out]; exact hy
        clear ho4 hy HBd HSt2
        go_wp2_with fail
        go_roundw
        case rel => exact ⟨k + 1, ys, by omega, by simp, HNx, HO5, HW5⟩
        case measure => simp [intOf]; omega
    · obtain rfl : k = n := by omega
      have i1 : ¬ (k : Int) < (k : Int) := by omega
      obtain ⟨a1, a2, a3⟩ := mS_sm k HMs.out
      have HBf := hidD (HB.out.trans (HW.out.mono HB.out.size))
      have HKl := hidD HS.out.2.1
      obtain ⟨pv, cc, gg, hv, hcc, hp, hpn, _, hcl, _⟩ := HO.out.src
      obtain ⟨L, hLx⟩ : ∃ L, xs.length = L := ⟨_, rfl⟩
      have HLx := hidD hLx
      rw [hLx] at hcc hp hcl hv a1
      subst hv
      by_cases h0 : k = 0
      · subst h0
        obtain rfl : L = 0 := by omega
        have HRs : Hid (MesR ts 0 171 0) := .empty HKl.out
        clear hLx hp hpn hcl a1 a2 a3 HO
        go_wp2_with fail
        go_ret3
        exact ⟨_, _, _, rfl, HRs.out, HBf.out⟩
      have hL1 : 1 ≤ L := by rw [← hLx]; exact a3 (by omega)
      obtain rfl := hp (by omega)
      have j0 : ((L : Int) == 0) = false := beq_eq_false_iff_ne.2 (by omega)
      by_cases h1 : 1 < L
      · have HRs : Hid (MesR ts 0 171 ((ts.length : Int) - 1)) := .more xs HL.out (by rw [HKl.out]; exact HMs.out) (by omega)
        have j1 : (1 : Int) < (L : Int) := by omega
        rw [HKl.out] at HRs
        clear hLx hp hpn hcl a1 a2 a3 HO h1
        go_wp2_with fail
        go_ret3
        exact ⟨_, _, _, rfl, HRs.out, HBf.out⟩
      obtain rfl : L = 1 := by omega
      obtain ⟨x0, x1⟩ := hcl 0 (by omega)
      rw [Nat.zero_mul, Nat.zero_add] at x1
      have hxx : xs = [((xs.getD 0 (0, 0)).1, (xs.getD 0 (0, 0)).2)] := by
        match xs, hLx with
        | [x], _ => rfl
      have HX : Hid (mS ts ts.length = some [((xs.getD 0 (0, 0)).1, (xs.getD 0 (0, 0)).2)]) := by show _ = _; rw [HKl.out, ← hxx]; exact HMs.out
      generalize (xs.getD 0 (0, 0)).1 = pp at HX
      generalize (xs.getD 0 (0, 0)).2 = d at HX x1
      clear hLx hp hpn hcl a1 a2 a3 HO h1 x0 hxx HMs HLx
      by_cases hd : 64 < d
      · have HRs : Hid (MesR ts 0 172 ((ts.length : Int) - 1)) := .deep pp d HL.out HX.out hd
        rw [HKl.out] at HRs
        go_wp2_with fail
        go_ret3
        exact ⟨_, _, _, rfl, HRs.out, HBf.out⟩
      · have HRs : Hid (MesR ts d 0 0) := .ok pp d HL.out HX.out (by omega)
        go_wp2_with fail
        go_ret3
        exact ⟨_, _, _, rfl, HRs.out, HBf.out⟩
end Go.Proofs.YtienedhaogjahaaGreatDoor
namespace Go.Proofs.YtienedhaogjahaaGreatDoor
open Go.RowKit

theorem below_drewNm {B : Nat} {w w2 : World} {n : Nat} (hb : Below B w w2) : Below B w (w2.drewN n) := ⟨hb.os, hb.tape, hb.output, hb.size, hb.block⟩
theorem eqP_refl (p : Opr) : eqP p p = true := by simp [eqP]
theorem eqP_nrun (p q : Opr) (w : World) : (binOp .neq 66 (.agg (opD p)) (.agg (opD q))).run Tryz.prog w = .ok (.bool (!(eqP p q))) w := by
  have h := eqP_run p q w
  rw [run_eql_struct] at h
  rw [run_neq_struct]
  generalize (Op.equalIn 10000 66 (.agg (opD p)) (.agg (opD q))).run Tryz.prog w = z at h ⊢
  cases z with
  | ok b w' =>
    have h' : Result.ok (Value.bool b) w' = Result.ok (Value.bool (eqP p q)) w := h
    injection h' with h1 h2
    injection h1 with h1
    subst h1 h2
    rfl
  | _ => cases h

set_option maxRecDepth 20000 in
set_option maxHeartbeats 12800000 in
theorem r18Same_same (l : List Opr) (N : Nat) (p q : Option Addr) (b off c g off' c' : Nat) (w : World) (hl : OSrc w p b off l) (hm : DSrc w q g off' l) (hN : l.length = N) (hc : N * 72 ≤ 140737488355328) :
    Calls Tryz.prog 11 #[.slice p N c, .slice q N c'] w fun e w' => e = .returned (.bool true) ∧ Below w.heap.size w w' := by
  have HO := hidD (r18Of_any l N p b off c w hl hN hc)
  have HS := hidD (And.intro hm hN)
  have hc2 : N ≤ 140737488355328 := by omega
  clear hl hm hc hN
  go_enter Tryz.func11, Tryz.ntmps11
  go_wp2_with fail
  refine HO.out.mono ?_
  rintro e w1 ⟨⟨k0, cq, rfl, ho⟩, hb⟩
  obtain ⟨g2, hd⟩ := dsrc_of ho HS.out.2
  have H1 := hidD (And.intro hb hd)
  clear ho hb hd HO
  go_wp2_with fail
  go_loopw [6] (fun i wr => ∃ k : Nat, k ≤ N ∧ i = .int .i64 k ∧ Hid (Below w.heap.size w wr) ∧ Hid (DSrc wr k0 g2 0 l)) (fun i _ => N - (intOf i).toNat)
  case atStart => exact ⟨0, Nat.zero_le _, rfl, H1.out.1, H1.out.2⟩
  case round =>
    obtain ⟨k, hk, rfl, HB, HD⟩ := hrel
    by_cases hlt : k < N
    · have hlt' : k < l.length := by rw [HS.out.2]; exact hlt
      have HSr := hidD (HS.out.1.below HB.out)
      obtain rfl := HSr.out.at_ (by omega)
      obtain rfl := HD.out.at_ (by omega)
      have c0 := HSr.out.c0 k hlt'
      have c1 := HSr.out.c1 k hlt'
      have c2 := HSr.out.c2 k hlt'
      have c3 := HSr.out.c3 k hlt'
      have c4 := HSr.out.c4 k hlt'
      have c5 := HSr.out.c5 k hlt'
      have c6 := HSr.out.c6 k hlt'
      have c7 := HSr.out.c7 k hlt'
      have c8 := HSr.out.c8 k hlt'
      have d0 := HD.out.c0 k hlt'
      have d1 := HD.out.c1 k hlt'
      have d2 := HD.out.c2 k hlt'
      have d3 := HD.out.c3 k hlt'
      have d4 := HD.out.c4 k hlt'
      have d5 := HD.out.c5 k hlt'
      have d6 := HD.out.c6 k hlt'
      have d7 := HD.out.c7 k hlt'
      have d8 := HD.out.c8 k hlt'
      simp only [Nat.zero_add] at d0 d1 d2 d3 d4 d5 d6 d7 d8
      have heq := fun w => eqP_nrun (l.getD k opr0) (l.getD k opr0) w
      rw [eqP_refl] at heq
      generalize l.getD k opr0 = o at *
      unfold opD at heq
      have i1 : (k : Int) < (N : Int) := by omega
      clear hlt'
      go_wp2_with fail
      go_quiet (fail)
      go_wp2_with fail
      go_roundw
      case rel => exact ⟨k + 1, by omega, by simp, below_drewNm HB.out, HD.out.below (below_drewNm (Below.refl _ _))⟩
      case measure => simp [intOf]; omega
    · obtain rfl : k = N := by omega
      go_wp2_with fail
      go_ret
      exact ⟨rfl, HB.out⟩
end Go.Proofs.YtienedhaogjahaaGreatDoor
namespace Go.Proofs.YtienedhaogjahaaGreatDoor
open Go.RowKit

set_option maxRecDepth 20000 in
set_option maxHeartbeats 25600000 in
theorem compiled_any (t : List Trm) (n c K : Nat) (p0 : Option Addr) (g o : Nat) (hn : t.length = n) (hn2 : n ≤ 100000) (S : Nat → List Opr × List (Int × Bool)) (hS0 : S 0 = ([], [((n : Int) - 1, false)])) (hSK : (S K).2 = [])
    (hS : ∀ k < K, ∃ (r : List (Int × Bool)) (i : Nat) (vb : Bool), (S k).2 = r ++ [((i : Int), vb)] ∧ i < n ∧ CStep (t.getD i trm0) (S k).1 r ((i : Int), vb) (S (k + 1)))
    (hl : ∀ k ≤ K, (S k).1.length ≤ 100000 ∧ (S k).2.length ≤ 100000) (w : World) (ht : TSrc w p0 g o t) :
    Calls Tryz.prog 22 #[.slice p0 n c] w fun e w' => ∃ v, e = .returned v ∧ w'.ownsRow w.heap.size 47 9 v (S K).1.length (rowV opC (S K).1) ∧ Below w.heap.size w w' := by
  have HT := hidD ht
  have HN := hidD hn
  have HS := hidD hS
  have HK := hidD hSK
  have HL := hidD hl
  have HO0 := hidD (orow_nil w.heap.size w 47 9)
  have hst := store_fltD
  have hf2 := fieldC2
  have H0 : Hid (CmI w S (.slice none 0 0) (.slice (some ⟨w.heap.size, 0, none⟩) 1 1) (w.alloc (.cells #[.int .i64 ((n : Int) - 1), .bool false] 95)) 0) := by
    refine CmI.next hS0 (orow_below (orow_nil _ _ _ _) (al_bel _ _)) ?_ (al_bel _ _)
    exact ⟨rfl, .inr ⟨w.heap.size, 1, _, rfl, Nat.le_refl _, heap_alloc_new _ _, Nat.le_refl _, by decide, rfl, rfl⟩⟩
  have i9 : (0 : Int) ≤ (n : Int) := by omega
  have i8 : (n : Int) ≤ 100000 := by omega
  clear ht hn hS hSK hl hS0
  go_enter Tryz.func22, Tryz.ntmps22
  go_wp2_with fail
  go_loopw [3, 4] (fun lv sv wr => ∃ k, k ≤ K ∧ Hid (CmI w S lv sv wr k)) (fun lv sv wr => K - maxK (CmI w S lv sv wr) K)
  case atStart => exact ⟨0, Nat.zero_le _, H0⟩
  case round =>
    clear H0
    obtain ⟨k0, hk0, H0⟩ := hrel
    have hkm := maxK_le (CmI w S u3 u4 wr) K
    have HI := hidD (maxK_sat H0.out K hk0)
    have HM : Hid (∀ lv' sv' wr', CmI w S lv' sv' wr' (maxK (CmI w S u3 u4 wr) K + 1) → maxK (CmI w S u3 u4 wr) K < K → K - maxK (CmI w S lv' sv' wr') K < K - maxK (CmI w S u3 u4 wr) K) := fun lv' sv' wr' h hk => by
      have := le_maxK h K (by omega)
      have := maxK_le (CmI w S lv' sv' wr') K
      omega
    obtain ⟨k, ek⟩ : ∃ k, maxK (CmI w S u3 u4 wr) K = k := ⟨_, rfl⟩
    have HM2 : Hid (∀ lv' sv' wr', CmI w S lv' sv' wr' (k + 1) → k < K → K - maxK (CmI w S lv' sv' wr') K < K - maxK (CmI w S u3 u4 wr) K) := fun lv' sv' wr' h hk => HM.out lv' sv' wr' (by rw [ek]; exact h) (by rw [ek]; exact hk)
    rw [ek] at hkm HI
    clear H0 hk0 HM ek
    by_cases hk : k < K
    · obtain ⟨r, i, vb, er, hi, st⟩ := HS.out k hk
      obtain ⟨hl1, hl2⟩ := HL.out k hkm
      obtain ⟨ps, cs, gs, hsv, hcs, _, hps, _, _, hcl, htk⟩ := orow_src HI.out.s
      obtain ⟨pl, cl, gl, hlv, _⟩ := orow_src HI.out.l
      have HLo := hidD HI.out.l
      have HB := hidD HI.out.b
      subst hsv hlv
      rw [er] at hcs hps hcl htk hl2 HM2 ⊢
      rw [List.length_append, List.length_singleton] at hcs hps hcl htk hl2 HM2 ⊢
      obtain rfl := hps (by omega)
      have c0 : wr.cell? ⟨gs, r.length * 2, none⟩ = some (.int .i64 (i : Int)) := (hcl _ (by omega)).trans (rowV_end viC_size r ((i : Int), vb) 0 (by decide))
      have c1 : wr.cell? ⟨gs, r.length * 2 + 1, none⟩ = some (.bool vb) := (hcl _ (by omega)).trans (rowV_end viC_size r ((i : Int), vb) 1 (by decide))
      have HSo := hidD (htk r.length (by omega))
      rw [rowV_last viC_size] at HSo
      have HTr := hidD (HT.out.below HB.out)
      have hil : i < t.length := by rw [HN.out]; exact hi
      obtain rfl := HTr.out.at_ (by omega)
      have t0 := HTr.out.c0 i hil
      have t1 := HTr.out.c1 i hil
      have t2 := HTr.out.c2 i hil
      have t3 := HTr.out.c3 i hil
      have t4 := HTr.out.c4 i hil
      have t5 := HTr.out.c5 i hil
      have t6 := HTr.out.c6 i hil
      have t7 := HTr.out.c7 i hil
      have t8 := HTr.out.c8 i hil
      have t9 := HTr.out.c9 i hil
      have t10 := HTr.out.c10 i hil
      obtain ⟨x, hx⟩ : ∃ x, t.getD i trm0 = x := ⟨_, rfl⟩
      rw [hx] at st t0 t1 t2 t3 t4 t5 t6 t7 t8 t9 t10
      have HKF : Hid (∀ wx, Calls Tryz.prog 42 #[.agg (trC x)] wx fun e w' => (∃ xo xt, e = .returned (.agg #[.int .i64 xo, .int .i64 xt, .bool (tTk x.kind)])) ∧ Below wx.heap.size wx w') := fun wx => (kindFor_any x wx).mono fun e w' ⟨xo, xt, xb, he, ha, hb⟩ => ⟨⟨xo, xt, by rw [he, (ans_term ha).2]⟩, hb⟩
      have HOP := hidD (opOf_any x)
      have HW1 : Hid (Below wr.heap.size wr ((wr.alloc (.cells #[.int .i64 (i : Int), .bool vb] 95)).alloc (.cells #[.int .i64 x.kind, .int .i64 x.a, .int .i64 x.b, .float .f64 x.x, .float .f64 x.y, .int .i64 x.day, .int .i64 x.to, .int .i64 x.cur, .int .i64 x.count, .int .i64 x.n, .int .i64 x.months] 50))) := ((Below.refl _ _).alloc (Nat.le_refl _) _).alloc (by simp) _
      have HX1 : Hid (((wr.alloc (.cells #[.int .i64 (i : Int), .bool vb] 95)).alloc (.cells #[.int .i64 x.kind, .int .i64 x.a, .int .i64 x.b, .float .f64 x.x, .float .f64 x.y, .int .i64 x.day, .int .i64 x.to, .int .i64 x.cur, .int .i64 x.count, .int .i64 x.n, .int .i64 x.months] 50)).heap[wr.heap.size + 1]? = some (.cells #[.int .i64 x.kind, .int .i64 x.a, .int .i64 x.b, .float .f64 x.x, .float .f64 x.y, .int .i64 x.day, .int .i64 x.to, .int .i64 x.cur, .int .i64 x.count, .int .i64 x.n, .int .i64 x.months] 50)) := by
        show _ = _
        rw [al_at, sz_al, if_pos rfl]
      have HV1 : Hid (((wr.alloc (.cells #[.int .i64 (i : Int), .bool vb] 95)).alloc (.cells #[.int .i64 x.kind, .int .i64 x.a, .int .i64 x.b, .float .f64 x.x, .float .f64 x.y, .int .i64 x.day, .int .i64 x.to, .int .i64 x.cur, .int .i64 x.count, .int .i64 x.n, .int .i64 x.months] 50)).heap[wr.heap.size]? = some (.cells #[.int .i64 (i : Int), .bool vb] 95)) := by
        show _ = _
        rw [al_at, sz_al, if_neg (by omega)]; exact heap_alloc_new _ _
      have HS1 := hidD (orow_below HSo.out HW1.out)
      have HL1 := hidD (orow_below HLo.out HW1.out)
      have HLt : Hid (∀ j, (Value.slice pl (S k).1.length cl).ownBlock = some j → ¬ wr.heap.size ≤ j) := fun j hj h => by have := (HLo.out.lt j hj).2; omega
      have HB1 := hidD (HB.out.trans (HW1.out.mono HB.out.size))
      have hgt : g < wr.heap.size := HTr.out.lt (by omega)
      have hgn : g ≠ wr.heap.size := Nat.ne_of_lt hgt
      have HSl : Hid (r.length = r.length) := rfl
      obtain ⟨N, hN⟩ : ∃ N, r.length = N := ⟨_, rfl⟩
      obtain ⟨L, hL⟩ : ∃ L, (S k).1.length = L := ⟨_, rfl⟩
      have HNr := hidD hN
      have HLr := hidD hL
      rw [hN] at hcs c0 c1 HS1 hl2 HM2 ⊢
      rw [hL] at HL1 hl1 HM2 HLt ⊢
      have i0 : (((N + 1 : Nat) : Int) - 1) = (N : Int) := by omega
      have i1 : ¬ (N : Int) < 0 := by omega
      have i2 : (0 : Int) ≤ (N : Int) := by omega
      have i3 : (N : Int) ≤ (cs : Int) := by omega
      have i4 : ¬ (cs : Int) < (N : Int) := by omega
      have i5 : (N : Int) < ((N + 1 : Nat) : Int) := by omega
      have i6 : (0 : Int) < ((N + 1 : Nat) : Int) := by omega
      have i7 : (0 : Int) ≤ (i : Int) := by omega
      have i10 : (i : Int) < (n : Int) := by omega
      clear hN hL er hcl htk hx HSo HLo HTr HI HS HL hil HB
      unfold trC at HKF HOP
      unfold opC at HOP
      have HNe : Hid (∀ j, wr.heap.size ≤ j → some j ≠ (Value.slice pl L cl).ownBlock) := fun j hj e => HLt.out j e.symm hj
      rcases hst' : S (k + 1) with ⟨l', s'⟩
      rw [hst'] at st
      have HNx := hidD hst'
      clear hst'
      cases st with
      | zero hz =>
        have z1 : (x.kind == 1) = true := by rw [hz]; rfl
        clear hz
        go_wp2_with fail
        have HI2 : Hid (CmI w S (.slice pl L cl) (.slice (some ⟨gs, 0, none⟩) N cs) ((wr.alloc (.cells #[.int .i64 (i : Int), .bool vb] 95)).alloc (.cells #[.int .i64 x.kind, .int .i64 x.a, .int .i64 x.b, .float .f64 x.x, .float .f64 x.y, .int .i64 x.day, .int .i64 x.to, .int .i64 x.cur, .int .i64 x.count, .int .i64 x.n, .int .i64 x.months] 50)) (k + 1)) := CmI.next HNx.out (by rw [HLr.out]; exact HL1.out) (by rw [HNr.out]; exact HS1.out) HB1.out
        exact ⟨⟨k + 1, hk, HI2⟩, HM2.out _ _ _ HI2.out hk⟩
      | both hz =>
        have z1 : (x.kind == 1) = false := by rw [hz]; rfl
        have z5 : (x.kind == 5) = true := by rw [hz]; rfl
        clear hz
        have HW4 := hidD (al_bel ((wr.alloc (.cells #[.int .i64 (i : Int), .bool vb] 95)).alloc (.cells #[.int .i64 x.kind, .int .i64 x.a, .int .i64 x.b, .float .f64 x.x, .float .f64 x.y, .int .i64 x.day, .int .i64 x.to, .int .i64 x.cur, .int .i64 x.count, .int .i64 x.n, .int .i64 x.months] 50)) (.cells #[.int .i64 x.b, .bool false, .int .i64 x.a, .bool false] 95))
        have HS4 := hidD (orow_below HS1.out HW4.out)
        have HL4 := hidD (orow_below HL1.out HW4.out)
        have HB4 := hidD (HB1.out.trans (HW4.out.mono HB1.out.size))
        have HC4 : Hid (∀ j u, (rowV viC [(x.b, false), (x.a, false)])[j]? = some u → (((wr.alloc (.cells #[.int .i64 (i : Int), .bool vb] 95)).alloc (.cells #[.int .i64 x.kind, .int .i64 x.a, .int .i64 x.b, .float .f64 x.x, .float .f64 x.y, .int .i64 x.day, .int .i64 x.to, .int .i64 x.cur, .int .i64 x.count, .int .i64 x.n, .int .i64 x.months] 50)).alloc (.cells #[.int .i64 x.b, .bool false, .int .i64 x.a, .bool false] 95)).cell? ⟨wr.heap.size + 1 + 1, j, none⟩ = some u) := fun j u hj => by
          have := new_cells ((wr.alloc (.cells #[.int .i64 (i : Int), .bool vb] 95)).alloc (.cells #[.int .i64 x.kind, .int .i64 x.a, .int .i64 x.b, .float .f64 x.x, .float .f64 x.y, .int .i64 x.day, .int .i64 x.to, .int .i64 x.cur, .int .i64 x.count, .int .i64 x.n, .int .i64 x.months] 50)) #[.int .i64 x.b, .bool false, .int .i64 x.a, .bool false] 95 j u hj
          rw [sz_al, sz_al] at this
          exact this
        go_wp2_with (at_builtin; refine wpList_append_g _ Tryz.underlying96 info_vis rfl (by decide) rfl (.tmp 52) (.tmp 59) rfl w.heap.size (.slice (some ⟨gs, 0, none⟩) N cs) N (rowV viC r) rfl HS4.out HB4.out.size (wr.heap.size + 1 + 1) 2 2 (rowV viC [(x.b, false), (x.a, false)]) rfl rfl HC4.out (rowV_one viC_one _) (by omega) (by omega) ?_; intro v5 w5 ho5 hg5; have HS5 := hidD ho5; have HL5 := hidD (HL4.out.kept hg5 (orow_apart HL4.out HS4.out (by decide))); have HB5 := hidD (HB4.out.trans (orow_grown HS4.out hg5 HB4.out.size)); clear ho5 hg5)
        have HI2 : Hid (CmI w S (.slice pl L cl) v5 w5 (k + 1)) := CmI.next HNx.out (by rw [HLr.out]; exact HL5.out) (row_more (by rw [HNr.out]; exact HS5.out) rfl) HB5.out
        exact ⟨⟨k + 1, hk, HI2⟩, HM2.out _ _ _ HI2.out hk⟩
      | op h1 h5 ho =>
        have z1 : (x.kind == 1) = false := beq_eq_false_iff_ne.2 h1
        have z5 : (x.kind == 5) = false := beq_eq_false_iff_ne.2 h5
        have ho' : (vb || !tTk x.kind) = true := ho
        clear h1 h5 ho
        have HGo : Hid (∀ w2, Below ((wr.alloc (.cells #[.int .i64 (i : Int), .bool vb] 95)).alloc (.cells #[.int .i64 x.kind, .int .i64 x.a, .int .i64 x.b, .float .f64 x.x, .float .f64 x.y, .int .i64 x.day, .int .i64 x.to, .int .i64 x.cur, .int .i64 x.count, .int .i64 x.n, .int .i64 x.months] 50)).heap.size ((wr.alloc (.cells #[.int .i64 (i : Int), .bool vb] 95)).alloc (.cells #[.int .i64 x.kind, .int .i64 x.a, .int .i64 x.b, .float .f64 x.x, .float .f64 x.y, .int .i64 x.day, .int .i64 x.to, .int .i64 x.cur, .int .i64 x.count, .int .i64 x.n, .int .i64 x.months] 50)) w2 → Below w.heap.size w w2 ∧ w2.ownsRow w.heap.size 47 9 (.slice pl L cl) L (rowV opC (S k).1) ∧ w2.ownsRow w.heap.size 95 2 (.slice (some ⟨gs, 0, none⟩) N cs) N (rowV viC r) ∧ w2.heap[wr.heap.size + 1]? = some (.cells #[.int .i64 x.kind, .int .i64 x.a, .int .i64 x.b, .float .f64 x.x, .float .f64 x.y, .int .i64 x.day, .int .i64 x.to, .int .i64 x.cur, .int .i64 x.count, .int .i64 x.n, .int .i64 x.months] 50)) := fun w2 hb2 => ⟨HB1.out.trans (hb2.mono HB1.out.size), orow_below HL1.out hb2, orow_below HS1.out hb2, (hb2.block _ (by rw [sz_al, sz_al]; omega)).trans HX1.out⟩
        cases vb
        · have hk4 : tTk x.kind = false := by simpa using ho'
          rw [hk4] at HKF
          clear ho' hk4
          go_wp2_with fail
          refine (HKF.out _).mono ?_
          rintro e w2 ⟨⟨xo, xt, rfl⟩, hb2⟩
          have HX2 := hidD (HGo.out w2 hb2).2.2.2
          have HA2 := hidD hb2
          clear hb2
          have y0 := (opx_cells HX2.out 0 rfl).1
          have y1 := (opx_cells HX2.out 1 rfl).1
          have y2 := (opx_cells HX2.out 2 rfl).1
          have y3 := (opx_cells HX2.out 3 rfl).1
          have y4 := (opx_cells HX2.out 4 rfl).1
          have y5 := (opx_cells HX2.out 5 rfl).1
          have y6 := (opx_cells HX2.out 6 rfl).1
          have y7 := (opx_cells HX2.out 7 rfl).1
          have y8 := (opx_cells HX2.out 8 rfl).1
          have y9 := (opx_cells HX2.out 9 rfl).1
          have y10 := (opx_cells HX2.out 10 rfl).1
          go_wp2_with fail
          refine (HOP.out _).mono ?_
          rintro e w3 ⟨rfl, hb3⟩
          have HG3 := hidD (HGo.out w3 (HA2.out.trans (hb3.mono HA2.out.size)))
          clear hb3 y0 y1 y2 y3 y4 y5 y6 y7 y8 y9 y10 HX2
          have HW4 := hidD (al_bel w3 (.cells #[.int .i64 (opT x).kind, .float .f64 (opT x).x, .float .f64 (opT x).y, .int .i64 (opT x).day, .int .i64 (opT x).to, .int .i64 (opT x).cur, .int .i64 (opT x).count, .int .i64 (opT x).n, .int .i64 (opT x).months] 47))
          have HS4 := hidD (orow_below HG3.out.2.2.1 HW4.out)
          have HL4 := hidD (orow_below HG3.out.2.1 HW4.out)
          have HB4 := hidD (HG3.out.1.trans (HW4.out.mono HG3.out.1.size))
          have HC4 : Hid (∀ j u, (rowV opC [opT x])[j]? = some u → (w3.alloc (.cells #[.int .i64 (opT x).kind, .float .f64 (opT x).x, .float .f64 (opT x).y, .int .i64 (opT x).day, .int .i64 (opT x).to, .int .i64 (opT x).cur, .int .i64 (opT x).count, .int .i64 (opT x).n, .int .i64 (opT x).months] 47)).cell? ⟨w3.heap.size, j, none⟩ = some u) := fun j u hj => new_cells w3 (opC (opT x)) 47 j u (by simpa [rowV] using hj)
          go_wp2_with (at_builtin; refine wpList_append_g _ Tryz.underlying24 info_opC rfl (by decide) rfl (.tmp 70) (.tmp 73) rfl w.heap.size (.slice pl L cl) L (rowV opC (S k).1) rfl HL4.out HB4.out.size w3.heap.size 1 1 (rowV opC [opT x]) rfl rfl HC4.out (rowV_one opC_one _) (by omega) (by omega) ?_; intro v5 w5 ho5 hg5; have HL5 := hidD ho5; have HS5 := hidD (HS4.out.kept hg5 (orow_apart HS4.out HL4.out (by decide))); have HB5 := hidD (HB4.out.trans (orow_grown HL4.out hg5 HB4.out.size)); clear ho5 hg5)
          have HI2 : Hid (CmI w S v5 (.slice (some ⟨gs, 0, none⟩) N cs) w5 (k + 1)) := CmI.next HNx.out (row_more (by rw [HLr.out]; exact HL5.out) rfl) (by rw [HNr.out]; exact HS5.out) HB5.out
          exact ⟨⟨k + 1, hk, HI2⟩, HM2.out _ _ _ HI2.out hk⟩
        · clear ho'
          go_wp2_with fail
          refine (HOP.out _).mono ?_
          rintro e w3 ⟨rfl, hb3⟩
          have HG3 := hidD (HGo.out w3 hb3)
          clear hb3
          have HW4 := hidD (al_bel w3 (.cells #[.int .i64 (opT x).kind, .float .f64 (opT x).x, .float .f64 (opT x).y, .int .i64 (opT x).day, .int .i64 (opT x).to, .int .i64 (opT x).cur, .int .i64 (opT x).count, .int .i64 (opT x).n, .int .i64 (opT x).months] 47))
          have HS4 := hidD (orow_below HG3.out.2.2.1 HW4.out)
          have HL4 := hidD (orow_below HG3.out.2.1 HW4.out)
          have HB4 := hidD (HG3.out.1.trans (HW4.out.mono HG3.out.1.size))
          have HC4 : Hid (∀ j u, (rowV opC [opT x])[j]? = some u → (w3.alloc (.cells #[.int .i64 (opT x).kind, .float .f64 (opT x).x, .float .f64 (opT x).y, .int .i64 (opT x).day, .int .i64 (opT x).to, .int .i64 (opT x).cur, .int .i64 (opT x).count, .int .i64 (opT x).n, .int .i64 (opT x).months] 47)).cell? ⟨w3.heap.size, j, none⟩ = some u) := fun j u hj => new_cells w3 (opC (opT x)) 47 j u (by simpa [rowV] using hj)
          go_wp2_with (at_builtin; refine wpList_append_g _ Tryz.underlying24 info_opC rfl (by decide) rfl (.tmp 70) (.tmp 73) rfl w.heap.size (.slice pl L cl) L (rowV opC (S k).1) rfl HL4.out HB4.out.size w3.heap.size 1 1 (rowV opC [opT x]) rfl rfl HC4.out (rowV_one opC_one _) (by omega) (by omega) ?_; intro v5 w5 ho5 hg5; have HL5 := hidD ho5; have HS5 := hidD (HS4.out.kept hg5 (orow_apart HS4.out HL4.out (by decide))); have HB5 := hidD (HB4.out.trans (orow_grown HL4.out hg5 HB4.out.size)); clear ho5 hg5)
          have HI2 : Hid (CmI w S v5 (.slice (some ⟨gs, 0, none⟩) N cs) w5 (k + 1)) := CmI.next HNx.out (row_more (by rw [HLr.out]; exact HL5.out) rfl) (by rw [HNr.out]; exact HS5.out) HB5.out
          exact ⟨⟨k + 1, hk, HI2⟩, HM2.out _ _ _ HI2.out hk⟩
      | mark h1 h5 ho =>
        have z1 : (x.kind == 1) = false := beq_eq_false_iff_ne.2 h1
        have z5 : (x.kind == 5) = false := beq_eq_false_iff_ne.2 h5
        have ho' : (vb || !tTk x.kind) = false := ho
        clear h1 h5 ho
        cases vb
        · have hk4 : tTk x.kind = true := by simpa using ho'
          rw [hk4] at HKF
          clear ho' hk4
          go_wp2_with fail
          refine (HKF.out _).mono ?_
          rintro e w2 ⟨⟨xo, xt, rfl⟩, hb2⟩
          have HX2 : Hid (w2.heap[wr.heap.size + 1]? = some (.cells #[.int .i64 x.kind, .int .i64 x.a, .int .i64 x.b, .float .f64 x.x, .float .f64 x.y, .int .i64 x.day, .int .i64 x.to, .int .i64 x.cur, .int .i64 x.count, .int .i64 x.n, .int .i64 x.months] 50)) := (hb2.block _ (by rw [sz_al, sz_al]; omega)).trans HX1.out
          have HV2 : Hid (w2.heap[wr.heap.size]? = some (.cells #[.int .i64 (i : Int), .bool false] 95)) := (hb2.block _ (by rw [sz_al, sz_al]; omega)).trans HV1.out
          have HB2 := hidD (HB1.out.trans (hb2.mono HB1.out.size))
          have HL2 := hidD (orow_below HL1.out hb2)
          have HS2 := hidD (orow_below HS1.out hb2)
          have HZ2 : Hid (wr.heap.size + 1 < w2.heap.size) := lt_of_blk HX2.out
          clear hb2
          have HW4 := hidD (al_bel w2 (.cells #[.int .i64 1, .float .f64 0, .float .f64 0, .int .i64 0, .int .i64 0, .int .i64 0, .int .i64 0, .int .i64 0, .int .i64 0] 47))
          have HS4 := hidD (orow_below HS2.out HW4.out)
          have HL4 := hidD (orow_below HL2.out HW4.out)
          have HB4 := hidD (HB2.out.trans (HW4.out.mono HB2.out.size))
          have HC4 : Hid (∀ j u, (rowV opC [markO])[j]? = some u → (w2.alloc (.cells #[.int .i64 1, .float .f64 0, .float .f64 0, .int .i64 0, .int .i64 0, .int .i64 0, .int .i64 0, .int .i64 0, .int .i64 0] 47)).cell? ⟨w2.heap.size, j, none⟩ = some u) := fun j u hj => new_cells w2 (opC markO) 47 j u (by simpa [rowV] using hj)
          go_wp2_with (first | (at_builtin; refine wpList_append_g _ Tryz.underlying24 info_opC rfl (by decide) rfl (.tmp 31) (.tmp 33) rfl w.heap.size (.slice pl L cl) L (rowV opC (S k).1) rfl HL4.out HB4.out.size w2.heap.size 1 1 (rowV opC [markO]) rfl rfl HC4.out (rowV_one opC_one _) (by omega) (by omega) ?_; intro v5 w5 ho5 hg5; have HL5 := hidD ho5; have HS5 := hidD (HS4.out.kept hg5 (orow_apart HS4.out HL4.out (by decide))); have HB5 := hidD (HB4.out.trans (orow_grown HL4.out hg5 HB4.out.size)); have HX5 : Hid (w5.heap[wr.heap.size + 1]? = some (.cells #[.int .i64 x.kind, .int .i64 x.a, .int .i64 x.b, .float .f64 x.x, .float .f64 x.y, .int .i64 x.day, .int .i64 x.to, .int .i64 x.cur, .int .i64 x.count, .int .i64 x.n, .int .i64 x.months] 50)) := (hg5.block _ (Nat.lt_of_lt_of_le HZ2.out HW4.out.size) (HNe.out _ (by omega))).trans ((HW4.out.block _ HZ2.out).trans HX2.out); have HV5 : Hid (w5.heap[wr.heap.size]? = some (.cells #[.int .i64 (i : Int), .bool false] 95)) := (hg5.block _ (Nat.lt_of_lt_of_le (Nat.lt_of_succ_lt HZ2.out) HW4.out.size) (HNe.out _ (by omega))).trans ((HW4.out.block _ (Nat.lt_of_succ_lt HZ2.out)).trans HV2.out); have e0 := (opx_cells HV5.out 0 rfl).1; have e1 := (opx_cells HX5.out 1 rfl).1; have HW6 := hidD (al_bel w5 (.cells #[.int .i64 (i : Int), .bool true, .int .i64 x.a, .bool false] 95)); have HS6 := hidD (orow_below HS5.out HW6.out); have HL6 := hidD (orow_below (row_more (a := (S k).1) (b := [markO]) (by rw [HLr.out]; exact HL5.out) rfl) HW6.out); have HB6 := hidD (HB5.out.trans (HW6.out.mono HB5.out.size)); have HC6 : Hid (∀ j u, (rowV viC [((i : Int), true), (x.a, false)])[j]? = some u → (w5.alloc (.cells #[.int .i64 (i : Int), .bool true, .int .i64 x.a, .bool false] 95)).cell? ⟨w5.heap.size, j, none⟩ = some u) := fun j u hj => new_cells w5 #[.int .i64 (i : Int), .bool true, .int .i64 x.a, .bool false] 95 j u hj; clear ho5 hg5) | (at_builtin; refine wpList_append_g _ Tryz.underlying96 info_vis rfl (by decide) rfl (.tmp 35) (.tmp 42) rfl w.heap.size (.slice (some ⟨gs, 0, none⟩) N cs) N (rowV viC r) rfl HS6.out HB6.out.size w5.heap.size 2 2 (rowV viC [((i : Int), true), (x.a, false)]) rfl rfl HC6.out (rowV_one viC_one _) (by omega) (by omega) ?_; intro v7 w7 ho7 hg7; have HS7 := hidD ho7; have HL7 := hidD (HL6.out.kept hg7 (orow_apart HL6.out HS6.out (by decide))); have HB7 := hidD (HB6.out.trans (orow_grown HS6.out hg7 HB6.out.size)); clear ho7 hg7))
          have HI2 : Hid (CmI w S v5 v7 w7 (k + 1)) := CmI.next HNx.out HL7.out (row_more (by rw [HNr.out]; exact HS7.out) rfl) HB7.out
          exact ⟨⟨k + 1, hk, HI2⟩, HM2.out _ _ _ HI2.out hk⟩
        · simp at ho'
    · obtain rfl : k = K := by omega
      obtain ⟨ps, cs, gs, hsv, _⟩ := orow_src HI.out.s
      obtain ⟨pl, cl, gl, hlv, _⟩ := orow_src HI.out.l
      subst hsv hlv
      rw [HK.out]
      go_wp2_with fail
      go_ret
      exact ⟨_, rfl, HI.out.l, HI.out.b⟩
end Go.Proofs.YtienedhaogjahaaGreatDoor
