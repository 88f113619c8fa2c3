/- The contracts of package acc's put, meet, Add, Prod, New. -/
import Derived.Test.YtdmldggjgaaliaaGreatAccH
namespace Go.Proofs.YtdmldggjgaaliaaGreat.A
open Go.RowKit

/-- What a method leaves: the Acc in a new state, nothing else written. -/
structure Did (w w' : World) (B b : Nat) (v : Value) (L : Nat) (a : St) (v' : Value) : Prop where
  acc : AccAt w' B b v' L a
  wrote : Wrote w w' (Ft b v)
  new : New w v v'
theorem sub2148 (e : Int) (sh : Nat) (h : e + 2148 = sh) : e - -2148 = sh := by omega
theorem or_zero {hi lo : Nat} : hi ||| lo = 0 ↔ hi = 0 ∧ lo = 0 := Nat.or_eq_zero_iff

theorem st_eq {w : World} {B b : Nat} {v : Value} {L : Nat} {a : St} (h : AccAt w B b v L a) (h0 : a.s = 0) : AccAt w B b v L ⟨0, a.N⟩ := by
  obtain ⟨s, N⟩ := a
  dsimp only at h0
  subst h0; exact h
set_option maxHeartbeats 800000 in
theorem put_any (B b : Nat) (v : Value) (L : Nat) (a : St) (hi lo sh : Nat) (e : Int) (less : Bool) (w : World) (h : AccAt w B b v L a) (hB : B ≤ w.heap.size) (hhi : hi < 4398046511104) (hlo : lo < 18446744073709551616) (he : e + 2148 = (sh : Int)) (hsh : sh ≤ 4300) (hL : L ≤ 40000) :
    Calls Tryz.prog 37 #[.pointer (some ⟨b, 0, none⟩), .int .u64 (hi : Int), .int .u64 (lo : Int), .int .i64 e, .bool less] w fun x w' => x = .returned (.tuple #[]) ∧ ∃ v', Did w w' B b v (max L 70 + 1) ⟨a.s, if a.s = 0 then a.N + sI less * (((hi * 18446744073709551616 + lo) * 2 ^ sh : Nat) : Int) else a.N⟩ v' := by
  have HA := hideS h
  have c0 := h.cell0
  have c1 := h.cell1
  have hor := bits_or_u64_nat hi lo (by omega) hlo
  obtain ⟨xs, ho, hl, hs⟩ := h.own
  have HW := hideS (with_any B v xs a.N hi lo sh less w ho hs hhi hlo (by omega) (by omega) hB)
  have HO := hideS (And.intro ho (And.intro hl hs))
  clear h ho hl hs
  by_cases h0 : a.s = 0
  · rw [if_pos h0, h0]
    rw [h0] at c0
    by_cases hz : hi ||| lo = 0
    · obtain ⟨rfl, rfl⟩ := or_zero.1 hz
      have hor2 : bits .or .u64 0 0 = 0 := rfl
      clear hor
      go_enter Tryz.func37, Tryz.ntmps37
      go_wp2
      go_end0
      refine ⟨rfl, v, ?_, Wrote.refl _ _, New.refl _ _⟩
      have := HA.out.mono (L' := max L 70 + 1) (by omega)
      simpa [h0] using st_eq this h0
    · obtain ⟨q, hq⟩ : ∃ q : Int, ((hi ||| lo : Nat) : Int) = q := ⟨_, rfl⟩
      rw [hq] at hor
      have hq0 : (q != 0) = true := by simp; omega
      clear hz hq
      go_enter Tryz.func37, Tryz.ntmps37
      go_wp2_with fail
      refine HW.out.mono ?_
      rintro x w1 ⟨v1, zs, rfl, o1, l1, s1, r1, n1⟩
      obtain ⟨p1, g1, cc1, rfl, _⟩ := o1.shape
      obtain ⟨d1, fz⟩ := HA.out.wroteAt r1
      have R := hideS (HA.out.stored r1 o1 (L' := max L 70 + 1) (by have := HO.out.2.1; omega) s1 n1 (fun h => absurd h0 h))
      have RN := hideS n1
      clear o1 l1 s1 r1 n1 HW
      go_wp2_with fail
      go_end0
      refine ⟨rfl, _, ?_, R.out.2, RN.out⟩
      rw [h0] at R
      exact R.out.1
  · rw [if_neg h0]
    have hs3 := HA.out.ok.s3
    obtain ⟨t, ht⟩ : ∃ t : Int, ((a.s : Nat) : Int) = t := ⟨_, rfl⟩
    rw [ht] at c0
    have ht0 : (t == 0) = false := by simp; omega
    clear ht hor HW
    go_enter Tryz.func37, Tryz.ntmps37
    go_wp2_with fail
    go_end0
    exact ⟨rfl, v, HA.out.mono (by omega), Wrote.refl _ _, New.refl _ _⟩

theorem AccAt.setState {w : World} {B b : Nat} {v : Value} {L : Nat} {a : St} (h : AccAt w B b v L a) (t : Nat) (ht : t ≤ 3) (h0 : t ≠ 0 → a.N = 0) :
    AccAt (w.setCell ⟨b, 0, none⟩ (.int .u8 (t : Int))) B b v L ⟨t, a.N⟩ ∧ Wrote w (w.setCell ⟨b, 0, none⟩ (.int .u8 (t : Int))) (fun k => k = b) := by
  have hset : Wrote w (w.setCell ⟨b, 0, none⟩ (.int .u8 (t : Int))) (fun k => k = b) := ⟨rfl, rfl, rfl, by simp, fun k _ hk => Below.heap_setCell w ⟨b, 0, none⟩ _ k hk⟩
  obtain ⟨xs, ho, hl, hs⟩ := h.own
  refine ⟨⟨?_, h.lo, ⟨xs, ho.wrote hset (fun k hk e => h.ne (by rw [← e]; exact hk)), hl, hs⟩, h.ne, ⟨ht, h0⟩⟩, hset⟩
  rw [heap_setCell_same w b 0 _ _ _ h.blk]; rfl
theorem AccAt.setNil {w : World} {B b : Nat} {v : Value} {L : Nat} {a : St} {t : Nat} (h : AccAt w B b v L a) (ht : t ≤ 3) (hbk : ∀ w', w' = w.setCell ⟨b, 0, none⟩ (.int .u8 (t : Int)) → True) :
    AccAt ((w.setCell ⟨b, 0, none⟩ (.int .u8 (t : Int))).setCell ⟨b, 1, none⟩ (.slice none 0 0)) B b (.slice none 0 0) L ⟨t, 0⟩ ∧ Wrote w ((w.setCell ⟨b, 0, none⟩ (.int .u8 (t : Int))).setCell ⟨b, 1, none⟩ (.slice none 0 0)) (fun k => k = b) := by
  have := hbk _ rfl
  have h1 := heap_setCell_same w b 0 _ _ (.int .u8 (t : Int)) h.blk
  have hset : Wrote w ((w.setCell ⟨b, 0, none⟩ (.int .u8 (t : Int))).setCell ⟨b, 1, none⟩ (.slice none 0 0)) (fun k => k = b) :=
    ⟨rfl, rfl, rfl, by simp, fun k _ hk => (Below.heap_setCell _ ⟨b, 1, none⟩ _ k hk).trans (Below.heap_setCell w ⟨b, 0, none⟩ _ k hk)⟩
  refine ⟨⟨?_, h.lo, ⟨[], ⟨World.ownsRow_nil _ _ _ _, fun i => by simp⟩, Nat.zero_le _, sg_nil⟩, fun e => (by cases e), ⟨ht, fun _ => rfl⟩⟩, hset⟩
  rw [heap_setCell_same _ b 1 _ _ _ h1]; rfl

set_option maxHeartbeats 800000 in
theorem meet_any (B b : Nat) (v : Value) (L : Nat) (a : St) (t : Nat) (w : World) (h : AccAt w B b v L a) (ht : t ≤ 3) :
    Calls Tryz.prog 35 #[.pointer (some ⟨b, 0, none⟩), .int .u8 (t : Int)] w fun x w' => x = .returned (.tuple #[]) ∧ ∃ v', Did w w' B b v L ⟨mt a.s t, if mt a.s t = 0 then a.N else 0⟩ v' ∧ (mt a.s t = 0 → v' = v) := by
  have HA := hideS h
  have c0 := h.cell0
  have c1 := h.cell1
  have f0 := h.frozen 0
  have f1 := h.frozen 1
  have hs3 := h.ok.s3
  have HJ := hideS (fun w => joined_any a.s t w hs3 ht)
  have hm3 := mt_lt hs3 ht
  have HB := hideS h.blk
  by_cases h0 : mt a.s t = 0
  · rw [if_pos h0, h0]
    have HS := hideS (h.setState 0 (by omega) (fun h => absurd rfl h))
    rw [h0] at HJ
    have d0 : (w.setCell ⟨b, 0, none⟩ (.int .u8 0)).cell? ⟨b, 0, none⟩ = some (.int .u8 0) := HS.out.1.cell0
    clear h hs3 hm3 HB
    generalize (a.s : Int) = q at c0 HJ
    go_enter Tryz.func35, Tryz.ntmps35
    go_wp2_with (go_at_call 61; refine (turned (HJ.out _)).mono ?_; rintro e w' ⟨rfl, rfl⟩)
    go_end0
    exact ⟨rfl, v, ⟨HS.out.1, HS.out.2.mono (fun k hk => Or.inl hk), New.refl _ _⟩, fun _ => rfl⟩
  · rw [if_neg h0]
    have HS := hideS (h.setNil hm3 (fun _ _ => trivial))
    have HS0 : Hid ((w.setCell ⟨b, 0, none⟩ (.int .u8 (mt a.s t : Nat))).cell? ⟨b, 0, none⟩ = some (.int .u8 (mt a.s t : Nat)) ∧ (w.setCell ⟨b, 0, none⟩ (.int .u8 (mt a.s t : Nat))).cell? ⟨b, 1, none⟩ = some v ∧ (w.setCell ⟨b, 0, none⟩ (.int .u8 (mt a.s t : Nat))).frozen? ⟨b, 1, none⟩ = false) := by
      have h1 := heap_setCell_same w b 0 _ _ (.int .u8 (mt a.s t : Nat)) h.blk
      exact ⟨by simp [World.cell?, h1], by simp [World.cell?, h1], by simp [World.frozen?, h1]⟩
    obtain ⟨d0, d1, d2⟩ := HS0.out
    have hq0 : ¬ ((mt a.s t : Nat) : Int) = 0 := by omega
    clear h hs3 hm3 HB HS0
    have HM := hideS h0
    clear h0
    generalize (a.s : Int) = q at c0 HJ
    obtain ⟨r, hr⟩ : ∃ r : Int, ((mt a.s t : Nat) : Int) = r := ⟨_, rfl⟩
    have hr0 : (r != 0) = true := by rw [← hr]; simpa using hq0
    rw [hr] at HJ HS d0 d1 d2
    clear hq0
    go_enter Tryz.func35, Tryz.ntmps35
    go_wp2_with (go_at_call 61; refine (turned (HJ.out _)).mono ?_; rintro e w' ⟨rfl, rfl⟩)
    go_end0
    exact ⟨rfl, .slice none 0 0, ⟨HS.out.1, HS.out.2.mono (fun k hk => Or.inl hk), fun k hk => by cases hk⟩, fun e => absurd e HM.out⟩
end Go.Proofs.YtdmldggjgaaliaaGreat.A
