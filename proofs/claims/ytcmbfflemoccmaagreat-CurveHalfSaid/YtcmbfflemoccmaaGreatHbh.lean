/- Accs in memory; the contracts of the methods that put things in. The contracts of package acc's put, meet, Add, Prod, New. The contracts of package acc's New, Add, Prod (of numbers), Turn, Value, Sign. The contracts of package acc's Prod (of numbers), Turn, Value, Sign. The contracts of package acc's Turn, Copy, Merge, Same. Division of words by a word; the contract of package acc's Over. The contracts of package acc's Sum and Dot (of numbers). The division of two words by one, digit by digit: what the trial digits are. The contract of math/bits.Div64 at any words. -/
import Derived.Test.YtcmbfflemoccmaaGreatHbg
import Derived.Test.YtcmbfflemoccmaaGreatHap
namespace Go.Proofs.YtcmbfflemoccmaaGreat.A
open Go.RowKit

structure St where
  s : Nat
  N : Int
def mt (s t : Nat) : Nat := if s = t ∨ t = 0 then s else if s = 0 then t else 3
def St.merge (a b : St) : St := ⟨mt a.s b.s, if mt a.s b.s = 0 then a.N + b.N else 0⟩
def endN (u : Int) : Nat := if nanB u then 3 else if sgB u then 2 else 1
def unitI (u : Int) : Int := splM u * 2 ^ (splE u + 2148).toNat
def oneS (u : Int) : St := if splOk u then ⟨0, unitI u⟩ else ⟨endN u, 0⟩
def prodS (u v : Int) : St := ⟨0, splM u * splM v * 2 ^ (splE u + splE v + 2148).toNat⟩
structure St.Ok (a : St) : Prop where
  s3 : a.s ≤ 3
  n0 : a.s ≠ 0 → a.N = 0

structure AccAt (w : World) (B b : Nat) (v : Value) (L : Nat) (a : St) : Prop where
  blk : w.heap[b]? = some (.cells #[.int .u8 (a.s : Int), v] 211 (0, 0))
  lo : B ≤ b
  own : ∃ xs, OwnW w B v xs ∧ xs.length ≤ L ∧ Sg xs a.N
  ne : v.ownBlock ≠ some b
  ok : a.Ok
def Ft (b : Nat) (v : Value) (k : Nat) : Prop := k = b ∨ At v k
theorem AccAt.lt {w : World} {B b : Nat} {v : Value} {L : Nat} {a : St} (h : AccAt w B b v L a) : b < w.heap.size := (Array.getElem?_eq_some_iff.1 h.blk).1
theorem AccAt.base {w : World} {B b : Nat} {v : Value} {L : Nat} {a : St} (h : AccAt w B b v L a) : ∀ k, Ft b v k → B ≤ k ∧ k < w.heap.size := by
  rintro k (rfl | hk)
  · exact ⟨h.lo, h.lt⟩
  · obtain ⟨xs, ho, _⟩ := h.own; exact ho.lt k hk
theorem AccAt.wrote {w w' : World} {B b : Nat} {v : Value} {L : Nat} {a : St} {F : Nat → Prop} (h : AccAt w B b v L a) (hw : Wrote w w' F) (hF : ∀ k, Ft b v k → ¬ F k) : AccAt w' B b v L a := by
  obtain ⟨xs, ho, hl, hs⟩ := h.own
  exact ⟨(hw.block b h.lt (hF b (Or.inl rfl))).trans h.blk, h.lo, ⟨xs, ho.wrote hw (fun k hk => hF k (Or.inr hk)), hl, hs⟩, h.ne, h.ok⟩
theorem AccAt.below {w w' : World} {B b : Nat} {v : Value} {L : Nat} {a : St} (h : AccAt w B b v L a) (hw : Below w.heap.size w w') : AccAt w' B b v L a :=
  h.wrote (F := fun _ => False) (wrote_below hw) (fun _ _ hf => hf)
theorem AccAt.drewN {w : World} {B b : Nat} {v : Value} {L : Nat} {a : St} (h : AccAt w B b v L a) (n : Nat) : AccAt (w.drewN n) B b v L a := by
  obtain ⟨xs, ho, hl, hs⟩ := h.own
  exact ⟨h.blk, h.lo, ⟨xs, ho.drewN n, hl, hs⟩, h.ne, h.ok⟩
theorem AccAt.mono {w : World} {B b : Nat} {v : Value} {L L' : Nat} {a : St} (h : AccAt w B b v L a) (hl : L ≤ L') : AccAt w B b v L' a := by
  obtain ⟨xs, ho, hl2, hs⟩ := h.own
  exact ⟨h.blk, h.lo, ⟨xs, ho, by omega, hs⟩, h.ne, h.ok⟩
theorem AccAt.cell0 {w : World} {B b : Nat} {v : Value} {L : Nat} {a : St} (h : AccAt w B b v L a) : w.cell? ⟨b, 0, none⟩ = some (.int .u8 (a.s : Int)) := by simp [World.cell?, h.blk]
theorem AccAt.cell1 {w : World} {B b : Nat} {v : Value} {L : Nat} {a : St} (h : AccAt w B b v L a) : w.cell? ⟨b, 1, none⟩ = some v := by simp [World.cell?, h.blk]
theorem AccAt.frozen {w : World} {B b : Nat} {v : Value} {L : Nat} {a : St} (h : AccAt w B b v L a) (i : Nat) : w.frozen? ⟨b, i, none⟩ = false := by simp [World.frozen?, h.blk]

theorem AccAt.stored {w w1 : World} {B b : Nat} {v v' : Value} {L L' : Nat} {a : St} {zs : List Nat} {M : Int} (h : AccAt w B b v L a) (hw : Wrote w w1 (At v)) (ho : OwnW w1 B v' zs) (hl : zs.length ≤ L') (hs : Sg zs M) (hn : New w v v') (hok : a.s ≠ 0 → M = 0) :
    AccAt (w1.setCell ⟨b, 1, none⟩ v') B b v' L' ⟨a.s, M⟩ ∧ Wrote w (w1.setCell ⟨b, 1, none⟩ v') (Ft b v) := by
  have hne : v'.ownBlock ≠ some b := fun e => by
    rcases hn b e with h1 | h1
    · exact h.ne h1
    · have := h.lt; omega
  have hb : w1.heap[b]? = some (.cells #[.int .u8 (a.s : Int), v] 211 (0, 0)) := (hw.block b h.lt (fun e => h.ne e)).trans h.blk
  have hset : Wrote w1 (w1.setCell ⟨b, 1, none⟩ v') (fun k => k = b) := ⟨rfl, rfl, rfl, by simp, fun k _ hk => Below.heap_setCell w1 ⟨b, 1, none⟩ v' k hk⟩
  refine ⟨⟨?_, h.lo, ⟨zs, ho.wrote hset (fun k hk e => hne (by rw [← e]; exact hk)), hl, hs⟩, hne, ⟨h.ok.s3, hok⟩⟩, ?_⟩
  · rw [heap_setCell_same w1 b 1 _ _ v' hb]; rfl
  · exact (hw.mono (fun k hk => Or.inr hk)).trans hset (fun k _ hk => Or.inl hk)
theorem AccAt.wroteAt {w w1 : World} {B b : Nat} {v : Value} {L : Nat} {a : St} (h : AccAt w B b v L a) (hw : Wrote w w1 (At v)) : w1.cell? ⟨b, 1, none⟩ = some v ∧ w1.frozen? ⟨b, 1, none⟩ = false := by
  have hb : w1.heap[b]? = some (.cells #[.int .u8 (a.s : Int), v] 211 (0, 0)) := (hw.block b h.lt (fun e => h.ne e)).trans h.blk
  exact ⟨by simp [World.cell?, hb], by simp [World.frozen?, hb]⟩

theorem nan_iff' (u : Int) : nanB u = true ↔ 9218868437227405312 < szI u := by simp [nanB]
theorem num_iff' (u : Int) : nanB u = false ↔ szI u ≤ 9218868437227405312 := by simp [nanB]
theorem mt_lt {s t : Nat} (hs : s ≤ 3) (ht : t ≤ 3) : mt s t ≤ 3 := by unfold mt; split <;> (try split) <;> omega
set_option maxHeartbeats 800000 in
theorem joined_any (s t : Nat) (w : World) (hs : s ≤ 3) (ht : t ≤ 3) :
    Calls Tryz.prog 225 #[.int .u8 (s : Int), .int .u8 (t : Int)] w fun e w' => e = .returned (.int .u8 (mt s t : Nat)) ∧ w' = w := by
  rcases (show s = 0 ∨ s = 1 ∨ s = 2 ∨ s = 3 by omega) with rfl | rfl | rfl | rfl
  all_goals rcases (show t = 0 ∨ t = 1 ∨ t = 2 ∨ t = 3 by omega) with rfl | rfl | rfl | rfl
  all_goals
    go_enter Tryz.func225, Tryz.ntmps225
    go_wp2
    go_ret
    exact ⟨rfl, rfl⟩

set_option maxHeartbeats 400000 in
theorem endOf_any (b : Nat) (u : Int) (w : World) (hu : Hid (u = b)) (h : U64 u) (hno : splOk u = false) :
    Calls Tryz.prog 203 #[.float .f64 b] w fun e w' => e = .returned (.int .u8 (endN u : Nat)) ∧ w' = w := by
  have HC := hideS (fun w => class_as b u w hu h)
  have HN := hideS (fun w => negative_any b w (by rw [← hu.out]; exact h))
  rw [← hu.out] at HN
  have hge : 9218868437227405312 ≤ szI u := by simp only [splOk, decide_eq_false_iff_not] at hno; omega
  have HE := hideS (show endN u = if nanB u then 3 else if sgB u then 2 else 1 from rfl)
  cases hnan : nanB u
  · have hc : clsI u = 4 := by
      have := (num_iff' u).1 hnan
      rcases cls_cases u with ⟨a, _⟩ | ⟨a, _⟩ | ⟨a, _⟩ | ⟨_, a⟩ | ⟨a, _⟩
      · omega
      · omega
      · omega
      · exact a
      · omega
    rw [hc] at HC
    rw [hnan] at HN HE
    cases hsg : sgB u
    · rw [hsg] at HN HE
      rw [HE.out]
      clear hu h hno hge hc hnan hsg HE
      go_enter Tryz.func203, Tryz.ntmps203
      go_wp2_with (first | (go_at_call 226; refine (HC.out _).mono ?_; rintro e w' ⟨rfl, rfl⟩) | (go_at_call 227; refine (HN.out _).mono ?_; rintro e w' ⟨rfl, rfl⟩))
      go_ret
      exact ⟨rfl, rfl⟩
    · rw [hsg] at HN HE
      rw [HE.out]
      clear hu h hno hge hc hnan hsg HE
      go_enter Tryz.func203, Tryz.ntmps203
      go_wp2_with (first | (go_at_call 226; refine (HC.out _).mono ?_; rintro e w' ⟨rfl, rfl⟩) | (go_at_call 227; refine (HN.out _).mono ?_; rintro e w' ⟨rfl, rfl⟩))
      go_ret
      exact ⟨rfl, rfl⟩
  · have hc : clsI u = 5 := by
      have := (nan_iff' u).1 hnan
      rcases cls_cases u with ⟨a, _⟩ | ⟨a, _⟩ | ⟨a, _⟩ | ⟨a, _⟩ | ⟨_, a⟩
      · omega
      · omega
      · omega
      · omega
      · exact a
    rw [hc] at HC
    rw [hnan] at HE
    rw [HE.out]
    clear hu h hno hge hc hnan HE HN
    go_enter Tryz.func203, Tryz.ntmps203
    go_wp2_with (go_at_call 226; refine (HC.out _).mono ?_; rintro e w' ⟨rfl, rfl⟩)
    go_ret
    exact ⟨rfl, rfl⟩

set_option maxHeartbeats 400000 in
theorem sizeOf_any (m : Int) (w : World) (h0 : -9007199254740992 ≤ m) (h1 : m ≤ 9007199254740992) :
    Calls Tryz.prog 178 #[.int .i64 m] w fun e w' => e = .returned (.int .u64 (m.natAbs : Nat)) ∧ w' = w := by
  obtain ⟨k, hk⟩ : ∃ k : Nat, m.natAbs = k := ⟨_, rfl⟩
  rw [hk]
  have hmax : max m (-m) = (k : Int) := by omega
  have hw : IntKind.u64.wrap (k : Int) = (k : Int) := by rw [IntKind.wrap_u64]; omega
  clear hk
  go_enter Tryz.func178, Tryz.ntmps178
  go_wp2
  go_ret
  exact ⟨rfl, rfl⟩
end Go.Proofs.YtcmbfflemoccmaaGreat.A
namespace Go.Proofs.YtcmbfflemoccmaaGreat.A
open Go.RowKit

structure Did (w w' : World) (B b : Nat) (v : Value) (L : Nat) (a : St) (v' : Value) : Prop where
  acc : AccAt w' B b v' L a
  wrote : Wrote w w' (Ft b v)
  new : New w v v'
theorem or_zero {hi lo : Nat} : hi ||| lo = 0 ↔ hi = 0 ∧ lo = 0 := Nat.or_eq_zero_iff

theorem st_eq {w : World} {B b : Nat} {v : Value} {L : Nat} {a : St} (h : AccAt w B b v L a) (h0 : a.s = 0) : AccAt w B b v L ⟨0, a.N⟩ := by
  obtain ⟨s, N⟩ := a
  dsimp only at h0
  subst h0; exact h
set_option maxHeartbeats 800000 in
theorem put_any (B b : Nat) (v : Value) (L : Nat) (a : St) (hi lo sh : Nat) (e : Int) (less : Bool) (w : World) (h : AccAt w B b v L a) (hB : B ≤ w.heap.size) (hhi : hi < 4398046511104) (hlo : lo < 18446744073709551616) (he : e + 2148 = (sh : Int)) (hsh : sh ≤ 4300) (hL : L ≤ 40000) :
    Calls Tryz.prog 179 #[.pointer (some ⟨b, 0, none⟩), .int .u64 (hi : Int), .int .u64 (lo : Int), .int .i64 e, .bool less] w fun x w' => x = .returned (.tuple #[]) ∧ ∃ v', Did w w' B b v (max L 70 + 1) ⟨a.s, if a.s = 0 then a.N + sI less * (((hi * 18446744073709551616 + lo) * 2 ^ sh : Nat) : Int) else a.N⟩ v' := by
  have HA := hideS h
  have c0 := h.cell0
  have c1 := h.cell1
  have hor := bits_or_u64_nat hi lo (by omega) hlo
  obtain ⟨xs, ho, hl, hs⟩ := h.own
  have HW := hideS (with_any B v xs a.N hi lo sh less w ho hs hhi hlo (by omega) (by omega) hB)
  have HO := hideS (And.intro ho (And.intro hl hs))
  clear h ho hl hs
  by_cases h0 : a.s = 0
  · rw [if_pos h0, h0]
    rw [h0] at c0
    by_cases hz : hi ||| lo = 0
    · obtain ⟨rfl, rfl⟩ := or_zero.1 hz
      have hor2 : bits .or .u64 0 0 = 0 := rfl
      clear hor
      go_enter Tryz.func179, Tryz.ntmps179
      go_wp2
      go_end0
      refine ⟨rfl, v, ?_, Wrote.refl _ _, New.refl _ _⟩
      have := HA.out.mono (L' := max L 70 + 1) (by omega)
      simpa [h0] using st_eq this h0
    · obtain ⟨q, hq⟩ : ∃ q : Int, ((hi ||| lo : Nat) : Int) = q := ⟨_, rfl⟩
      rw [hq] at hor
      have hq0 : (q != 0) = true := by simp; omega
      clear hz hq
      go_enter Tryz.func179, Tryz.ntmps179
      go_wp2_with fail
      refine HW.out.mono ?_
      rintro x w1 ⟨v1, zs, rfl, o1, l1, s1, r1, n1⟩
      obtain ⟨p1, g1, cc1, rfl, _⟩ := o1.shape
      obtain ⟨d1, fz⟩ := HA.out.wroteAt r1
      have R := hideS (HA.out.stored r1 o1 (L' := max L 70 + 1) (by have := HO.out.2.1; omega) s1 n1 (fun h => absurd h0 h))
      have RN := hideS n1
      clear o1 l1 s1 r1 n1 HW
      go_wp2_with fail
      go_end0
      refine ⟨rfl, _, ?_, R.out.2, RN.out⟩
      rw [h0] at R
      exact R.out.1
  · rw [if_neg h0]
    have hs3 := HA.out.ok.s3
    obtain ⟨t, ht⟩ : ∃ t : Int, ((a.s : Nat) : Int) = t := ⟨_, rfl⟩
    rw [ht] at c0
    have ht0 : (t == 0) = false := by simp; omega
    clear ht hor HW
    go_enter Tryz.func179, Tryz.ntmps179
    go_wp2_with fail
    go_end0
    exact ⟨rfl, v, HA.out.mono (by omega), Wrote.refl _ _, New.refl _ _⟩

theorem AccAt.setState {w : World} {B b : Nat} {v : Value} {L : Nat} {a : St} (h : AccAt w B b v L a) (t : Nat) (ht : t ≤ 3) (h0 : t ≠ 0 → a.N = 0) :
    AccAt (w.setCell ⟨b, 0, none⟩ (.int .u8 (t : Int))) B b v L ⟨t, a.N⟩ ∧ Wrote w (w.setCell ⟨b, 0, none⟩ (.int .u8 (t : Int))) (fun k => k = b) := by
  have hset : Wrote w (w.setCell ⟨b, 0, none⟩ (.int .u8 (t : Int))) (fun k => k = b) := ⟨rfl, rfl, rfl, by simp, fun k _ hk => Below.heap_setCell w ⟨b, 0, none⟩ _ k hk⟩
  obtain ⟨xs, ho, hl, hs⟩ := h.own
  refine ⟨⟨?_, h.lo, ⟨xs, ho.wrote hset (fun k hk e => h.ne (by rw [← e]; exact hk)), hl, hs⟩, h.ne, ⟨ht, h0⟩⟩, hset⟩
  rw [heap_setCell_same w b 0 _ _ _ h.blk]; rfl
theorem AccAt.setNil {w : World} {B b : Nat} {v : Value} {L : Nat} {a : St} {t : Nat} (h : AccAt w B b v L a) (ht : t ≤ 3) (hbk : ∀ w', w' = w.setCell ⟨b, 0, none⟩ (.int .u8 (t : Int)) → True) :
    AccAt ((w.setCell ⟨b, 0, none⟩ (.int .u8 (t : Int))).setCell ⟨b, 1, none⟩ (.slice none 0 0)) B b (.slice none 0 0) L ⟨t, 0⟩ ∧ Wrote w ((w.setCell ⟨b, 0, none⟩ (.int .u8 (t : Int))).setCell ⟨b, 1, none⟩ (.slice none 0 0)) (fun k => k = b) := by
  have := hbk _ rfl
  have h1 := heap_setCell_same w b 0 _ _ (.int .u8 (t : Int)) h.blk
  have hset : Wrote w ((w.setCell ⟨b, 0, none⟩ (.int .u8 (t : Int))).setCell ⟨b, 1, none⟩ (.slice none 0 0)) (fun k => k = b) :=
    ⟨rfl, rfl, rfl, by simp, fun k _ hk => (Below.heap_setCell _ ⟨b, 1, none⟩ _ k hk).trans (Below.heap_setCell w ⟨b, 0, none⟩ _ k hk)⟩
  refine ⟨⟨?_, h.lo, ⟨[], ⟨World.ownsRow_nil _ _ _ _, fun i => by simp⟩, Nat.zero_le _, sg_nil⟩, fun e => (by cases e), ⟨ht, fun _ => rfl⟩⟩, hset⟩
  rw [heap_setCell_same _ b 1 _ _ _ h1]; rfl

set_option maxHeartbeats 800000 in
theorem meet_any (B b : Nat) (v : Value) (L : Nat) (a : St) (t : Nat) (w : World) (h : AccAt w B b v L a) (ht : t ≤ 3) :
    Calls Tryz.prog 202 #[.pointer (some ⟨b, 0, none⟩), .int .u8 (t : Int)] w fun x w' => x = .returned (.tuple #[]) ∧ ∃ v', Did w w' B b v L ⟨mt a.s t, if mt a.s t = 0 then a.N else 0⟩ v' ∧ (mt a.s t = 0 → v' = v) := by
  have HA := hideS h
  have c0 := h.cell0
  have c1 := h.cell1
  have f0 := h.frozen 0
  have f1 := h.frozen 1
  have hs3 := h.ok.s3
  have HJ := hideS (fun w => joined_any a.s t w hs3 ht)
  have hm3 := mt_lt hs3 ht
  have HB := hideS h.blk
  by_cases h0 : mt a.s t = 0
  · rw [if_pos h0, h0]
    have HS := hideS (h.setState 0 (by omega) (fun h => absurd rfl h))
    rw [h0] at HJ
    have d0 : (w.setCell ⟨b, 0, none⟩ (.int .u8 0)).cell? ⟨b, 0, none⟩ = some (.int .u8 0) := HS.out.1.cell0
    clear h hs3 hm3 HB
    generalize (a.s : Int) = q at c0 HJ
    go_enter Tryz.func202, Tryz.ntmps202
    go_wp2_with (go_at_call 225; refine (turned (HJ.out _)).mono ?_; rintro e w' ⟨rfl, rfl⟩)
    go_end0
    exact ⟨rfl, v, ⟨HS.out.1, HS.out.2.mono (fun k hk => Or.inl hk), New.refl _ _⟩, fun _ => rfl⟩
  · rw [if_neg h0]
    have HS := hideS (h.setNil hm3 (fun _ _ => trivial))
    have HS0 : Hid ((w.setCell ⟨b, 0, none⟩ (.int .u8 (mt a.s t : Nat))).cell? ⟨b, 0, none⟩ = some (.int .u8 (mt a.s t : Nat)) ∧ (w.setCell ⟨b, 0, none⟩ (.int .u8 (mt a.s t : Nat))).cell? ⟨b, 1, none⟩ = some v ∧ (w.setCell ⟨b, 0, none⟩ (.int .u8 (mt a.s t : Nat))).frozen? ⟨b, 1, none⟩ = false) := by
      have h1 := heap_setCell_same w b 0 _ _ (.int .u8 (mt a.s t : Nat)) h.blk
      exact ⟨by simp [World.cell?, h1], by simp [World.cell?, h1], by simp [World.frozen?, h1]⟩
    obtain ⟨d0, d1, d2⟩ := HS0.out
    have hq0 : ¬ ((mt a.s t : Nat) : Int) = 0 := by omega
    clear h hs3 hm3 HB HS0
    have HM := hideS h0
    clear h0
    generalize (a.s : Int) = q at c0 HJ
    obtain ⟨r, hr⟩ : ∃ r : Int, ((mt a.s t : Nat) : Int) = r := ⟨_, rfl⟩
    have hr0 : (r != 0) = true := by rw [← hr]; simpa using hq0
    rw [hr] at HJ HS d0 d1 d2
    clear hq0
    go_enter Tryz.func202, Tryz.ntmps202
    go_wp2_with (go_at_call 225; refine (turned (HJ.out _)).mono ?_; rintro e w' ⟨rfl, rfl⟩)
    go_end0
    exact ⟨rfl, .slice none 0 0, ⟨HS.out.1, HS.out.2.mono (fun k hk => Or.inl hk), fun k hk => by cases hk⟩, fun e => absurd e HM.out⟩
end Go.Proofs.YtcmbfflemoccmaaGreat.A
namespace Go.Proofs.YtcmbfflemoccmaaGreat.A
open Go.RowKit

theorem splM_bd (u : Int) : -9007199254740992 < splM u ∧ splM u < 9007199254740992 := by
  unfold splM magI
  have := szI_lo u
  split
  · split <;> split <;> omega
  · omega
theorem splE_bd (u : Int) : -1074 ≤ splE u ∧ splE u ≤ 971 := by
  unfold splE plcI
  split
  · rename_i h
    simp only [Bool.and_eq_true, splOk, decide_eq_true_eq] at h
    have := szI_lo u
    split <;> omega
  · omega
theorem st_ext {a b : St} (h : a.s = b.s) (h' : a.N = b.N) : a = b := by
  cases a; cases b; simp_all
theorem merge_num {a : St} (h : a.Ok) (M : Int) : (⟨a.s, if a.s = 0 then a.N + M else a.N⟩ : St) = a.merge ⟨0, M⟩ := by
  unfold St.merge
  have e : mt a.s 0 = a.s := by simp [mt]
  apply st_ext
  · exact e.symm
  · show (if a.s = 0 then a.N + M else a.N) = if mt a.s 0 = 0 then a.N + M else 0
    rw [e]
    by_cases h0 : a.s = 0
    · rw [if_pos h0, if_pos h0]
    · rw [if_neg h0, if_neg h0, h.n0 h0]
theorem merge_end (a : St) (t : Nat) : (⟨mt a.s t, if mt a.s t = 0 then a.N else 0⟩ : St) = a.merge ⟨t, 0⟩ := by
  unfold St.merge
  apply st_ext
  · rfl
  · show _ = if mt a.s t = 0 then a.N + 0 else 0
    rw [Int.add_zero]
theorem endN_le (u : Int) : endN u ≤ 3 := by unfold endN; split <;> (try split) <;> omega

set_option maxHeartbeats 400000 in
theorem new_any (w : World) (B : Nat) (hB : B ≤ w.heap.size) :
    Calls Tryz.prog 148 #[] w fun x w' => x = .returned (.pointer (some ⟨w.heap.size, 0, none⟩)) ∧ AccAt w' B w.heap.size (.slice none 0 0) 0 ⟨0, 0⟩ ∧ Below w.heap.size w w' := by
  have HA : Hid (AccAt (w.alloc (.cells #[.int .u8 0, .slice none 0 0] 211)) B w.heap.size (.slice none 0 0) 0 ⟨0, 0⟩) :=
    ⟨heap_alloc_new w _, hB, ⟨[], ⟨World.ownsRow_nil _ _ _ _, fun i => by simp⟩, Nat.le_refl _, sg_nil⟩, fun e => (by cases e), ⟨Nat.zero_le _, fun h => absurd rfl h⟩⟩
  go_enter Tryz.func148, Tryz.ntmps148
  go_wp2
  go_ret
  exact ⟨rfl, HA.out, (Below.refl _ _).alloc (Nat.le_refl _) _⟩

set_option maxHeartbeats 800000 in
theorem add_any (B b : Nat) (v : Value) (L : Nat) (a : St) (x : Nat) (u : Int) (w : World) (h : AccAt w B b v L a) (hB : B ≤ w.heap.size) (hu : Hid (u = x)) (hx : U64 u) (hL : L ≤ 40000) :
    Calls Tryz.prog 176 #[.pointer (some ⟨b, 0, none⟩), .float .f64 x] w fun r w' => r = .returned (.tuple #[]) ∧ ∃ v', Did w w' B b v (max L 70 + 1) (a.merge (oneS u)) v' := by
  have HS := hideS (split_as x u w hu hx)
  obtain ⟨tgt, htgt⟩ : ∃ tgt : St, a.merge (oneS u) = tgt := ⟨_, rfl⟩
  rw [htgt]
  cases hok : splOk u
  · have HE := hideS (endOf_any x u w hu hx hok)
    have HM := hideS (meet_any B b v L a (endN u) w h (endN_le u))
    have HR : Hid (tgt = ⟨mt a.s (endN u), if mt a.s (endN u) = 0 then a.N else 0⟩) := by
      show _ = _
      rw [← htgt]
      unfold oneS
      rw [hok, merge_end]; rfl
    rw [hok] at HS
    clear hu hx h hok htgt
    go_enter Tryz.func176, Tryz.ntmps176
    go_wp2_with (first | (go_at_call 163; refine (turned HS.out).mono ?_; rintro e w' ⟨rfl, rfl⟩) | (go_at_call 203; refine (turned HE.out).mono ?_; rintro e w' ⟨rfl, rfl⟩) | (go_at_call 202; refine HM.out.mono ?_; rintro e w1 ⟨rfl, v1, hd, _⟩))
    have HD := hideS hd
    clear hd
    first | go_end0 | refine bodyPost_ret (results_none rfl _ _ _) rfl ?_
    exact ⟨rfl, v1, ⟨by rw [HR.out]; exact HD.out.acc.mono (by omega), HD.out.wrote, HD.out.new⟩⟩
  · have hm := splM_bd u
    have he := splE_bd u
    obtain ⟨sh, hsh⟩ : ∃ sh : Nat, splE u + 2148 = sh := ⟨(splE u + 2148).toNat, by omega⟩
    have HP := hideS (put_any B b v L a 0 (splM u).natAbs sh (splE u) (decide (splM u < 0)) w h hB (by decide) (by omega) hsh (by omega) hL)
    have HZ := hideS (fun w => sizeOf_any (splM u) w (by omega) (by omega))
    have HR : Hid (tgt = ⟨a.s, if a.s = 0 then a.N + sI (decide (splM u < 0)) * (((0 * 18446744073709551616 + (splM u).natAbs) * 2 ^ sh : Nat) : Int) else a.N⟩) := by
      show _ = _
      rw [← htgt, merge_num h.ok]
      unfold oneS
      rw [hok]
      simp only [if_true]
      congr 2
      unfold unitI
      rw [hsh, Int.toNat_natCast, Nat.zero_mul, Nat.zero_add, Int.natCast_mul, ← Int.mul_assoc, Int.natCast_pow]
      congr 1
      unfold sI
      by_cases h0 : splM u < 0
      · simp [h0]; omega
      · simp [h0]; omega
    rw [hok] at HS
    clear hu hx h hok htgt
    generalize splM u = m at *
    generalize splE u = ee at *
    go_enter Tryz.func176, Tryz.ntmps176
    go_wp2_with (first | (go_at_call 163; refine (turned HS.out).mono ?_; rintro e w' ⟨rfl, rfl⟩) | (go_at_call 178; refine (turned (HZ.out _)).mono ?_; rintro e w' ⟨rfl, rfl⟩))
    refine HP.out.mono ?_
    rintro e w1 ⟨rfl, v1, hd⟩
    have HD := hideS hd
    clear hd
    go_wp2_with fail
    go_end0
    exact ⟨rfl, v1, by rw [HR.out]; exact HD.out⟩
end Go.Proofs.YtcmbfflemoccmaaGreat.A
namespace Go.Proofs.YtcmbfflemoccmaaGreat.A
open Go.RowKit

theorem sign_prod (m n : Int) : sI (decide (m < 0) != decide (n < 0)) * ((m.natAbs : Int) * (n.natAbs : Int)) = m * n := by
  unfold sI
  by_cases h1 : m < 0
  · have e1 : (m.natAbs : Int) = -m := by omega
    by_cases h2 : n < 0
    · have e2 : (n.natAbs : Int) = -n := by omega
      simp [h1, h2, e1, e2, Int.neg_mul_neg]
    · have e2 : (n.natAbs : Int) = n := by omega
      simp [h1, h2, e1, e2, Int.neg_mul]
  · have e1 : (m.natAbs : Int) = m := by omega
    by_cases h2 : n < 0
    · have e2 : (n.natAbs : Int) = -n := by omega
      simp [h1, h2, e1, e2, Int.mul_neg]
    · have e2 : (n.natAbs : Int) = n := by omega
      simp [h1, h2, e1, e2]
theorem mul64_any (x y : Nat) (w : World) (hx : x < 18446744073709551616) (hy : y < 18446744073709551616) :
    Calls Tryz.prog 177 #[.int .u64 x, .int .u64 y] w fun e w' => e = .returned (.tuple #[.int .u64 ((x * y / 18446744073709551616 : Nat) : Int), .int .u64 ((x * y % 18446744073709551616 : Nat) : Int)]) ∧ w' = w :=
  Any.bits_Mul64 Tryz.mulL x y hx hy w

set_option maxHeartbeats 800000 in
theorem prod_any (B b : Nat) (v : Value) (L : Nat) (a : St) (x y : Nat) (u t : Int) (w : World) (h : AccAt w B b v L a) (hB : B ≤ w.heap.size) (hu : Hid (u = x)) (hx : U64 u) (ht : Hid (t = y)) (hy : U64 t) (h1 : splOk u = true) (h2 : splOk t = true) (hL : L ≤ 40000) :
    Calls Tryz.prog 150 #[.pointer (some ⟨b, 0, none⟩), .float .f64 x, .float .f64 y] w fun r w' => r = .returned (.tuple #[]) ∧ ∃ v', Did w w' B b v (max L 70 + 1) (a.merge (prodS u t)) v' := by
  have HS := hideS (split_as x u w hu hx)
  have HT := hideS (split_as y t w ht hy)
  rw [h1] at HS
  rw [h2] at HT
  have hm := splM_bd u
  have he := splE_bd u
  have hn := splM_bd t
  have hf := splE_bd t
  obtain ⟨sh, hsh⟩ : ∃ sh : Nat, splE u + splE t + 2148 = sh := ⟨(splE u + splE t + 2148).toNat, by omega⟩
  have hP : (splM u).natAbs * (splM t).natAbs < 9007199254740992 * 9007199254740992 := Nat.mul_lt_mul'' (by omega) (by omega)
  have HM := hideS (fun w => mul64_any (splM u).natAbs (splM t).natAbs w (by omega) (by omega))
  have HZ := hideS (fun w => sizeOf_any (splM u) w (by omega) (by omega))
  have HY := hideS (fun w => sizeOf_any (splM t) w (by omega) (by omega))
  obtain ⟨tgt, htgt⟩ : ∃ tgt : St, a.merge (prodS u t) = tgt := ⟨_, rfl⟩
  rw [htgt]
  obtain ⟨P, hPP⟩ : ∃ P, (splM u).natAbs * (splM t).natAbs = P := ⟨_, rfl⟩
  have HP := hideS (put_any B b v L a (P / 18446744073709551616) (P % 18446744073709551616) sh (splE u + splE t) (decide (splM u < 0) != decide (splM t < 0)) w h hB (by omega) (by omega) hsh (by omega) hL)
  have HR : Hid (tgt = ⟨a.s, if a.s = 0 then a.N + sI (decide (splM u < 0) != decide (splM t < 0)) * (((P / 18446744073709551616 * 18446744073709551616 + P % 18446744073709551616) * 2 ^ sh : Nat) : Int) else a.N⟩) := by
    show _ = _
    rw [← htgt, merge_num h.ok]
    congr 1
    unfold prodS
    congr 1
    rw [hsh, Int.toNat_natCast, show P / 18446744073709551616 * 18446744073709551616 + P % 18446744073709551616 = P by omega, Int.natCast_mul, ← Int.mul_assoc, Int.natCast_pow]
    congr 1
    rw [← hPP, Int.natCast_mul, sign_prod]
  rw [hPP] at HM
  obtain ⟨q1, hq1⟩ : ∃ q1, P / 18446744073709551616 = q1 := ⟨_, rfl⟩
  obtain ⟨q2, hq2⟩ : ∃ q2, P % 18446744073709551616 = q2 := ⟨_, rfl⟩
  rw [hq1, hq2] at HM HP HR
  clear hu hx ht hy h h1 h2 hP hPP htgt hq1 hq2
  generalize splM u = m at *
  generalize splE u = ee at *
  generalize splM t = n at *
  generalize splE t = ff at *
  go_enter Tryz.func150, Tryz.ntmps150
  go_wp2_with fail
  refine (turned HS.out).mono ?_
  rintro e w' ⟨rfl, rfl⟩
  go_wp2_with fail
  refine (turned HT.out).mono ?_
  rintro e w' ⟨rfl, rfl⟩
  go_wp2_with fail
  refine (turned (HZ.out _)).mono ?_
  rintro e w' ⟨rfl, rfl⟩
  go_wp2_with fail
  refine (turned (HY.out _)).mono ?_
  rintro e w' ⟨rfl, rfl⟩
  go_wp2_with fail
  refine (turned (HM.out _)).mono ?_
  rintro e w' ⟨rfl, rfl⟩
  go_wp2_with fail
  refine HP.out.mono ?_
  rintro e w1 ⟨rfl, v1, hd⟩
  have HD := hideS hd
  clear hd
  go_wp2_with fail
  go_end0
  exact ⟨rfl, v1, by rw [HR.out]; exact HD.out⟩

theorem nearO_any (B : Nat) (v : Value) (ys : List Nat) (more neg : Bool) (w : World) (h : OwnW w B v ys) (hn : ys.length ≤ 100000) (hm : more = true → 0 < ys.length) :
    Calls Tryz.prog 183 #[v, .bool more, .bool neg] w fun e w' => e = .returned (.float .f64 (joinN (sgM neg (mant (ps (fun i => ys.getD i 0) ys.length) more)) (expo (ps (fun i => ys.getD i 0) ys.length)))) ∧ ∃ q, w' = w.drewN q := by
  obtain ⟨p, g, c, rfl, hc1, hc2, hp, hc⟩ := h.shape
  by_cases h0 : ys.length = 0
  · have hmo : more = false := by cases more; rfl; exact absurd (hm rfl) (by omega)
    subst hmo
    rw [h0]
    have := near_none c p neg w
    refine this.mono ?_
    rintro e w' ⟨rfl, hq⟩
    refine ⟨?_, hq⟩
    cases neg <;> rfl
  · obtain ⟨rfl, _⟩ := hp (by omega)
    exact near_core (some ⟨g, 0, none⟩) g c ys.length (fun i => ys.getD i 0) more neg w (by omega) rfl hc hc1 (by unfold maxLen at hc2; omega) h.fit hn (fun k hk => anyBit_any (some ⟨g, 0, none⟩) g c k ys w (fun _ => rfl) (fun j hj => hc j (by omega)) (by omega)) _ rfl

def valSt (a : St) : Nat := if a.s = 0 then valF a.N else if a.s = 1 then 9218868437227405312 else if a.s = 2 then 18442240474082181120 else 9221120237041090561
end Go.Proofs.YtcmbfflemoccmaaGreat.A
namespace Go.Proofs.YtcmbfflemoccmaaGreat.A
open Go.RowKit

end Go.Proofs.YtcmbfflemoccmaaGreat.A
namespace Go.Proofs.YtcmbfflemoccmaaGreat.A
open Go.RowKit

theorem ps_set {zs : List Nat} {j q : Nat} (hj : j < zs.length) (h0 : zs.getD j 0 = 0) : ∀ n, ps (fun i => (zs.set j q).getD i 0) n = ps (fun i => zs.getD i 0) n + (if j < n then q * 2 ^ (64 * j) else 0)
  | 0 => by simp [ps]
  | n + 1 => by
    rw [ps, ps, ps_set hj h0 n]
    show _ + (zs.set j q).getD n 0 * _ = _
    rw [getD_set hj]
    by_cases hn : n = j
    · subst hn
      rw [if_neg (by omega), if_pos rfl, if_pos (by omega)]
      show _ = _ + zs.getD n 0 * _ + _
      rw [h0]; omega
    · rw [if_neg hn]
      by_cases h1 : j < n
      · rw [if_pos h1, if_pos (by omega)]; omega
      · rw [if_neg h1, if_neg (by omega)]; omega
theorem ps_div {F : Nat → Nat} (hF : FitF F) {j n : Nat} (hj : j < n) : ps F n / 2 ^ (64 * j) = ps F n / 2 ^ (64 * (j + 1)) * 18446744073709551616 + F j := by
  have key : ∀ n, j < n → ps F n / 2 ^ (64 * j) % 18446744073709551616 = F j := by
    intro n
    induction n with
    | zero => intro h; omega
    | succ n ih =>
      intro h
      rw [ps]
      by_cases e : j = n
      · subst e
        rw [Nat.add_mul_div_right _ _ (pow64_pos j), Nat.div_eq_of_lt (ps_lt hF j), Nat.zero_add, Nat.mod_eq_of_lt (hF j)]
      · have e2 : F n * 2 ^ (64 * n) = F n * 2 ^ (64 * (n - j - 1)) * 18446744073709551616 * 2 ^ (64 * j) := by
          rw [Nat.mul_assoc, Nat.mul_assoc, ← pow64, ← Nat.pow_add]; congr 2; omega
        rw [e2, Nat.add_mul_div_right _ _ (pow64_pos j), Nat.add_mul_mod_self_right]
        exact ih (by omega)
  have h1 := key n hj
  have h2 : ps F n / 2 ^ (64 * (j + 1)) = ps F n / 2 ^ (64 * j) / 18446744073709551616 := by rw [pow64, Nat.mul_comm, Nat.div_div_eq_div_mul]
  rw [h2]
  generalize ps F n / 2 ^ (64 * j) = X at *
  omega
theorem div_step {F : Nat → Nat} (hF : FitF F) {j n d : Nat} (hj : j < n) : (ps F n / 2 ^ (64 * (j + 1)) % d * 18446744073709551616 + F j) % d = ps F n / 2 ^ (64 * j) % d := by
  rw [ps_div hF hj, Nat.add_mod, Nat.mul_mod, Nat.mod_mod, ← Nat.mul_mod, ← Nat.add_mod]

structure Div (wr w : World) (n c d : Nat) (F : Nat → Nat) (zs : List Nat) (rest k : Nat) : Prop where
  own : OwnW wr w.heap.size (.slice (some ⟨w.heap.size, 0, none⟩) n c) zs
  len : zs.length = n
  eq : d * ps (fun i => zs.getD i 0) n + rest * 2 ^ (64 * k) + ps F k = ps F n
  low : ∀ j, j < k → zs.getD j 0 = 0
  res : rest = ps F n / 2 ^ (64 * k) % d
  bl : Below w.heap.size w wr
theorem Div.step {wr w : World} {n c d : Nat} {F : Nat → Nat} {zs : List Nat} {rest j : Nat} (h : Div wr w n c d F zs rest (j + 1)) (hF : FitF F) (hj : j < n) (hq : (rest * 18446744073709551616 + F j) / d < 18446744073709551616) :
    Div (wr.setCell ⟨w.heap.size, j, none⟩ (.int .u64 (((rest * 18446744073709551616 + F j) / d : Nat) : Int))) w n c d F (zs.set j ((rest * 18446744073709551616 + F j) / d)) ((rest * 18446744073709551616 + F j) % d) j := by
  have hl := h.len
  have h1 := h.own.set h.len j _ hq
  refine ⟨h1.1, by rw [List.length_set]; exact h.len, ?_, ?_, ?_, h.bl.setCell (Nat.le_refl _) _⟩
  · rw [ps_set (by omega) (h.low j (by omega)), if_pos hj]
    have he := h.eq
    rw [pow64, ps] at he
    have hdm := Nat.div_add_mod (rest * 18446744073709551616 + F j) d
    have h2 : (d * ((rest * 18446744073709551616 + F j) / d) + (rest * 18446744073709551616 + F j) % d) * 2 ^ (64 * j) = (rest * 18446744073709551616 + F j) * 2 ^ (64 * j) := by rw [hdm]
    rw [Nat.add_mul, Nat.add_mul, Nat.mul_assoc d, Nat.mul_assoc rest] at h2
    rw [Nat.mul_add]
    omega
  · intro i hi
    rw [getD_set (by omega), if_neg (by omega)]
    exact h.low i (by omega)
  · rw [h.res, div_step hF hj]

set_option maxHeartbeats 800000 in
theorem divided_any (B : Nat) (v : Value) (ys : List Nat) (d : Nat) (w : World) (h : OwnW w B v ys) (hn : ys.length ≤ 100000) (hd : 0 < d)
    (hdiv : ∀ j, j < ys.length → ∀ w, Calls Tryz.prog 207 #[.int .u64 ((ps (fun i => ys.getD i 0) ys.length / 2 ^ (64 * (j + 1)) % d : Nat) : Int), .int .u64 (ys.getD j 0 : Nat), .int .u64 (d : Int)] w fun e w' => e = .returned (.tuple #[.int .u64 (((ps (fun i => ys.getD i 0) ys.length / 2 ^ (64 * (j + 1)) % d * 18446744073709551616 + ys.getD j 0) / d : Nat) : Int), .int .u64 (((ps (fun i => ys.getD i 0) ys.length / 2 ^ (64 * (j + 1)) % d * 18446744073709551616 + ys.getD j 0) % d : Nat) : Int)]) ∧ ∃ q, w' = w.drewN q) :
    Calls Tryz.prog 182 #[v, .int .u64 (d : Int)] w fun e w' => ∃ v' zs, e = .returned (.tuple #[v', .int .u64 ((ps (fun i => ys.getD i 0) ys.length % d : Nat) : Int)]) ∧ OwnW w' w.heap.size v' zs ∧ zs.length = ys.length ∧ ps (fun i => zs.getD i 0) zs.length = ps (fun i => ys.getD i 0) ys.length / d ∧ Below w.heap.size w w' := by
  obtain ⟨p, g, c, rfl, hc1, hc2, hp, hc⟩ := h.shape
  have HC := hideS hc
  obtain ⟨F, hF⟩ : ∃ F : Nat → Nat, F = fun i => ys.getD i 0 := ⟨_, rfl⟩
  have HF : Hid (FitF F) := by rw [hF]; exact h.fit
  have HFe : Hid (∀ j, ys.getD j 0 = F j) := fun j => by rw [hF]
  have HM := hideS (OwnW.made w ys.length (by omega))
  have HB := hideS ((Below.refl w.heap.size w).alloc (Nat.le_refl _) (.cells (madeCells #[.int .u64 0] ys.length) 51))
  have hmk := fun w => run_make_row' (P := Tryz.prog) 30 51 (.int .u64 0) 8 Tryz.underlying30 infoU rfl .i64 .i64 ys.length (by omega) (by omega) w
  rw [← hF] at hdiv ⊢
  have HDv := hideS hdiv
  clear hdiv h hc hF
  have hHD := fun j (hj : j < ys.length) => HDv.out j hj
  have HD2 : Hid (∀ j, j < ys.length → ∀ w, Calls Tryz.prog 207 #[.int .u64 ((ps F ys.length / 2 ^ (64 * (j + 1)) % d : Nat) : Int), .int .u64 (F j : Nat), .int .u64 (d : Int)] w fun e w' => e = .returned (.tuple #[.int .u64 (((ps F ys.length / 2 ^ (64 * (j + 1)) % d * 18446744073709551616 + F j) / d : Nat) : Int), .int .u64 (((ps F ys.length / 2 ^ (64 * (j + 1)) % d * 18446744073709551616 + F j) % d : Nat) : Int)]) ∧ ∃ q, w' = w.drewN q) := fun j hj w => by
    have := HDv.out j hj w
    rw [HFe.out j] at this; exact this
  have HC2 : Hid (∀ j, j < ys.length → w.cell? ⟨g, j, none⟩ = some (.int .u64 (F j : Nat))) := fun j hj => by
    have := HC.out j hj
    rw [HFe.out j] at this; exact this
  clear HDv HC hHD HFe
  generalize ys.length = n at *
  have HD0 : Hid (Div (w.alloc (.cells (madeCells #[.int .u64 0] n) 51)) w n n d F (List.replicate n 0) 0 n) := by
    refine ⟨HM.out, by simp, ?_, ?_, ?_, HB.out⟩
    · have : ps (fun i => (List.replicate n 0).getD i 0) n = 0 := by
        rw [ps_congr (g := fun _ => 0) (fun i _ => by show (List.replicate n 0).getD i 0 = 0; rw [List.getD, List.getElem?_replicate]; split <;> rfl), ps_zero]
      rw [this]; simp
    · intro j _
      rw [List.getD, List.getElem?_replicate]; split <;> rfl
    · rw [Nat.div_eq_of_lt (ps_lt HF.out n), Nat.zero_mod]
  have hdI : (d : Int) ≠ 0 := by omega
  go_enter Tryz.func182, Tryz.ntmps182
  go_wp2
  clear hmk
  go_loopw [5, 6] (fun b i wr => ∃ (k rest : Nat) (zs : List Nat), k ≤ n ∧ b = .int .u64 rest ∧ i = .int .i64 ((k : Int) - 1) ∧ Hid (Div wr w n n d F zs rest k)) (fun _ i _ => (intOf i + 1).toNat)
  case atStart => exact ⟨n, 0, List.replicate n 0, Nat.le_refl _, rfl, rfl, HD0⟩
  case round =>
    clear HM HB HD0
    obtain ⟨k, rest, zs, hk, rfl, rfl, HR⟩ := hrel
    cases k with
    | zero =>
      go_wp2
      go_ret2
      refine ⟨_, zs, ?_, HR.out.own, HR.out.len, ?_, HR.out.bl⟩
      · have := HR.out.res
        rw [Nat.mul_zero, Nat.pow_zero, Nat.div_one] at this
        rw [← this]; rfl
      · have h1 := HR.out.eq
        have h2 := HR.out.res
        rw [Nat.mul_zero, Nat.pow_zero, Nat.div_one] at h2
        rw [Nat.mul_zero, Nat.pow_zero, Nat.mul_one, ps, Nat.add_zero] at h1
        rw [HR.out.len, ← h1, h2]
        have h3 : ps F n % d < d := Nat.mod_lt _ hd
        rw [Nat.mul_add_div hd, Nat.div_eq_of_lt h3, Nat.add_zero]
    | succ j =>
      obtain ⟨rfl, hg1, hg2⟩ := hp (by omega)
      have hcl : wr.cell? ⟨g, j, none⟩ = some (.int .u64 (F j : Nat)) := (HR.out.bl.cell (p := ⟨g, j, none⟩) hg2).trans (HC2.out j (by omega))
      have hdl : wr.cell? ⟨w.heap.size, j, none⟩ = some (.int .u64 (zs.getD j 0 : Nat)) := HR.out.own.cell1 HR.out.len j (by rw [HR.out.len]; omega)
      have hfz : wr.frozen? ⟨w.heap.size, j, none⟩ = false := HR.out.own.frozen1 HR.out.len j
      have hcall := HD2.out j (by omega) wr
      rw [← HR.out.res] at hcall
      have hrl : rest < d := by rw [HR.out.res]; exact Nat.mod_lt _ hd
      have hq : (rest * 18446744073709551616 + F j) / d < 18446744073709551616 := by
        rw [Nat.div_lt_iff_lt_mul hd]
        have h5 : (rest + 1) * 18446744073709551616 ≤ d * 18446744073709551616 := Nat.mul_le_mul_right _ hrl
        have h6 := HF.out j
        rw [Nat.mul_comm 18446744073709551616 d]
        omega
      have HS := hideS (HR.out.step HF.out (by omega) hq)
      have HCa := hideS hcall
      clear hcall hq hrl
      generalize (rest * 18446744073709551616 + F j) / d = q at HS HCa
      generalize (rest * 18446744073709551616 + F j) % d = r' at HS HCa
      generalize F j = y at hcl HCa
      generalize zs.getD j 0 = z at hdl
      have e1 : ((j + 1 : Nat) : Int) - 1 = (j : Int) := by omega
      rw [e1]
      go_wp2_with fail
      refine HCa.out.mono ?_
      rintro e w2 ⟨rfl, nq, rfl⟩
      go_wp2_with fail
      go_roundw
      case rel =>
        refine ⟨j, r', zs.set j q, by omega, rfl, rfl, ?_⟩
        exact ⟨HS.out.own.drewN nq, HS.out.len, HS.out.eq, HS.out.low, HS.out.res, ⟨HS.out.bl.os, HS.out.bl.tape, HS.out.bl.output, HS.out.bl.size, HS.out.bl.block⟩⟩
      case measure => simp [intOf]

set_option maxHeartbeats 400000 in
theorem div64_zero (y d : Nat) (w : World) (hd : 0 < d) (hy : y < 18446744073709551616) :
    Calls Tryz.prog 207 #[.int .u64 0, .int .u64 (y : Int), .int .u64 (d : Int)] w fun e w' => e = .returned (.tuple #[.int .u64 ((y / d : Nat) : Int), .int .u64 ((y % d : Nat) : Int)]) ∧ ∃ q, w' = w.drewN q := by
  obtain ⟨D, hD⟩ : ∃ D : Int, (d : Int) = D := ⟨_, rfl⟩
  have hq : (y : Int).tdiv D = ((y / d : Nat) : Int) := by rw [← hD]; rfl
  have hr : (y : Int).tmod D = ((y % d : Nat) : Int) := by rw [← hD]; rfl
  have b1 := Nat.div_le_self y d
  have b2 := Nat.mod_le y d
  have h0 : 0 < D := by omega
  rw [hD]
  generalize y / d = q at *
  generalize y % d = r at *
  have w1 : IntKind.u64.wrap (q : Int) = q := by rw [IntKind.wrap_u64]; omega
  have w2 : IntKind.u64.wrap (r : Int) = r := by rw [IntKind.wrap_u64]; omega
  go_enter Tryz.func207, Tryz.ntmps207
  go_wp2
  go_region
  all_goals
    go_wp2
    go_ret2
    exact ⟨rfl, _, rfl⟩

def overF (N : Int) (d : Nat) : Nat := joinN (sgM (decide (N < 0)) (mant (N.natAbs / d) (decide (N.natAbs % d ≠ 0)))) (expo (N.natAbs / d))
def DivOk (M d : Nat) : Prop := ∀ j y w, y = M / 2 ^ (64 * j) % 18446744073709551616 → Calls Tryz.prog 207 #[.int .u64 ((M / 2 ^ (64 * (j + 1)) % d : Nat) : Int), .int .u64 (y : Nat), .int .u64 (d : Int)] w fun e w' => e = .returned (.tuple #[.int .u64 (((M / 2 ^ (64 * (j + 1)) % d * 18446744073709551616 + y) / d : Nat) : Int), .int .u64 (((M / 2 ^ (64 * (j + 1)) % d * 18446744073709551616 + y) % d : Nat) : Int)]) ∧ ∃ q, w' = w.drewN q
set_option maxHeartbeats 800000 in
theorem over_any (B b : Nat) (v : Value) (L : Nat) (a : St) (d : Nat) (w : World) (h : AccAt w B b v L a) (hB : B ≤ w.heap.size) (hL : L ≤ 40000) (hd : 0 < d) (hd2 : d < 9223372036854775808) (h0 : a.s = 0) (hok : DivOk a.N.natAbs d) :
    Calls Tryz.prog 151 #[.pointer (some ⟨b, 0, none⟩), .int .i64 (d : Int)] w fun r w' => r = .returned (.tuple #[.float .f64 (overF a.N d), .bool true]) ∧ Below w.heap.size w w' := by
  have c0 := h.cell0
  have c1 := h.cell1
  rw [h0] at c0
  obtain ⟨xs, ho, hl, hs⟩ := h.own
  have HZ := hideS (size_any' B v xs a.N w ho hs (by omega) hB)
  have HL : Hid (xs.length ≤ 40000) := by show _ ≤ _; omega
  have HOk := hideS hok
  have HD := hideS (show overF a.N d = joinN (sgM (decide (a.N < 0)) (mant (a.N.natAbs / d) (decide (a.N.natAbs % d ≠ 0)))) (expo (a.N.natAbs / d)) from rfl)
  have hw : IntKind.u64.wrap (d : Int) = d := by rw [IntKind.wrap_u64]; omega
  have hnl : ¬ ((d : Int) < 1) := by omega
  generalize overF a.N d = res at *
  clear h ho hl hs h0 hok
  go_enter Tryz.func151, Tryz.ntmps151
  go_wp2_with fail
  refine HZ.out.mono ?_
  rintro e w1 ⟨v1, ys, rfl, o1, l1, p1, b1⟩
  have HV := hideS (divided_any B v1 ys d w1 o1 (by have := HL.out; omega) hd (fun j hj w2 => by
    rw [p1]
    refine HOk.out j (ys.getD j 0) w2 ?_
    rw [← p1]
    have := ps_div o1.fit hj
    have h2 := o1.fit j
    rw [this]
    show ys.getD j 0 = (_ * 18446744073709551616 + ys.getD j 0) % 18446744073709551616
    have h3 : ys.getD j 0 < 18446744073709551616 := h2
    omega))
  have HM0 : Hid (ys.length = 0 → a.N.natAbs = 0) := fun h6 => by rw [← p1, h6]; rfl
  rw [p1] at HV
  have HB := hideS b1
  have HL1 := hideS l1
  clear o1 l1 p1 b1 HZ HOk
  generalize a.N.natAbs = M at *
  generalize decide (a.N < 0) = ng at *
  go_wp2_with fail
  refine HV.out.mono ?_
  rintro e w2 ⟨v2, zs, rfl, o2, l2, p2, b2⟩
  have HN := hideS (nearO_any w1.heap.size v2 zs (decide (M % d ≠ 0)) ng w2 o2 (by have := HL.out; have := HL1.out; omega) (fun h5 => by
    rcases Nat.eq_zero_or_pos zs.length with h6 | h6
    · have h7 := HM0.out (by omega)
      rw [h7] at h5
      simp at h5
    · exact h6))
  rw [p2, ← HD.out] at HN
  have HB2 := hideS (HB.out.trans (b2.mono HB.out.size))
  clear o2 l2 p2 b2 HV HM0 HD
  by_cases hr : M % d = 0
  · rw [show decide (M % d ≠ 0) = false by simpa using hr] at HN
    rw [hr]
    go_wp2_with fail
    refine HN.out.mono ?_
    rintro e w3 ⟨rfl, q, rfl⟩
    go_wp2_with fail
    go_ret2
    exact ⟨rfl, ⟨HB2.out.os, HB2.out.tape, HB2.out.output, HB2.out.size, HB2.out.block⟩⟩
  · rw [show decide (M % d ≠ 0) = true by simpa using hr] at HN
    obtain ⟨r, hrr⟩ : ∃ r : Int, ((M % d : Nat) : Int) = r := ⟨_, rfl⟩
    have hr0 : (r != 0) = true := by simp; omega
    rw [hrr]
    clear hr hrr
    go_wp2_with fail
    refine HN.out.mono ?_
    rintro e w3 ⟨rfl, q, rfl⟩
    go_wp2_with fail
    go_ret2
    exact ⟨rfl, ⟨HB2.out.os, HB2.out.tape, HB2.out.output, HB2.out.size, HB2.out.block⟩⟩
end Go.Proofs.YtcmbfflemoccmaaGreat.A
namespace Go.Proofs.YtcmbfflemoccmaaGreat.A
open Go.RowKit

structure Run (w wr : World) (b : Nat) (v : Value) (L : Nat) (a : St) : Prop where
  acc : AccAt wr w.heap.size b v L a
  bl : Below w.heap.size w wr
theorem Run.did {w wr w' : World} {b : Nat} {v v' : Value} {L L' : Nat} {a a' : St} (h : Run w wr b v L a) (hd : Did wr w' w.heap.size b v L' a' v') : Run w w' b v' L' a' :=
  ⟨hd.acc, h.bl.trans (hd.wrote.below (fun k hk => (h.acc.base k hk).1) h.bl.size)⟩
theorem Run.mono {w wr : World} {b : Nat} {v : Value} {L L' : Nat} {a : St} (h : Run w wr b v L a) (hl : L ≤ L') : Run w wr b v L' a := ⟨h.acc.mono hl, h.bl⟩
theorem Run.drewN {w wr : World} {b : Nat} {v : Value} {L : Nat} {a : St} (h : Run w wr b v L a) (n : Nat) : Run w (wr.drewN n) b v L a :=
  ⟨h.acc.drewN n, ⟨h.bl.os, h.bl.tape, h.bl.output, h.bl.size, h.bl.block⟩⟩

end Go.Proofs.YtcmbfflemoccmaaGreat.A
namespace Go.Proofs.YtcmbfflemoccmaaGreat.A
open Go.RowKit

theorem kn_prod (b y1 y0 q : Nat) : q * (y1 * b + y0) = q * y1 * b + q * y0 := by rw [Nat.mul_add, Nat.mul_assoc]
theorem kn_test {b y1 y0 u u1 q r : Nat} (hy : 0 < y1 * b + y0) (h : q * y1 + r = u) : (b * r + u1 < q * y0) ↔ (u * b + u1) / (y1 * b + y0) < q := by
  rw [Nat.div_lt_iff_lt_mul hy, kn_prod, ← h, Nat.add_mul, Nat.mul_comm r b]
  generalize q * y1 * b = A
  generalize b * r = C
  omega
theorem kn_break {b y1 y0 u u1 q r : Nat} (hy : 0 < y1 * b + y0) (h : q * y1 + r = u) (hr : b ≤ r) (hq : q ≤ b) (h0 : y0 < b) (hQ : (u * b + u1) / (y1 * b + y0) ≤ q) : q = (u * b + u1) / (y1 * b + y0) := by
  apply Nat.le_antisymm _ hQ
  rw [Nat.le_div_iff_mul_le hy, kn_prod, ← h, Nat.add_mul]
  have h1 : q * y0 ≤ b * b := Nat.mul_le_mul hq (by omega)
  have h2 : b * b ≤ r * b := Nat.mul_le_mul hr (Nat.le_refl _)
  omega
theorem kn_first {b y1 y0 u : Nat} (hu : u < y1 * b + y0) (h0 : y0 < b) (hy1 : b ≤ 2 * y1) (h1 : 0 < y1) : u / y1 ≤ b + 1 := by
  have : u / y1 < b + 2 := by
    rw [Nat.div_lt_iff_lt_mul h1, Nat.add_mul, Nat.mul_comm b y1]
    omega
  omega
theorem kn_ge {b y1 y0 u u1 : Nat} (hu1 : u1 < b) (h1 : 0 < y1) : (u * b + u1) / (y1 * b + y0) ≤ u / y1 := by
  rw [Nat.le_div_iff_mul_le h1]
  have h := Nat.div_mul_le_self (u * b + u1) (y1 * b + y0)
  rw [kn_prod] at h
  generalize (u * b + u1) / (y1 * b + y0) = Q at *
  have h2 : Q * y1 * b < (u + 1) * b := by rw [Nat.add_mul]; omega
  have := Nat.lt_of_mul_lt_mul_right h2
  omega
theorem kn_small {b y u u1 : Nat} (hu1 : u1 < b) (hu : u < y) : (u * b + u1) / y < b := by
  rw [Nat.div_lt_iff_lt_mul (by omega)]
  have : (u + 1) * b ≤ b * y := by rw [Nat.mul_comm b y]; exact Nat.mul_le_mul hu (Nat.le_refl _)
  rw [Nat.add_mul] at this
  omega
theorem kn_two {y b A c : Nat} (hy : 0 < y) : (A * b + c) / y = A / y * b + (A % y * b + c) / y ∧ (A * b + c) % y = (A % y * b + c) % y := by
  have e : A * b + c = (A % y * b + c) + A / y * b * y := by
    have := Nat.div_add_mod A y
    generalize A / y = q at *
    generalize A % y = r at *
    rw [← this, Nat.add_mul, Nat.mul_right_comm q b y, Nat.mul_comm y q]; omega
  rw [e]
  exact ⟨by rw [Nat.add_mul_div_right _ _ hy]; omega, by rw [Nat.add_mul_mod_self_right]⟩
theorem kn_whole {b y X s un32 un1 un0 : Nat} (hy : 0 < y) (h : X * 2 ^ s = (un32 * b + un1) * b + un0) :
    X / y = (un32 * b + un1) / (y * 2 ^ s) * b + ((un32 * b + un1) % (y * 2 ^ s) * b + un0) / (y * 2 ^ s) ∧ X % y = ((un32 * b + un1) % (y * 2 ^ s) * b + un0) % (y * 2 ^ s) / 2 ^ s := by
  have hp : 0 < 2 ^ s := Nat.pow_pos (by decide)
  obtain ⟨h1, h2⟩ := kn_two (y := y * 2 ^ s) (b := b) (A := un32 * b + un1) (c := un0) (Nat.mul_pos hy hp)
  rw [← h1, ← h2, ← h, Nat.mul_div_mul_right _ _ hp, Nat.mul_mod_mul_right, Nat.mul_div_cancel _ hp]
  exact ⟨rfl, rfl⟩

structure KL (b y1 y0 u u1 q r : Nat) : Prop where
  eq : q * y1 + r = u
  ge : (u * b + u1) / (y1 * b + y0) ≤ q
theorem kl_start {b y1 y0 u u1 : Nat} (hu1 : u1 < b) (h1 : 0 < y1) : KL b y1 y0 u u1 (u / y1) (u % y1) :=
  ⟨by rw [Nat.mul_comm]; exact Nat.div_add_mod u y1, kn_ge hu1 h1⟩
theorem kl_cases {b y1 y0 u u1 q r : Nat} (h : KL b y1 y0 u u1 q r) (hq : q ≤ b + 1) (h0 : y0 < b) (hy : 0 < y1 * b + y0) (hQ : (u * b + u1) / (y1 * b + y0) < b) :
    (q < b ∧ ¬ (b * r + u1 < q * y0) ∧ q = (u * b + u1) / (y1 * b + y0)) ∨
    (∃ q', q' + 1 = q ∧ q' ≤ b ∧ (b ≤ q ∨ (q < b ∧ b * r + u1 < q * y0)) ∧ ((b ≤ r + y1 ∧ q' = (u * b + u1) / (y1 * b + y0)) ∨ (r + y1 < b ∧ KL b y1 y0 u u1 q' (r + y1)))) := by
  have ht := kn_test (b := b) (u1 := u1) hy h.eq
  have hg := h.ge
  have next : (u * b + u1) / (y1 * b + y0) < q → ∃ q', q' + 1 = q ∧ q' ≤ b ∧ ((b ≤ r + y1 ∧ q' = (u * b + u1) / (y1 * b + y0)) ∨ (r + y1 < b ∧ KL b y1 y0 u u1 q' (r + y1))) := by
    intro hlt
    have hq0 : 0 < q := Nat.lt_of_le_of_lt (Nat.zero_le _) hlt
    obtain ⟨q', rfl⟩ : ∃ q', q = q' + 1 := ⟨q - 1, by clear hlt ht hg hQ; omega⟩
    have e : q' * y1 + (r + y1) = u := by rw [← h.eq, Nat.add_mul]; omega
    refine ⟨q', rfl, by omega, ?_⟩
    by_cases hr : b ≤ r + y1
    · exact Or.inl ⟨hr, kn_break hy e hr (by omega) h0 (Nat.le_of_lt_succ hlt)⟩
    · exact Or.inr ⟨by omega, e, Nat.le_of_lt_succ hlt⟩
  by_cases h1 : b ≤ q
  · obtain ⟨q', a1, a2, a3⟩ := next (Nat.lt_of_lt_of_le hQ h1)
    exact Or.inr ⟨q', a1, a2, Or.inl h1, a3⟩
  · by_cases h2 : b * r + u1 < q * y0
    · obtain ⟨q', a1, a2, a3⟩ := next (ht.1 h2)
      exact Or.inr ⟨q', a1, a2, Or.inr ⟨by omega, h2⟩, a3⟩
    · refine Or.inl ⟨by omega, h2, ?_⟩
      exact Nat.le_antisymm (Nat.le_of_not_lt fun c => h2 (ht.2 c)) hg
end Go.Proofs.YtcmbfflemoccmaaGreat.A
namespace Go.Proofs.YtcmbfflemoccmaaGreat.A
open Go.RowKit

structure Kn (hi lo d ld Y y1 y0 U Z u1 u0 a c : Nat) : Prop where
  lds : ld ≤ 63
  f1 : IntKind.u64.wrap ((d : Int) * 2 ^ ld) = (Y : Int)
  f2 : (Y : Int) / 4294967296 = (y1 : Int)
  f3 : bits .and .u64 (Y : Int) 4294967295 = (y0 : Int)
  f4 : IntKind.u64.wrap ((hi : Int) * 2 ^ ld) = (a : Int)
  f5 : (lo : Int) / 2 ^ (64 - ld) = (c : Int)
  f6 : bits .or .u64 (a : Int) (c : Int) = (U : Int)
  f7 : IntKind.u64.wrap ((lo : Int) * 2 ^ ld) = (Z : Int)
  f8 : (Z : Int) / 4294967296 = (u1 : Int)
  f9 : bits .and .u64 (Z : Int) 4294967295 = (u0 : Int)
  yf : Y < 18446744073709551616
  yh : 9223372036854775808 ≤ Y
  yy : Y = y1 * 4294967296 + y0
  y0b : y0 < 4294967296
  uY : U < Y
  u1b : u1 < 4294967296
  u0b : u0 < 4294967296
  dY : Y = d * 2 ^ ld
  all : (hi * 18446744073709551616 + lo) * 2 ^ ld = (U * 4294967296 + u1) * 4294967296 + u0
theorem and_mask32 {z : Nat} (h : z < 18446744073709551616) : bits .and .u64 (z : Int) 4294967295 = ((z % 4294967296 : Nat) : Int) := by
  have e := bits_and_u64_nat z 4294967295 h (by decide)
  have e2 : z &&& 4294967295 = z % 4294967296 := Nat.and_two_pow_sub_one_eq_mod z 32
  rw [e2] at e
  exact e
theorem kn_any {hi lo d ld : Nat} (hlt : hi < d) (hd : d < 18446744073709551616) (hlo : lo < 18446744073709551616) (hld : ld = 63 - d.log2) : ∃ Y y1 y0 U Z u1 u0 a c, Kn hi lo d ld Y y1 y0 U Z u1 u0 a c := by
  have hd0 : d ≠ 0 := by omega
  obtain ⟨h1, _, _, h4⟩ := lead_parts hd0 hd hlo hld
  have hp := Nat.two_pow_pos ld
  have hm : (hi + 1) * 2 ^ ld ≤ d * 2 ^ ld := Nat.mul_le_mul hlt (Nat.le_refl _)
  rw [Nat.add_mul, Nat.one_mul] at hm
  have ha : hi * 2 ^ ld < 18446744073709551616 := by omega
  have hor := piece1 (hi := hi) (off := ld) (by omega) hlo
  rw [Nat.mod_eq_of_lt ha] at hor
  have eW : (18446744073709551616 : Nat) = 2 ^ ld * 2 ^ (64 - ld) := by rw [← Nat.pow_add, show ld + (64 - ld) = 64 by omega]
  have hc : lo / 2 ^ (64 - ld) < 2 ^ ld := by
    rw [Nat.div_lt_iff_lt_mul (Nat.two_pow_pos _), ← eW]; exact hlo
  have hc2 : lo / 2 ^ (64 - ld) < 18446744073709551616 := Nat.lt_of_le_of_lt (Nat.div_le_self _ _) hlo
  have hsum := pieces_sum (hi := hi) (lo := lo) (off := ld) (by omega)
  have hhi : hi / 2 ^ (64 - ld) = 0 := by
    apply Nat.div_eq_of_lt
    have : hi * 2 ^ ld < 2 ^ (64 - ld) * 2 ^ ld := by rw [Nat.mul_comm (2 ^ (64 - ld)), ← eW]; exact ha
    exact Nat.lt_of_mul_lt_mul_right this
  rw [hhi, Nat.zero_mul, Nat.add_zero, Nat.mod_eq_of_lt ha] at hsum
  have hhalf : 9223372036854775808 ≤ d * 2 ^ ld := by
    have hl := Nat.log2_self_le hd0
    have hl2 : d.log2 < 64 := (Nat.log2_lt hd0).2 hd
    have : 2 ^ d.log2 * 2 ^ ld ≤ d * 2 ^ ld := Nat.mul_le_mul hl (Nat.le_refl _)
    rw [← Nat.pow_add, hld, show d.log2 + (63 - d.log2) = 63 by omega, ← hld] at this
    exact this
  obtain ⟨Z, hZ⟩ : ∃ Z, lo * 2 ^ ld % 18446744073709551616 = Z := ⟨_, rfl⟩
  have hZb : Z < 18446744073709551616 := by rw [← hZ]; exact Nat.mod_lt _ (by decide)
  obtain ⟨Y, hY⟩ : ∃ Y, d * 2 ^ ld = Y := ⟨_, rfl⟩
  obtain ⟨a, haa⟩ : ∃ a, hi * 2 ^ ld = a := ⟨_, rfl⟩
  obtain ⟨c, hcc⟩ : ∃ c, lo / 2 ^ (64 - ld) = c := ⟨_, rfl⟩
  have g1 : IntKind.u64.wrap ((d : Int) * 2 ^ ld) = (Y : Int) := by rw [shl_word, Nat.mod_eq_of_lt h1, hY]
  have g4 : IntKind.u64.wrap ((hi : Int) * 2 ^ ld) = (a : Int) := by rw [shl_word, Nat.mod_eq_of_lt ha, haa]
  have g5 : (lo : Int) / 2 ^ (64 - ld) = (c : Int) := by rw [shr_word, hcc]
  have g6 : bits .or .u64 (a : Int) (c : Int) = ((a + c : Nat) : Int) := by rw [← haa, ← hcc, bits_or_u64_nat _ _ ha hc2, hor]
  have g7 : IntKind.u64.wrap ((lo : Int) * 2 ^ ld) = (Z : Int) := by rw [shl_word, hZ]
  rw [hZ] at hsum
  rw [haa, hcc] at hsum
  rw [haa, hY] at hm
  rw [hY] at h1 hhalf
  rw [hcc] at hc
  refine ⟨Y, Y / 4294967296, Y % 4294967296, a + c, Z, Z / 4294967296, Z % 4294967296, a, c, ⟨h4, g1, by omega, and_mask32 h1, g4, g5, g6, g7, by omega, and_mask32 hZb, h1, hhalf, by omega, by omega, by omega, by omega, by omega, hY.symm, ?_⟩⟩
  rw [← hsum]; omega

theorem prod_word {q y0 : Nat} (hq : q < 4294967296) (h0 : y0 < 4294967296) : IntKind.u64.wrap ((q : Int) * (y0 : Int)) = ((q * y0 : Nat) : Int) := by
  have : q * y0 ≤ 4294967295 * 4294967295 := Nat.mul_le_mul (by omega) (by omega)
  rw [IntKind.wrap_u64, ← Int.natCast_mul]
  omega
theorem left_word {U u1 q Y R A B C : Nat} (hA : A = U * 4294967296 % 18446744073709551616) (hB : B = (A + u1) % 18446744073709551616) (hC : C = q * Y % 18446744073709551616) (hR : R < 18446744073709551616) (h : U * 4294967296 + u1 = q * Y + R) : IntKind.u64.wrap ((B : Int) - (C : Int)) = (R : Int) := by
  rw [IntKind.wrap_u64]
  generalize q * Y = P at *
  omega
theorem wrap_nat {n m : Nat} (h : n % 18446744073709551616 = m) : IntKind.u64.wrap (n : Int) = (m : Int) := by
  rw [IntKind.wrap_u64]; omega
end Go.Proofs.YtcmbfflemoccmaaGreat.A
