/- Accs in memory; the contracts of the methods that put things in. -/
import Derived.Test.YtdmldggjgaaliaaGreatAccG
import Derived.Test.YtdmldggjgaaliaaGreatFlo
namespace Go.Proofs.YtdmldggjgaaliaaGreat.A
open Go.RowKit

/-- What an Acc has come to: its state (0 a sum, 1 up, 2 down, 3 none), and the sum in units of the least product. -/
structure St where
  s : Nat
  N : Int
def mt (s t : Nat) : Nat := if s = t ∨ t = 0 then s else if s = 0 then t else 3
/-- All that came to two. -/
def St.merge (a b : St) : St := ⟨mt a.s b.s, if mt a.s b.s = 0 then a.N + b.N else 0⟩
def St.turn (a : St) : St := ⟨if a.s = 1 then 2 else if a.s = 2 then 1 else a.s, -a.N⟩
def endN (u : Int) : Nat := if nanB u then 3 else if sgB u then 2 else 1
/-- The units of a number. -/
def unitI (u : Int) : Int := splM u * 2 ^ (splE u + 2148).toNat
/-- One float, as what it brings. -/
def oneS (u : Int) : St := if splOk u then ⟨0, unitI u⟩ else ⟨endN u, 0⟩
/-- The product of two numbers. -/
def prodS (u v : Int) : St := ⟨0, splM u * splM v * 2 ^ (splE u + splE v + 2148).toNat⟩
structure St.Ok (a : St) : Prop where
  s3 : a.s ≤ 3
  n0 : a.s ≠ 0 → a.N = 0

/-- The Acc at block b, with its words in v. -/
structure AccAt (w : World) (B b : Nat) (v : Value) (L : Nat) (a : St) : Prop where
  blk : w.heap[b]? = some (.cells #[.int .u8 (a.s : Int), v] 60 (0, 0))
  lo : B ≤ b
  own : ∃ xs, OwnW w B v xs ∧ xs.length ≤ L ∧ Sg xs a.N
  ne : v.ownBlock ≠ some b
  ok : a.Ok
/-- The blocks of an Acc. -/
def Ft (b : Nat) (v : Value) (k : Nat) : Prop := k = b ∨ At v k
theorem AccAt.lt {w : World} {B b : Nat} {v : Value} {L : Nat} {a : St} (h : AccAt w B b v L a) : b < w.heap.size := (Array.getElem?_eq_some_iff.1 h.blk).1
theorem AccAt.base {w : World} {B b : Nat} {v : Value} {L : Nat} {a : St} (h : AccAt w B b v L a) : ∀ k, Ft b v k → B ≤ k ∧ k < w.heap.size := by
  rintro k (rfl | hk)
  · exact ⟨h.lo, h.lt⟩
  · obtain ⟨xs, ho, _⟩ := h.own; exact ho.lt k hk
theorem AccAt.wrote {w w' : World} {B b : Nat} {v : Value} {L : Nat} {a : St} {F : Nat → Prop} (h : AccAt w B b v L a) (hw : Wrote w w' F) (hF : ∀ k, Ft b v k → ¬ F k) : AccAt w' B b v L a := by
  obtain ⟨xs, ho, hl, hs⟩ := h.own
  exact ⟨(hw.block b h.lt (hF b (Or.inl rfl))).trans h.blk, h.lo, ⟨xs, ho.wrote hw (fun k hk => hF k (Or.inr hk)), hl, hs⟩, h.ne, h.ok⟩
theorem AccAt.below {w w' : World} {B b : Nat} {v : Value} {L : Nat} {a : St} (h : AccAt w B b v L a) (hw : Below w.heap.size w w') : AccAt w' B b v L a :=
  h.wrote (F := fun _ => False) (wrote_below hw) (fun _ _ hf => hf)
theorem AccAt.drewN {w : World} {B b : Nat} {v : Value} {L : Nat} {a : St} (h : AccAt w B b v L a) (n : Nat) : AccAt (w.drewN n) B b v L a := by
  obtain ⟨xs, ho, hl, hs⟩ := h.own
  exact ⟨h.blk, h.lo, ⟨xs, ho.drewN n, hl, hs⟩, h.ne, h.ok⟩
theorem AccAt.mono {w : World} {B b : Nat} {v : Value} {L L' : Nat} {a : St} (h : AccAt w B b v L a) (hl : L ≤ L') : AccAt w B b v L' a := by
  obtain ⟨xs, ho, hl2, hs⟩ := h.own
  exact ⟨h.blk, h.lo, ⟨xs, ho, by omega, hs⟩, h.ne, h.ok⟩
theorem AccAt.cell0 {w : World} {B b : Nat} {v : Value} {L : Nat} {a : St} (h : AccAt w B b v L a) : w.cell? ⟨b, 0, none⟩ = some (.int .u8 (a.s : Int)) := by simp [World.cell?, h.blk]
theorem AccAt.cell1 {w : World} {B b : Nat} {v : Value} {L : Nat} {a : St} (h : AccAt w B b v L a) : w.cell? ⟨b, 1, none⟩ = some v := by simp [World.cell?, h.blk]
theorem AccAt.frozen {w : World} {B b : Nat} {v : Value} {L : Nat} {a : St} (h : AccAt w B b v L a) (i : Nat) : w.frozen? ⟨b, i, none⟩ = false := by simp [World.frozen?, h.blk]

/-- New words are stored in the Acc. -/
theorem AccAt.stored {w w1 : World} {B b : Nat} {v v' : Value} {L L' : Nat} {a : St} {zs : List Nat} {M : Int} (h : AccAt w B b v L a) (hw : Wrote w w1 (At v)) (ho : OwnW w1 B v' zs) (hl : zs.length ≤ L') (hs : Sg zs M) (hn : New w v v') (hok : a.s ≠ 0 → M = 0) :
    AccAt (w1.setCell ⟨b, 1, none⟩ v') B b v' L' ⟨a.s, M⟩ ∧ Wrote w (w1.setCell ⟨b, 1, none⟩ v') (Ft b v) := by
  have hne : v'.ownBlock ≠ some b := fun e => by
    rcases hn b e with h1 | h1
    · exact h.ne h1
    · have := h.lt; omega
  have hb : w1.heap[b]? = some (.cells #[.int .u8 (a.s : Int), v] 60 (0, 0)) := (hw.block b h.lt (fun e => h.ne e)).trans h.blk
  have hset : Wrote w1 (w1.setCell ⟨b, 1, none⟩ v') (fun k => k = b) := ⟨rfl, rfl, rfl, by simp, fun k _ hk => Below.heap_setCell w1 ⟨b, 1, none⟩ v' k hk⟩
  refine ⟨⟨?_, h.lo, ⟨zs, ho.wrote hset (fun k hk e => hne (by rw [← e]; exact hk)), hl, hs⟩, hne, ⟨h.ok.s3, hok⟩⟩, ?_⟩
  · rw [heap_setCell_same w1 b 1 _ _ v' hb]; rfl
  · exact (hw.mono (fun k hk => Or.inr hk)).trans hset (fun k _ hk => Or.inl hk)
theorem AccAt.wroteAt {w w1 : World} {B b : Nat} {v : Value} {L : Nat} {a : St} (h : AccAt w B b v L a) (hw : Wrote w w1 (At v)) : w1.cell? ⟨b, 1, none⟩ = some v ∧ w1.frozen? ⟨b, 1, none⟩ = false := by
  have hb : w1.heap[b]? = some (.cells #[.int .u8 (a.s : Int), v] 60 (0, 0)) := (hw.block b h.lt (fun e => h.ne e)).trans h.blk
  exact ⟨by simp [World.cell?, hb], by simp [World.frozen?, hb]⟩

theorem nan_iff' (u : Int) : nanB u = true ↔ 9218868437227405312 < szI u := by simp [nanB]
theorem num_iff' (u : Int) : nanB u = false ↔ szI u ≤ 9218868437227405312 := by simp [nanB]
theorem mt_lt {s t : Nat} (hs : s ≤ 3) (ht : t ≤ 3) : mt s t ≤ 3 := by unfold mt; split <;> (try split) <;> omega
set_option maxHeartbeats 800000 in
theorem joined_any (s t : Nat) (w : World) (hs : s ≤ 3) (ht : t ≤ 3) :
    Calls Tryz.prog 61 #[.int .u8 (s : Int), .int .u8 (t : Int)] w fun e w' => e = .returned (.int .u8 (mt s t : Nat)) ∧ w' = w := by
  rcases (show s = 0 ∨ s = 1 ∨ s = 2 ∨ s = 3 by omega) with rfl | rfl | rfl | rfl
  all_goals rcases (show t = 0 ∨ t = 1 ∨ t = 2 ∨ t = 3 by omega) with rfl | rfl | rfl | rfl
  all_goals
    go_enter Tryz.func61, Tryz.ntmps61
    go_wp2
    go_ret
    exact ⟨rfl, rfl⟩

set_option maxHeartbeats 400000 in
theorem endOf_any (b : Nat) (u : Int) (w : World) (hu : Hid (u = b)) (h : U64 u) (hno : splOk u = false) :
    Calls Tryz.prog 36 #[.float .f64 b] w fun e w' => e = .returned (.int .u8 (endN u : Nat)) ∧ w' = w := by
  have HC := hideS (fun w => class_as b u w hu h)
  have HN := hideS (fun w => negative_any b w (by rw [← hu.out]; exact h))
  rw [← hu.out] at HN
  have hge : 9218868437227405312 ≤ szI u := by simp only [splOk, decide_eq_false_iff_not] at hno; omega
  have HE := hideS (show endN u = if nanB u then 3 else if sgB u then 2 else 1 from rfl)
  cases hnan : nanB u
  · have hc : clsI u = 4 := by
      have := (num_iff' u).1 hnan
      rcases cls_cases u with ⟨a, _⟩ | ⟨a, _⟩ | ⟨a, _⟩ | ⟨_, a⟩ | ⟨a, _⟩
      · omega
      · omega
      · omega
      · exact a
      · omega
    rw [hc] at HC
    rw [hnan] at HN HE
    cases hsg : sgB u
    · rw [hsg] at HN HE
      rw [HE.out]
      clear hu h hno hge hc hnan hsg HE
      go_enter Tryz.func36, Tryz.ntmps36
      go_wp2_with (first | (go_at_call 62; refine (HC.out _).mono ?_; rintro e w' ⟨rfl, rfl⟩) | (go_at_call 63; refine (HN.out _).mono ?_; rintro e w' ⟨rfl, rfl⟩))
      go_ret
      exact ⟨rfl, rfl⟩
    · rw [hsg] at HN HE
      rw [HE.out]
      clear hu h hno hge hc hnan hsg HE
      go_enter Tryz.func36, Tryz.ntmps36
      go_wp2_with (first | (go_at_call 62; refine (HC.out _).mono ?_; rintro e w' ⟨rfl, rfl⟩) | (go_at_call 63; refine (HN.out _).mono ?_; rintro e w' ⟨rfl, rfl⟩))
      go_ret
      exact ⟨rfl, rfl⟩
  · have hc : clsI u = 5 := by
      have := (nan_iff' u).1 hnan
      rcases cls_cases u with ⟨a, _⟩ | ⟨a, _⟩ | ⟨a, _⟩ | ⟨a, _⟩ | ⟨_, a⟩
      · omega
      · omega
      · omega
      · omega
      · exact a
    rw [hc] at HC
    rw [hnan] at HE
    rw [HE.out]
    clear hu h hno hge hc hnan HE HN
    go_enter Tryz.func36, Tryz.ntmps36
    go_wp2_with (go_at_call 62; refine (HC.out _).mono ?_; rintro e w' ⟨rfl, rfl⟩)
    go_ret
    exact ⟨rfl, rfl⟩

set_option maxHeartbeats 400000 in
theorem sizeOf_any (m : Int) (w : World) (h0 : -9007199254740992 ≤ m) (h1 : m ≤ 9007199254740992) :
    Calls Tryz.prog 38 #[.int .i64 m] w fun e w' => e = .returned (.int .u64 (m.natAbs : Nat)) ∧ w' = w := by
  obtain ⟨k, hk⟩ : ∃ k : Nat, m.natAbs = k := ⟨_, rfl⟩
  rw [hk]
  have hmax : max m (-m) = (k : Int) := by omega
  have hw : IntKind.u64.wrap (k : Int) = (k : Int) := by rw [IntKind.wrap_u64]; omega
  clear hk
  go_enter Tryz.func38, Tryz.ntmps38
  go_wp2
  go_ret
  exact ⟨rfl, rfl⟩
end Go.Proofs.YtdmldggjgaaliaaGreat.A
