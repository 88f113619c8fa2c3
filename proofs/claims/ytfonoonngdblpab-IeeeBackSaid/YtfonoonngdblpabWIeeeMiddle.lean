/- The walk of IeeeMiddle: halving by Mid ends within 64 steps. -/
import Derived.Test.YtfonoonngdblpabAwake
import Derived.Test.YtfonoonngdblpabPlain2
import Derived.LoopTactic
namespace Go.Proofs.Ytfonoonngdblpab
open Go.RowKit

theorem hide {p : Prop} (h : p) : Hid p := h
theorem unhide {p : Prop} (h : Hid p) : p := h
/-- The bits of a number or an infinity, with its rank. -/
def Good (a : Nat) (r : Int) : Prop := U64 a ∧ nanB a = false ∧ rankI a = r

theorem Good.lo {a : Nat} {r : Int} (h : Good a r) : -9218868437227405312 ≤ r := by rw [← h.2.2]; exact rank_lo _
theorem Good.hi {a : Nat} {r : Int} (h : Good a r) : r ≤ 9218868437227405312 := by rw [← h.2.2]; exact rank_hi _
theorem good_of {a : Nat} (h : U64 a) (h' : nanB a = false) : Good a (rankI a) := ⟨h, h', rfl⟩

theorem rank_good (a : Nat) (r : Int) (w : World) (h : Good a r) :
    Calls Try.prog 16 #[.float .f64 a] w fun e w' => e = .returned (.tuple #[.int .i64 r, .bool true]) ∧ w' = w := by
  obtain ⟨h1, h2, h3⟩ := h
  have := rank_any a w h1
  rw [h3, h2] at this; exact this
theorem rank_bad (a : Nat) (w : World) (h : U64 a) (h' : Hid (nanB a = true)) :
    Calls Try.prog 16 #[.float .f64 a] w fun e w' => e = .returned (.tuple #[.int .i64 0, .bool false]) ∧ w' = w := by
  have := rank_any a w h
  rw [rank_nan h'.out, h'.out] at this; exact this
theorem mid_good {a b : Nat} {r s : Int} (h : Good a r) (h' : Good b s) :
    ∃ c : Nat, Good c ((r + s) / 2) ∧ ∀ w, Calls Try.prog 23 #[.float .f64 a, .float .f64 b] w fun e w' => e = .returned (.tuple #[.float .f64 c, .bool true]) ∧ w' = w := by
  obtain ⟨h1, h2, h3⟩ := h
  obtain ⟨h1', h2', h3'⟩ := h'
  obtain ⟨e1, e2, e3, e4⟩ := mid_facts h2 h2'
  have e : ((midA a b).toNat : Int) = midA a b := Int.toNat_of_nonneg e4.1
  refine ⟨(midA a b).toNat, ⟨?_, ?_, ?_⟩, fun w => ?_⟩
  · rw [e]; exact e4
  · rw [e]; exact e2
  · rw [e, e3, h3, h3']
  · have := mid_as a b a b w rfl rfl h1 h1'
    rw [e1] at this; exact this

theorem pow_half {k : Nat} {r s : Int} (hk : k < 64) (h : s - r ≤ (2 : Int) ^ (64 - k)) :
    s - (r + s) / 2 ≤ (2 : Int) ^ (64 - (k + 1)) ∧ (r + s) / 2 - r ≤ (2 : Int) ^ (64 - (k + 1)) := by
  have e : (2 : Int) ^ (64 - k) = 2 ^ (64 - (k + 1)) * 2 := by
    rw [show 64 - k = (64 - (k + 1)) + 1 by omega, Int.pow_succ]
  rw [e] at h
  generalize (2 : Int) ^ (64 - (k + 1)) = p at *
  omega

set_option maxRecDepth 10000 in
set_option maxHeartbeats 1000000 in
theorem ieeeMiddle_go (x y : Nat) (rx ry way : Int) (w : World) (hx : Good x rx) (hy : Good y ry) (hlt : rx < ry) :
    Calls Try.prog 5 #[.float .f64 x, .float .f64 y, .int .u64 way] w fun e w' => e = .returned (.bool true) ∧ Grown w w' := by
  have hlt' := hlt
  have l1 := hx.lo
  have l2 := hy.hi
  go_enter Try.func5, Try.ntmps5
  go_wp2_with fail
  refine (rank_good _ _ _ hx).mono ?_
  rintro e w' ⟨rfl, rfl⟩
  go_wp2_with fail
  refine (rank_good _ _ _ hy).mono ?_
  rintro e w' ⟨rfl, rfl⟩
  go_wp2_with fail
  clear hlt l1 l2
  have HG : Hid (Good x rx ∧ Good y ry ∧ rx < ry ∧ ry - rx ≤ (2 : Int) ^ (64 - 0)) := ⟨hx, hy, hlt', by have := hx.lo; have := hy.hi; omega⟩
  clear hx hy
  go_loop [0, 7, 1, 9, 11] (fun p n q m i => ∃ (a b : Nat) (r s : Int) (k : Nat), k ≤ 64 ∧ p = .float .f64 a ∧ n = .int .i64 r ∧ q = .float .f64 b ∧ m = .int .i64 s ∧ i = .int .i64 k ∧ Hid (Good a r ∧ Good b s ∧ r < s ∧ s - r ≤ (2 : Int) ^ (64 - k))) (fun _ _ _ _ i => 64 - (intOf i).toNat)
  case atStart => exact ⟨x, y, rx, ry, 0, by omega, rfl, rfl, rfl, rfl, rfl, HG⟩
  case round =>
    clear HG
    obtain ⟨a, b, r, s, k, hk, rfl, rfl, rfl, rfl, rfl, HR⟩ := hrel
    obtain ⟨c, gc, hm⟩ := mid_good HR.out.1 HR.out.2.1
    have l1 := HR.out.1.lo
    have l2 := HR.out.2.1.hi
    have hrs := HR.out.2.2.1
    have HM := hide hm
    clear hm
    by_cases hlt : k < 64
    · have HP : Hid (s - (r + s) / 2 ≤ (2 : Int) ^ (64 - (k + 1)) ∧ (r + s) / 2 - r ≤ (2 : Int) ^ (64 - (k + 1))) := pow_half hlt HR.out.2.2.2
      by_cases hone : (r + s) / 2 = r
      · obtain rfl : s = r + 1 := by omega
        rw [hone] at gc
        clear hone HP
        go_wp2_with fail
        refine (unhide HM _).mono ?_
        rintro e w' ⟨rfl, rfl⟩
        go_wp2_with fail
        refine (rank_good _ _ _ gc).mono ?_
        rintro e w' ⟨rfl, rfl⟩
        go_wp2_with (go_at_call 15; refine (awake_true _).mono ?_; rintro e w' ⟨rfl, nq, rfl⟩)
        go_ret
        exact ⟨rfl, grown_drewN _ _⟩
      · have h1 : r < (r + s) / 2 := by omega
        have h2 : (r + s) / 2 < s := by omega
        clear hone
        generalize hz : (r + s) / 2 = z at h1 h2 gc HP
        clear hz
        go_wp2_with fail
        refine (unhide HM _).mono ?_
        rintro e w' ⟨rfl, rfl⟩
        go_wp2_with fail
        refine (rank_good _ _ _ gc).mono ?_
        rintro e w' ⟨rfl, rfl⟩
        go_wp2_with fail
        · go_round
          case rel => exact ⟨c, b, z, s, k + 1, by omega, rfl, rfl, rfl, rfl, by go_num, ⟨gc, HR.out.2.1, h2, HP.out.1⟩⟩
          case measure => simp [intOf]; omega
        · go_round
          case rel => exact ⟨a, c, r, z, k + 1, by omega, rfl, rfl, rfl, rfl, by go_num, ⟨HR.out.1, gc, h1, HP.out.2⟩⟩
          case measure => simp [intOf]; omega
    · obtain rfl : k = 64 := by omega
      have h4 := HR.out.2.2.2
      have h5 : (2 : Int) ^ (64 - 64) = 1 := rfl
      rw [h5] at h4
      have hone : (r + s) / 2 = r := by omega
      rw [hone] at gc
      clear hone h4 h5
      go_wp2_with fail
      refine (unhide HM _).mono ?_
      rintro e w' ⟨rfl, rfl⟩
      go_wp2_with fail
      refine (rank_good _ _ _ gc).mono ?_
      rintro e w' ⟨rfl, rfl⟩
      go_wp2_with (go_at_call 15; refine (awake_true _).mono ?_; rintro e w' ⟨rfl, nq, rfl⟩)
      go_ret
      exact ⟨rfl, grown_drewN _ _⟩

set_option maxHeartbeats 400000 in
theorem ieeeMiddle_walk (x y : Nat) (way : Int) (wx : (Lit.float .f64 x).wf = true) (wy : (Lit.float .f64 y).wf = true) (_ww : (Lit.int .u64 way).wf = true) (w : World) :
    Calls Try.prog 5 #[.float .f64 x, .float .f64 y, .int .u64 way] w fun e w' => e = .returned (.bool true) ∧ Grown w w' := by
  have hx := u64_of_wf wx
  have hy := u64_of_wf wy
  clear wx wy _ww
  cases h1 : nanB x
  · cases h2 : nanB y
    · have gx := good_of hx h1
      have gy := good_of hy h2
      generalize rankI x = rx at gx
      generalize rankI y = ry at gy
      clear h1 h2
      by_cases hlt : rx < ry
      · exact ieeeMiddle_go x y rx ry way w gx gy hlt
      · go_enter Try.func5, Try.ntmps5
        go_wp2_with fail
        refine (rank_good _ _ _ gx).mono ?_
        rintro e w' ⟨rfl, rfl⟩
        go_wp2_with fail
        refine (rank_good _ _ _ gy).mono ?_
        rintro e w' ⟨rfl, rfl⟩
        go_wp2_with (go_at_call 15; refine (awake_true _).mono ?_; rintro e w' ⟨rfl, nq, rfl⟩)
        go_ret
        exact ⟨rfl, grown_drewN _ _⟩
    · have gx := good_of hx h1
      have H2 := hide h2
      generalize rankI x = rx at gx
      clear h1 h2
      go_enter Try.func5, Try.ntmps5
      go_wp2_with fail
      refine (rank_good _ _ _ gx).mono ?_
      rintro e w' ⟨rfl, rfl⟩
      go_wp2_with fail
      refine (rank_bad _ _ hy H2).mono ?_
      rintro e w' ⟨rfl, rfl⟩
      go_wp2_with (go_at_call 15; refine (awake_true _).mono ?_; rintro e w' ⟨rfl, nq, rfl⟩)
      go_ret
      exact ⟨rfl, grown_drewN _ _⟩
  · have H1 := hide h1
    clear h1
    go_enter Try.func5, Try.ntmps5
    go_wp2_with fail
    refine (rank_bad _ _ hx H1).mono ?_
    rintro e w' ⟨rfl, rfl⟩
    go_wp2_with fail
    refine (rank_any _ _ hy).mono ?_
    rintro e w' ⟨rfl, rfl⟩
    go_wp2_with (go_at_call 15; refine (awake_true _).mono ?_; rintro e w' ⟨rfl, nq, rfl⟩)
    go_ret
    exact ⟨rfl, grown_drewN _ _⟩

end Go.Proofs.Ytfonoonngdblpab
