/- What the law SchedEnds has at hand; where nothing is asked. -/
import Derived.Test.YtelghkhcplmnmaaSpN
import Derived.Test.YtelghkhcplmnmaaQLaw
import Derived.BigQuiet
namespace Go.Proofs.Ytelghkhcplmnmaa
open Go.RowKit

/-- What a period has to do with its neighbours. -/
structure PerFit (l : List Int) (conv lag : Int) (rs : List Per) (i : Nat) : Prop where
  fr : (rs.getD i per0).fr = l.getD i 0
  to : (rs.getD i per0).to = l.getD (i + 1) 0
  st : 0 < i → (rs.getD i per0).st = (rs.getD (i - 1) per0).en
  se : conv = 0 → ¬ (rs.getD i per0).en < (rs.getD i per0).st
  p0 : lag = 0 → (rs.getD i per0).pay = (rs.getD i per0).en
  p1 : 0 < lag → ¬ (rs.getD i per0).pay ≤ (rs.getD i per0).en
theorem per_all {op : Int → Bool} {s : Spc} {a b : Int} {r : Per} (h : perO op s a b = some r) : r.fr = a ∧ r.to = b ∧ adjO op a s.conv = some r.st ∧ adjO op b s.conv = some r.en ∧ (¬ 0 < s.lag → r.pay = r.en) ∧ (0 < s.lag → addO op 1 s.lag.toNat r.en = some r.pay) := by
  rcases perO_cases op s a b with ⟨_, e⟩ | ⟨_, _, _, e⟩ | ⟨x, y, hx, hy, hl, e⟩ | ⟨_, _, _, _, _, _, e⟩ | ⟨x, y, z, hx, hy, hl, hz, e⟩
  · rw [e] at h; cases h
  · rw [e] at h; cases h
  · rw [e] at h
    obtain rfl := Option.some.inj h
    exact ⟨rfl, rfl, hx, hy, fun _ => rfl, fun h => absurd h hl⟩
  · rw [e] at h; cases h
  · rw [e] at h
    obtain rfl := Option.some.inj h
    exact ⟨rfl, rfl, hx, hy, fun h => absurd hl h, fun _ => hz⟩
theorem perL_get {op : Int → Bool} {s : Spc} {l : List Int} {N i : Nat} (hi : i < N) : (perL op s l N).getD i per0 = (perI op s l i).getD per0 := by
  unfold perL; simp [List.getD, hi]
theorem per_fit {op : Int → Bool} {s : Spc} {K : Nat} (h : SpcOk s) (hK : DatR s K) (ha : ∀ j < cutN s K + 1, (perI op s (datL s (cutN s K)) j).isSome = true) {i : Nat} (hi : i < cutN s K + 1) : PerFit (datL s (cutN s K)) s.conv s.lag (perL op s (datL s (cutN s K)) (cutN s K + 1)) i := by
  obtain ⟨r, hr⟩ := Option.isSome_iff_exists.1 (ha i hi)
  have e1 : (perL op s (datL s (cutN s K)) (cutN s K + 1)).getD i per0 = r := by rw [perL_get hi, hr]; rfl
  obtain ⟨f1, f2, f3, f4, f5, f6⟩ := per_all hr
  have hlt := dat_lt h hK (cut_le s K) (i := i) (by omega)
  refine ⟨by rw [e1]; exact f1, by rw [e1]; exact f2, fun h0 => ?_, fun hc => ?_, fun hl => by rw [e1]; exact f5 (by omega), fun hl => ?_⟩
  · obtain ⟨r', hr'⟩ := Option.isSome_iff_exists.1 (ha (i - 1) (by omega))
    have e2 : (perL op s (datL s (cutN s K)) (cutN s K + 1)).getD (i - 1) per0 = r' := by rw [perL_get (by omega), hr']; rfl
    obtain ⟨_, _, _, g4, _, _⟩ := per_all hr'
    rw [show i - 1 + 1 = i by omega, f3] at g4
    rw [e1, e2]; exact Option.some.inj g4
  · rw [hc, adjO_0] at f3 f4
    rw [e1, ← Option.some.inj f3, ← Option.some.inj f4]; omega
  · have hd := adj_day (dat_day h hK (cut_le s K) (i := i + 1) (by omega)) f4
    have := (add_cnt s.lag.toNat _ _ hd (f6 hl)).2.2.1 (by omega)
    rw [e1]; omega

/-- What the law has at hand. -/
structure EndH (s : Spc) (l : List Int) (N : Nat) (rs : List Per) (F : Int) : Prop where
  len : l.length = N + 1
  pos : 0 < N
  top : N ≤ 1200
  fst : l.getD 0 0 = s.st
  lst : l.getD N 0 = s.en
  up : ∀ i < N, l.getD i 0 < l.getD (i + 1) 0
  kind : (F = 51 ∧ rs = []) ∨ (F = 0 ∧ rs.length = N ∧ ∀ i < N, PerFit l s.conv s.lag rs i)
  lag : 0 ≤ s.lag

set_option maxRecDepth 10000 in
set_option maxHeartbeats 3200000 in
theorem schedEnds_great (s : Spc) (W : Int) (p : Option Addr) (Nr c : Nat) (w : World) (h1 : 8 < Nr) (h2 : Nr ≤ 9223372036854775807) :
    Calls Try.prog 3 #[.agg #[.int .i64 s.st, .int .i64 s.en, .int .i64 s.n, .int .i64 s.unit, .int .i64 s.stub, .int .i64 s.roll, .int .i64 s.conv, .int .i64 s.lag, .int .i64 W, .slice p Nr c]] w fun e w' => e = .returned (.bool true) ∧ Below w.heap.size w w' := by
  have HB0 := hideS (SBox.zero w s W (.slice p Nr c))
  have HSm := hideS (fun wx => small_many s W p Nr c wx h1 h2)
  obtain ⟨st, en, n, unit, stub, roll, conv, lag⟩ := s
  dsimp only at *
  go_enter Try.func3, Try.ntmps3
  go_wp2_with (first | (go_at_call 6; refine (HSm.out _).mono ?_; rintro e w1 ⟨rfl, hb1⟩) | (go_at_call 7; refine (awake8 _).mono ?_; rintro e w9 ⟨rfl, hb9⟩))
  go_ret
  exact ⟨rfl, ((HB0.out.step hb1).step hb9).below⟩

set_option maxRecDepth 10000 in
set_option maxHeartbeats 3200000 in
theorem schedEnds_wrong (s : Spc) (W E : Int) (p : Option Addr) (Nr c : Nat) (w : World) (hE : E ≠ 0) (HSm : Hid (∀ wx, Below w.heap.size w wx → Calls Try.prog 6 #[.agg #[.int .i64 s.st, .int .i64 s.en, .int .i64 s.n, .int .i64 s.unit, .int .i64 s.stub, .int .i64 s.roll, .int .i64 s.conv, .int .i64 s.lag, .int .i64 W, .slice p Nr c]] wx fun e w' => (∃ b, e = .returned (.bool b)) ∧ Below wx.heap.size wx w')) (HD : Hid (∀ wx, Below w.heap.size w wx → Calls Try.prog 8 #[.agg #[.int .i64 s.st, .int .i64 s.en, .int .i64 s.n, .int .i64 s.unit, .int .i64 s.stub, .int .i64 s.roll, .int .i64 s.conv, .int .i64 s.lag, .int .i64 W, .slice p Nr c]] wx fun e w' => e = .returned (.tuple #[.slice none 0 0, .int .i64 E]) ∧ Below wx.heap.size wx w')) :
    Calls Try.prog 3 #[.agg #[.int .i64 s.st, .int .i64 s.en, .int .i64 s.n, .int .i64 s.unit, .int .i64 s.stub, .int .i64 s.roll, .int .i64 s.conv, .int .i64 s.lag, .int .i64 W, .slice p Nr c]] w fun e w' => e = .returned (.bool true) ∧ Below w.heap.size w w' := by
  have HB0 := hideS (SBox.zero w s W (.slice p Nr c))
  have hE' : (E != 0) = true := bne_iff_ne.2 hE
  clear hE
  obtain ⟨st, en, n, unit, stub, roll, conv, lag⟩ := s
  dsimp only at *
  go_enter Try.func3, Try.ntmps3
  go_wp2_with fail
  refine (HSm.out _ HB0.out.below).mono ?_
  rintro e w1 ⟨⟨bb, rfl⟩, hb1⟩
  have HB1 := hideS (HB0.out.step hb1)
  clear hb1
  obtain ⟨c0, c1, c2, c3, c4, c5, c6, c7, c8, c9⟩ := HB1.out.cells
  cases bb
  · go_wp2_with (go_at_call 7; refine (awake8 _).mono ?_; rintro e w9 ⟨rfl, hb9⟩)
    go_ret
    exact ⟨rfl, (HB1.out.step hb9).below⟩
  go_wp2_with fail
  refine (HD.out _ HB1.out.below).mono ?_
  rintro e w2 ⟨rfl, hb2⟩
  have HB2 := hideS (HB1.out.step hb2)
  clear hb2
  go_wp2_with (go_at_call 7; refine (awake8 _).mono ?_; rintro e w9 ⟨rfl, hb9⟩)
  go_ret
  exact ⟨rfl, (HB2.out.step hb9).below⟩

end Go.Proofs.Ytelghkhcplmnmaa
