/- Contracts of package acc's words: inverse, turned, size, same. The contract of package acc's plus. The contract of package acc's with. -/
import Derived.Test.YtdmldggjgaaliaaGreatAcA
import Derived.Deep.RegionWith
namespace Go.Proofs.YtdmldggjgaaliaaGreat.A
open Go.RowKit

theorem made_zeros (n : Nat) : (madeCells #[.int .u64 0] n).toList = (List.replicate n 0).map uV := by
  apply List.ext_getElem
  · simp [size_madeCells]
  · intro i h1 h2
    simp [madeCells, uV, Nat.mod_one]
theorem OwnW.made (w : World) (n : Nat) (hn : n ≤ 1000000) : OwnW (w.alloc (.cells (madeCells #[.int .u64 0] n) 29)) w.heap.size (.slice (some ⟨w.heap.size, 0, none⟩) n n) (List.replicate n 0) := by
  refine ⟨?_, fun i => ?_⟩
  · have := World.ownsRow_lit (base := w.heap.size) (e := 29) (size := 1) w (madeCells #[.int .u64 0] n) n (Nat.le_refl _) (by unfold maxLen; omega) (by simp [size_madeCells])
    rw [made_zeros] at this
    simpa using this
  · show (List.replicate n 0).getD i 0 < _
    rw [List.getD, List.getElem?_replicate]
    split <;> decide
/-- One word more of a difference. -/
theorem rel_set {s : Int} {ys : List Nat} {x f : Nat → Nat} {c c' k z : Nat} (h : Rel s (fun i => ys.getD i 0) x f c k) (hk : k < ys.length) (hz : (z : Int) + s * ((c' : Int) * 18446744073709551616) = (x k : Int) + s * ((f k : Int) + c)) : Rel s (fun i => (ys.set k z).getD i 0) x f c' (k + 1) := by
  have h2 : Rel s (fun i => (ys.set k z).getD i 0) x f c k := h.congr (fun i hi => by show ys.getD i 0 = (ys.set k z).getD i 0; rw [getD_set hk, if_neg (by omega)]) (fun _ _ => rfl) (fun _ _ => rfl)
  refine h2.step ?_
  show (((ys.set k z).getD k 0 : Nat) : Int) + _ = _
  rw [getD_set hk, if_pos rfl]; exact hz

set_option maxHeartbeats 800000 in
theorem inverse_any (B : Nat) (v : Value) (xs : List Nat) (w : World) (h : OwnW w B v xs) (hn : xs.length ≤ 100000) :
    Calls Tryz.prog 68 #[v] w fun e w' => ∃ v' ys c, e = .returned v' ∧ OwnW w' w.heap.size v' ys ∧ ys.length = xs.length ∧ Rel (-1) (fun i => ys.getD i 0) (fun _ => 0) (fun i => xs.getD i 0) c xs.length ∧ Below w.heap.size w w' := by
  obtain ⟨p, g, c, rfl, hc1, hc2, hp, hc⟩ := h.shape
  have HC := hideS hc
  have HF := hideS h.fit
  clear h hc
  have HM := hideS (OwnW.made w xs.length (by omega))
  have HB := hideS ((Below.refl w.heap.size w).alloc (Nat.le_refl _) (.cells (madeCells #[.int .u64 0] xs.length) 29))
  have hmk := fun w => run_make_row' (P := Tryz.prog) 58 29 (.int .u64 0) 8 Tryz.underlying58 infoU rfl .i64 .i64 xs.length (by omega) (by omega) w
  generalize xs.length = n at *
  go_enter Tryz.func68, Tryz.ntmps68
  go_wp2
  clear hmk
  go_loopw [4, 5, 11] (fun b _ i wr => ∃ (k c : Nat) (ys : List Nat), k ≤ n ∧ c ≤ 1 ∧ b = .int .u64 c ∧ i = .int .i64 k ∧ Hid (OwnW wr w.heap.size (.slice (some ⟨w.heap.size, 0, none⟩) n n) ys ∧ ys.length = n ∧ Rel (-1) (fun i => ys.getD i 0) (fun _ => 0) (fun i => xs.getD i 0) c k ∧ Below w.heap.size w wr)) (fun _ _ i _ => n - (intOf i).toNat)
  case atStart => exact ⟨0, 0, List.replicate n 0, Nat.zero_le _, by omega, rfl, rfl, HM.out, by simp, Rel.start _ _ _ _, HB.out⟩
  case round =>
    clear HM HB
    obtain ⟨k, cy, ys, hk, hcy, rfl, rfl, HR⟩ := hrel
    by_cases hlt : k < n
    · obtain ⟨rfl, hg1, hg2⟩ := hp (by omega)
      have hcl : wr.cell? ⟨g, k, none⟩ = some (.int .u64 (xs.getD k 0 : Nat)) := (HR.out.2.2.2.cell (p := ⟨g, k, none⟩) hg2).trans (HC.out k hlt)
      have hd : wr.cell? ⟨w.heap.size, k, none⟩ = some (.int .u64 (ys.getD k 0 : Nat)) := HR.out.1.cell1 HR.out.2.1 k (by rw [HR.out.2.1]; exact hlt)
      have hfz : wr.frozen? ⟨w.heap.size, k, none⟩ = false := HR.out.1.frozen1 HR.out.2.1 k
      have hxf : xs.getD k 0 < 18446744073709551616 := HF.out k
      obtain ⟨x, hx⟩ : ∃ x, xs.getD k 0 = x := ⟨_, rfl⟩
      have HX := hideS hx
      rw [hx] at hcl hxf
      generalize ys.getD k 0 = d at hd
      obtain ⟨z, c', e1, e2, h1, h2, h3⟩ := sub64_parts 0 x cy hcy (by decide) hxf
      have ha := call_sub64 0 x cy hcy
      rw [e1, e2] at ha
      have H3 := hideS h3
      have hst := (HR.out.1.set HR.out.2.1 k z h1)
      have HST := hideS hst
      clear hst e1 e2 h3 hx hxf
      have ha0 : ∀ w, (callFunc 87 #[.int .u64 0, .int .u64 x, .int .u64 cy]).run Tryz.prog w = .ok (.value (.tuple #[.int .u64 z, .int .u64 c'])) w := ha
      clear ha
      go_wp2
      go_roundw
      case rel =>
        refine ⟨k + 1, c', ys.set k z, by omega, h2, rfl, by simp, HST.out.1, by rw [List.length_set]; exact HR.out.2.1, ?_, HR.out.2.2.2.setCell (Nat.le_refl _) _⟩
        refine rel_set HR.out.2.2.1 (by rw [HR.out.2.1]; exact hlt) ?_
        rw [HX.out]; exact H3.out
      case measure => simp [intOf]; omega
    · obtain rfl : k = n := by omega
      go_wp2
      go_ret
      exact ⟨_, ys, cy, rfl, HR.out.1, HR.out.2.1, HR.out.2.2.1, HR.out.2.2.2⟩

theorem settle_len (xs : List Nat) : (settle xs).length ≤ xs.length + 1 := by unfold settle; split <;> simp

set_option maxHeartbeats 400000 in
theorem size_any' (B : Nat) (v : Value) (xs : List Nat) (N : Int) (w : World) (h : OwnW w B v xs) (hs : Sg xs N) (hn : xs.length ≤ 100000) (hB : B ≤ w.heap.size) :
    Calls Tryz.prog 40 #[v] w fun e w' => ∃ v' ys, e = .returned (.tuple #[v', .bool (decide (N < 0))]) ∧ OwnW w' B v' ys ∧ ys.length = xs.length ∧ ps (fun i => ys.getD i 0) ys.length = N.natAbs ∧ Below w.heap.size w w' := by
  have HE := hideS (ends_any B v xs w h (by omega))
  have HI := hideS (inverse_any B v xs w h hn)
  have HS := hideS hs
  have HO := hideS h
  by_cases h0 : endW xs = 0
  · have hr := (hs.range (n := xs.length) (by omega)).1 h0
    have he := hs.eq
    rw [if_pos h0, wd_in (Nat.le_refl _)] at he
    have hd : decide (N < 0) = false := by simp; omega
    rw [hd]
    have HP : Hid (ps (fun i => xs.getD i 0) xs.length = N.natAbs) := by show _ = _; omega
    rw [h0] at HE
    clear hs h he hr hd h0 HI
    go_enter Tryz.func40, Tryz.ntmps40
    go_wp2_with (go_at_call 67; refine HE.out.mono ?_; rintro e w' ⟨rfl, rfl⟩)
    go_ret2
    exact ⟨v, xs, rfl, HO.out, rfl, HP.out, Below.refl _ _⟩
  · have hr := (hs.range (n := xs.length) (by omega)).2 h0
    have hd : decide (N < 0) = true := by simp; omega
    rw [hd]
    have h1 : ((endW xs : Int) == 0) = false := by simpa using h0
    have H0 := hideS h0
    clear hs h hr hd h0
    generalize (endW xs : Int) = q at *
    go_enter Tryz.func40, Tryz.ntmps40
    go_wp2_with (first | (go_at_call 67; refine (turned HE.out).mono ?_; rintro e w' ⟨rfl, rfl⟩) | (go_at_call 68; refine HI.out.mono ?_; rintro e w1 ⟨v1, ys, c, rfl, ho, hl, hr, hb⟩))
    have R := hideS (And.intro ho (And.intro hl (And.intro hr hb)))
    clear ho hl hr hb
    go_wp2
    go_ret2
    have h5 := inv_size HS.out H0.out R.out.2.1 R.out.1.fit R.out.2.2.1
    refine ⟨v1, ys, rfl, ⟨?_, R.out.1.fit⟩, R.out.2.1, by omega, R.out.2.2.2⟩
    refine ⟨R.out.1.own.1, ?_⟩
    rcases R.out.1.own.2 with h6 | ⟨g, cap, cur, h6, h7, rest⟩
    · exact .inl h6
    · exact .inr ⟨g, cap, cur, h6, Nat.le_trans hB h7, rest⟩
end Go.Proofs.YtdmldggjgaaliaaGreat.A
namespace Go.Proofs.YtdmldggjgaaliaaGreat.A
open Go.RowKit

theorem longW_getD {xs : List Nat} {n k : Nat} (hk : k < max xs.length n) : (longW xs n).getD k 0 = wd xs k := by
  unfold longW wd
  rw [getD_app]
  by_cases h : k < xs.length
  · rw [if_pos h, if_pos h]
  · rw [if_neg h, if_neg h, List.getD, List.getElem?_replicate, if_pos (by omega)]; rfl
theorem Wrote.own {a b c : World} {v v1 : Value} (h : Wrote a b (At v)) (hn : New a v v1) (h' : Wrote b c (At v1)) : Wrote a c (At v) :=
  h.trans h' (fun k hk hk1 => by
    rcases hn k hk1 with h5 | h5
    · exact h5
    · omega)
end Go.Proofs.YtdmldggjgaaliaaGreat.A
namespace Go.Proofs.YtdmldggjgaaliaaGreat.A
open Go.RowKit

/-- Three words at a place. -/
def at3 (f p0 p1 p2 : Nat) (i : Nat) : Nat := if i = f then p0 else if i = f + 1 then p1 else if i = f + 2 then p2 else 0
theorem ps_at3 (f p0 p1 p2 n : Nat) (hn : f + 3 ≤ n) : ps (at3 f p0 p1 p2) n = (p0 + p1 * 18446744073709551616 + p2 * (18446744073709551616 * 18446744073709551616)) * 2 ^ (64 * f) := by
  have h0 : ps (at3 f p0 p1 p2) f = 0 := by
    rw [ps_congr (g := fun _ => 0) (fun i hi => by unfold at3; rw [if_neg (by omega), if_neg (by omega), if_neg (by omega)]), ps_zero]
  have h3 : ps (at3 f p0 p1 p2) (f + 3) = (p0 + p1 * 18446744073709551616 + p2 * (18446744073709551616 * 18446744073709551616)) * 2 ^ (64 * f) := by
    rw [ps, ps, ps, h0]
    have a0 : at3 f p0 p1 p2 f = p0 := by unfold at3; rw [if_pos rfl]
    have a1 : at3 f p0 p1 p2 (f + 1) = p1 := by unfold at3; rw [if_neg (by omega), if_pos rfl]
    have a2 : at3 f p0 p1 p2 (f + 2) = p2 := by unfold at3; rw [if_neg (by omega), if_neg (by omega), if_pos rfl]
    rw [a0, a1, a2, pow64 (f + 1), pow64 f]
    generalize (2 : Nat) ^ (64 * f) = P
    rw [Nat.add_mul, Nat.add_mul, Nat.mul_assoc p1, Nat.mul_assoc p2, Nat.mul_assoc 18446744073709551616 18446744073709551616, Nat.zero_add]
  rw [← h3]
  clear h3 h0
  induction n with
  | zero => omega
  | succ n ih =>
    by_cases h : f + 3 = n + 1
    · rw [h]
    · rw [ps, ih (by omega)]
      have : at3 f p0 p1 p2 n = 0 := by unfold at3; rw [if_neg (by omega), if_neg (by omega), if_neg (by omega)]
      rw [this]; simp
theorem shl_word {x o : Nat} : IntKind.u64.wrap ((x : Int) * 2 ^ o) = ((x * 2 ^ o % 18446744073709551616 : Nat) : Int) := by
  rw [IntKind.wrap_u64, Int.natCast_emod, Int.natCast_mul, Int.natCast_pow]; rfl
theorem shr_word {x o : Nat} : (x : Int) / 2 ^ (64 - o) = ((x / 2 ^ (64 - o) : Nat) : Int) := by
  rw [Int.natCast_ediv, Int.natCast_pow]; rfl

theorem at3_0 (f p0 p1 p2 : Nat) : at3 f p0 p1 p2 f = p0 := by unfold at3; rw [if_pos rfl]
theorem at3_1 (f p0 p1 p2 : Nat) : at3 f p0 p1 p2 (f + 1) = p1 := by unfold at3; rw [if_neg (by omega), if_pos rfl]
theorem at3_2 (f p0 p1 p2 : Nat) : at3 f p0 p1 p2 (f + 2) = p2 := by unfold at3; rw [if_neg (by omega), if_neg (by omega), if_pos rfl]
theorem at3_far {f p0 p1 p2 i : Nat} (h : f + 3 ≤ i ∨ i < f) : at3 f p0 p1 p2 i = 0 := by unfold at3; rw [if_neg (by omega), if_neg (by omega), if_neg (by omega)]
/-- What the sum has come to at word k. -/
structure Mid (w1 wr : World) (B : Nat) (v1 : Value) (n : Nat) (less : Bool) (F x0 : Nat → Nat) (ys : List Nat) (c k : Nat) : Prop where
  own : OwnW wr B v1 ys
  len : ys.length = n
  rel : Rel (sI less) (fun i => ys.getD i 0) x0 F c k
  rest : ∀ j, k ≤ j → ys.getD j 0 = x0 j
  wrote : Wrote w1 wr (At v1)
theorem Mid.step {w1 wr : World} {B g n cc : Nat} {less : Bool} {F x0 : Nat → Nat} {ys : List Nat} {c c' k z : Nat} (h : Mid w1 wr B (.slice (some ⟨g, 0, none⟩) n cc) n less F x0 ys c k) (hk : k < n) (hz : z < 18446744073709551616) (he : (z : Int) + sI less * ((c' : Int) * 18446744073709551616) = (x0 k : Int) + sI less * ((F k : Int) + c)) :
    Mid w1 (wr.setCell ⟨g, k, none⟩ (.int .u64 (z : Int))) B (.slice (some ⟨g, 0, none⟩) n cc) n less F x0 (ys.set k z) c' (k + 1) := by
  have h1 := h.own.set h.len k z hz
  have hl := h.len
  refine ⟨h1.1, by rw [List.length_set]; exact h.len, rel_set h.rel (by omega) he, fun j hj => ?_, h.wrote.trans (wrote_grown h1.2) (fun k' _ hk' => hk')⟩
  rw [getD_set (by omega), if_neg (by omega)]
  exact h.rest j (by omega)

theorem sI_pm (less : Bool) : sI less = 1 ∨ sI less = -1 := by cases less <;> simp [sI]
theorem with_end {w1 wr : World} {B n f p0 p1 p2 F c k : Nat} {v1 : Value} {less : Bool} {xs ys : List Nat} {N : Int} (hs : Sg xs N) (hl : (longW xs (f + 3)).length = n) (hM : Mid w1 wr B v1 n less (at3 f p0 p1 p2) (fun i => (longW xs (f + 3)).getD i 0) ys c k) (hc : c = 0 ∨ k = n) (h1 : f + 3 ≤ k) (h2 : k ≤ n) (hF : ps (at3 f p0 p1 p2) n = F) (hb : 4 * (F : Int) ≤ 2 ^ (64 * n)) : Sg (settle ys) (N + sI less * F) := by
  obtain ⟨m, rfl⟩ : ∃ m, n = m + 1 := ⟨n - 1, by omega⟩
  have hr : ∃ c', Rel (sI less) (fun i => ys.getD i 0) (fun i => (longW xs (f + 3)).getD i 0) (at3 f p0 p1 p2) c' (m + 1) := by
    rcases hc with rfl | rfl
    · exact ⟨0, hM.rel.rest h2 (fun j hj _ => ⟨hM.rest j hj, at3_far (Or.inl (by omega))⟩)⟩
    · exact ⟨c, hM.rel⟩
  obtain ⟨c', hr⟩ := hr
  exact sg_with (hs.long _) hl hM.len hM.own.fit (sI_pm less) hF hb hr

set_option maxRecDepth 100000 in
set_option maxHeartbeats 1600000 in
theorem with_any (B : Nat) (v : Value) (xs : List Nat) (N : Int) (hi lo sh : Nat) (less : Bool) (w : World) (h : OwnW w B v xs) (hs : Sg xs N) (hhi : hi < 4398046511104) (hlo : lo < 18446744073709551616) (hsh : sh ≤ 100000) (hn : xs.length ≤ 50000) (hB : B ≤ w.heap.size) :
    Calls Tryz.prog 64 #[v, .int .u64 hi, .int .u64 lo, .int .i64 sh, .bool less] w fun e w' => ∃ v' zs, e = .returned v' ∧ OwnW w' B v' zs ∧ zs.length ≤ max xs.length (sh / 64 + 3) + 1 ∧ Sg zs (N + sI less * (((hi * 18446744073709551616 + lo) * 2 ^ sh : Nat) : Int)) ∧ Wrote w w' (At v) ∧ New w v v' := by
  obtain ⟨f, hf⟩ : ∃ f, sh / 64 = f := ⟨_, rfl⟩
  obtain ⟨o, ho⟩ : ∃ o, sh % 64 = o := ⟨_, rfl⟩
  have ho64 : o < 64 := by omega
  have hq : (sh : Int) / 64 = (f : Int) := by omega
  have hr : (sh : Int) % 64 = (o : Int) := by omega
  have hf2 : f ≤ 2000 := by omega
  obtain ⟨p0, hp0⟩ : ∃ p0, lo * 2 ^ o % 18446744073709551616 = p0 := ⟨_, rfl⟩
  obtain ⟨q1, hq1⟩ : ∃ q1, hi * 2 ^ o % 18446744073709551616 = q1 := ⟨_, rfl⟩
  obtain ⟨q2, hq2⟩ : ∃ q2, lo / 2 ^ (64 - o) = q2 := ⟨_, rfl⟩
  obtain ⟨p2, hp2⟩ : ∃ p2, hi / 2 ^ (64 - o) = p2 := ⟨_, rfl⟩
  have f0 : IntKind.u64.wrap ((lo : Int) * 2 ^ o) = (p0 : Int) := by rw [← hp0]; exact shl_word
  have f1 : IntKind.u64.wrap ((hi : Int) * 2 ^ o) = (q1 : Int) := by rw [← hq1]; exact shl_word
  have f2 : (lo : Int) / 2 ^ (64 - o) = (q2 : Int) := by rw [← hq2]; exact shr_word
  have f4 : (hi : Int) / 2 ^ (64 - o) = (p2 : Int) := by rw [← hp2]; exact shr_word
  have hor := piece1 (hi := hi) ho64 hlo
  rw [hq1, hq2] at hor
  have b0 : p0 < 18446744073709551616 := by rw [← hp0]; exact Nat.mod_lt _ (by decide)
  have bq1 : q1 < 18446744073709551616 := by rw [← hq1]; exact Nat.mod_lt _ (by decide)
  have bq2 : q2 < 18446744073709551616 := by rw [← hq2]; exact Nat.lt_of_le_of_lt (Nat.div_le_self _ _) hlo
  have b2 : p2 < 18446744073709551616 := by rw [← hp2]; have := Nat.div_le_self hi (2 ^ (64 - o)); omega
  have b1 : q1 + q2 < 18446744073709551616 := by rw [← hor]; exact Nat.or_lt_two_pow (n := 64) bq1 bq2
  have f3 : bits .or .u64 (q1 : Int) (q2 : Int) = ((q1 + q2 : Nat) : Int) := by rw [bits_or_u64_nat q1 q2 bq1 bq2, hor]
  obtain ⟨p1, hp1⟩ : ∃ p1, q1 + q2 = p1 := ⟨_, rfl⟩
  rw [hp1] at f3 b1
  have HSum : Hid (ps (at3 f p0 p1 p2) (max xs.length (f + 3)) = (hi * 18446744073709551616 + lo) * 2 ^ sh) := by
    show _ = _
    rw [ps_at3 _ _ _ _ _ (by omega), ← hp0, ← hp1, ← hq1, ← hq2, ← hp2, pieces_sum ho64, Nat.mul_assoc, ← Nat.pow_add]
    congr 2; omega
  have HBig : Hid (4 * (((hi * 18446744073709551616 + lo) * 2 ^ sh : Nat) : Int) ≤ 2 ^ (64 * (max xs.length (f + 3)))) := by
    show _ ≤ _
    have e1 : (hi * 18446744073709551616 + lo) < 2 ^ 106 := by omega
    have e2 : 4 * ((hi * 18446744073709551616 + lo) * 2 ^ sh) ≤ 2 ^ 108 * 2 ^ sh := by
      rw [← Nat.mul_assoc]
      exact Nat.mul_le_mul_right _ (by omega)
    have e3 : 2 ^ 108 * 2 ^ sh ≤ 2 ^ (64 * (max xs.length (f + 3))) := by
      rw [← Nat.pow_add]; exact Nat.pow_le_pow_right (by decide) (by omega)
    have e4 := natpow (max xs.length (f + 3))
    omega
  have HO := hideS h
  have HS := hideS hs
  have HLo : Hid (∀ w1 : World, OwnW w1 B v xs → B ≤ w1.heap.size → Calls Tryz.prog 84 #[v, .int .i64 ((f : Int) + 3)] w1 fun e w' => ∃ v', e = .returned v' ∧ OwnW w' B v' (longW xs (f + 3)) ∧ Wrote w1 w' (At v) ∧ New w1 v v') := fun w1 h1 h2 => by
    have := long_any B v xs (f + 3) w1 h1 (by omega) (by omega) h2
    rw [show ((f + 3 : Nat) : Int) = (f : Int) + 3 by omega] at this
    exact this
  have HLL := hideS (longW_len xs (f + 3))
  rw [hf]
  obtain ⟨n, hN⟩ : ∃ n, max xs.length (f + 3) = n := ⟨_, rfl⟩
  have hn1 : f + 3 ≤ n := by omega
  have hn2 : n ≤ 60000 := by omega
  rw [hN] at HSum HBig HLL ⊢
  generalize (hi * 18446744073709551616 + lo) * 2 ^ sh = F at HSum HBig ⊢
  clear h hs hor hp0 hq1 hq2 hp2 hf ho bq1 bq2 hhi hlo hp1 hN hn
  go_enter Tryz.func64, Tryz.ntmps64
  go_wp2_with fail
  go_region
  rw [hr]
  clear f0 f1 f2 f3 f4 hr hq
  obtain ⟨O, hO⟩ : ∃ O : Obj, O = .cells #[.int .u64 (p0 : Int), .int .u64 (p1 : Int), .int .u64 (p2 : Int)] 103 := ⟨_, rfl⟩
  have HA := hideS (HLo.out (w.alloc O).drew ((HO.out.alloc O).drewN 1) (by simp; omega))
  rw [hO] at HA
  clear hO
  go_wp2_with fail
  refine HA.out.mono ?_
  rintro e w1 ⟨v1, rfl, o1, r1, n1⟩
  have hnAt : ¬ At v w.heap.size := fun e => by have := (HO.out.lt _ e).2; omega
  have hblk : w1.heap[w.heap.size]? = some (.cells #[.int .u64 (p0 : Int), .int .u64 (p1 : Int), .int .u64 (p2 : Int)] 103 (0, 0)) := (r1.block w.heap.size (by simp) hnAt).trans (heap_alloc_new w _)
  have d0 : w1.cell? ⟨w.heap.size, 0, none⟩ = some (.int .u64 (p0 : Int)) := by simp [World.cell?, hblk]
  have d1 : w1.cell? ⟨w.heap.size, 1, none⟩ = some (.int .u64 (p1 : Int)) := by simp [World.cell?, hblk]
  have d2 : w1.cell? ⟨w.heap.size, 2, none⟩ = some (.int .u64 (p2 : Int)) := by simp [World.cell?, hblk]
  have hw1 : Wrote w w1 (At v) := ⟨r1.os, r1.tape, r1.output, Nat.le_trans (by simp) r1.size, fun k hk hn => (r1.block k (by simp; omega) hn).trans (heap_alloc_old w _ hk)⟩
  have hnw : New w v v1 := fun k hk => by
    rcases n1 k hk with h1 | h1
    · exact Or.inl h1
    · exact Or.inr (by simp at h1; omega)
  have O1 := hideS (And.intro o1 (And.intro hw1 hnw))
  clear hblk o1 r1 n1 hw1 hnw hnAt HA HLo
  obtain ⟨pp, g1, c1, hv1, hc1, hc2, hp1, _⟩ := O1.out.1.shape
  rw [HLL.out] at hv1 hc1 hp1
  obtain ⟨rfl, _, _⟩ := hp1 (by omega)
  subst hv1
  clear hp1
  have HM0 : Hid (Mid w1 w1 B (.slice (some ⟨g1, 0, none⟩) n c1) n less (at3 f p0 p1 p2) (fun i => (longW xs (f + 3)).getD i 0) (longW xs (f + 3)) 0 f) :=
    ⟨O1.out.1, HLL.out, (Rel.start _ _ _ _).rest (Nat.zero_le _) (fun j _ hj => ⟨rfl, at3_far (Or.inr hj)⟩), fun _ _ => rfl, Wrote.refl _ _⟩
  go_wp2_with fail
  go_loopw [14, 15, 16, 43] (fun b _ _ i wr => ∃ (k c : Nat) (ys : List Nat), k ≤ 3 ∧ c ≤ 1 ∧ b = .int .u64 c ∧ i = .int .i64 k ∧ Hid (Mid w1 wr B (.slice (some ⟨g1, 0, none⟩) n c1) n less (at3 f p0 p1 p2) (fun i => (longW xs (f + 3)).getD i 0) ys c (f + k))) (fun _ _ _ i _ => 3 - (intOf i).toNat)
  case atStart => exact ⟨0, 0, longW xs (f + 3), by omega, by omega, rfl, rfl, HM0⟩
  case round =>
    obtain ⟨k, cy, ys, hk, hcy, rfl, rfl, HR⟩ := hrel
    by_cases hlt : k < 3
    · have hi0 : ∀ w : World, (Instr.index 103 (.agg #[.int .u64 (p0 : Int), .int .u64 (p1 : Int), .int .u64 (p2 : Int)]) (.int .i64 0)).run Tryz.prog w = .ok (.int .u64 (p0 : Int)) w := fun _ => by kernel_rfl
      have hi1 : ∀ w : World, (Instr.index 103 (.agg #[.int .u64 (p0 : Int), .int .u64 (p1 : Int), .int .u64 (p2 : Int)]) (.int .i64 1)).run Tryz.prog w = .ok (.int .u64 (p1 : Int)) w := fun _ => by kernel_rfl
      have hi2 : ∀ w : World, (Instr.index 103 (.agg #[.int .u64 (p0 : Int), .int .u64 (p1 : Int), .int .u64 (p2 : Int)]) (.int .i64 2)).run Tryz.prog w = .ok (.int .u64 (p2 : Int)) w := fun _ => by kernel_rfl
      have hk3 : k = 0 ∨ k = 1 ∨ k = 2 := by omega
      rcases hk3 with rfl | rfl | rfl
      · have hcl := HR.out.own.cell1 HR.out.len f (by rw [HR.out.len]; omega)
        have hfz := HR.out.own.frozen1 HR.out.len f
        have hxf : ys.getD (f) 0 < 18446744073709551616 := HR.out.own.fit _
        have HX := hideS (HR.out.rest (f) (Nat.le_refl _))
        generalize ys.getD (f) 0 = x at hcl hxf HX
        have HSt := hideS (fun w => step_any x p0 cy less w hcy hxf b0)
        clear hxf
        go_wp2_with (go_at_call 85; refine (turned (HSt.out _)).mono ?_; rintro e w' ⟨⟨z, c', rfl, h1, h2, h3⟩, rfl⟩)
        have H3 := hideS (HR.out.step (k := f) (by omega) h1 (by rw [← HX.out, at3_0]; exact h3))
        clear h1 h3 HSt HX
        go_wp2_with fail
        go_roundw
        case rel => exact ⟨0 + 1, c', ys.set (f) z, by omega, h2, rfl, rfl, H3⟩
        case measure => simp [intOf]
      · have hcl := HR.out.own.cell1 HR.out.len (f + 1) (by rw [HR.out.len]; omega)
        have hfz := HR.out.own.frozen1 HR.out.len (f + 1)
        have hxf : ys.getD (f + 1) 0 < 18446744073709551616 := HR.out.own.fit _
        have HX := hideS (HR.out.rest (f + 1) (Nat.le_refl _))
        generalize ys.getD (f + 1) 0 = x at hcl hxf HX
        have HSt := hideS (fun w => step_any x p1 cy less w hcy hxf b1)
        clear hxf
        go_wp2_with (go_at_call 85; refine (turned (HSt.out _)).mono ?_; rintro e w' ⟨⟨z, c', rfl, h1, h2, h3⟩, rfl⟩)
        have H3 := hideS (HR.out.step (k := f + 1) (by omega) h1 (by rw [← HX.out, at3_1]; exact h3))
        clear h1 h3 HSt HX
        go_wp2_with fail
        go_roundw
        case rel => exact ⟨1 + 1, c', ys.set (f + 1) z, by omega, h2, rfl, rfl, H3⟩
        case measure => simp [intOf]
      · have hcl := HR.out.own.cell1 HR.out.len (f + 2) (by rw [HR.out.len]; omega)
        have hfz := HR.out.own.frozen1 HR.out.len (f + 2)
        have hxf : ys.getD (f + 2) 0 < 18446744073709551616 := HR.out.own.fit _
        have HX := hideS (HR.out.rest (f + 2) (Nat.le_refl _))
        generalize ys.getD (f + 2) 0 = x at hcl hxf HX
        have HSt := hideS (fun w => step_any x p2 cy less w hcy hxf b2)
        clear hxf
        go_wp2_with (go_at_call 85; refine (turned (HSt.out _)).mono ?_; rintro e w' ⟨⟨z, c', rfl, h1, h2, h3⟩, rfl⟩)
        have H3 := hideS (HR.out.step (k := f + 2) (by omega) h1 (by rw [← HX.out, at3_2]; exact h3))
        clear h1 h3 HSt HX
        go_wp2_with fail
        go_roundw
        case rel => exact ⟨2 + 1, c', ys.set (f + 2) z, by omega, h2, rfl, rfl, H3⟩
        case measure => simp [intOf]
    · have hk3 : f + k = f + 3 := by omega
      rw [hk3] at HR
      clear HM0 hk3
      have HT := hideS (fun (wr : World) (ys : List Nat) (c k : Nat) (hM : Mid w1 wr B (.slice (some ⟨g1, 0, none⟩) n c1) n less (at3 f p0 p1 p2) (fun i => (longW xs (f + 3)).getD i 0) ys c k) => settled_any B _ ys wr hM.own (by rw [hM.len]; omega) (Nat.le_trans hB (Nat.le_trans O1.out.2.1.size hM.wrote.size)))
      go_wp2_with fail
      go_loopw [14, 17] (fun b i wr => ∃ (k c : Nat) (ys : List Nat), f + 3 ≤ k ∧ k ≤ n ∧ c ≤ 1 ∧ b = .int .u64 c ∧ i = .int .i64 k ∧ Hid (Mid w1 wr B (.slice (some ⟨g1, 0, none⟩) n c1) n less (at3 f p0 p1 p2) (fun i => (longW xs (f + 3)).getD i 0) ys c k)) (fun _ i _ => n - (intOf i).toNat)
      case atStart => exact ⟨f + 3, cy, ys, Nat.le_refl _, hn1, hcy, rfl, by simp, HR⟩
      case round =>
        clear HR hcy
        clear hlt hk
        obtain ⟨k, cy, ys, hk0, hk, hcy, rfl, rfl, HR⟩ := hrel
        by_cases hgo : cy = 1 ∧ k < n
        · obtain ⟨rfl, hlt⟩ := hgo
          have hcl := HR.out.own.cell1 HR.out.len k (by rw [HR.out.len]; omega)
          have hfz := HR.out.own.frozen1 HR.out.len k
          have hxf : ys.getD k 0 < 18446744073709551616 := HR.out.own.fit _
          have HX := hideS (HR.out.rest k (Nat.le_refl _))
          generalize ys.getD k 0 = x at hcl hxf HX
          have HSt := hideS (fun w => step_any x 0 1 less w (Nat.le_refl _) hxf (by decide))
          clear hxf
          go_wp2_with (go_at_call 85; refine (turned (HSt.out _)).mono ?_; rintro e w' ⟨⟨z, c', rfl, h1, h2, h3⟩, rfl⟩)
          have H3 := hideS (HR.out.step (k := k) (by omega) h1 (by rw [← HX.out, at3_far (Or.inl hk0)]; exact h3))
          clear h1 h3 HSt HX
          go_wp2_with fail
          go_roundw
          case rel => exact ⟨k + 1, c', ys.set k z, by omega, by omega, h2, rfl, by simp, H3⟩
          case measure => simp [intOf]; omega
        · have HC : Hid (cy = 0 ∨ k = n) := by
            show _ ∨ _
            by_cases e : cy = 0
            · exact Or.inl e
            · exact Or.inr (by have : ¬ (k < n) := fun h => hgo ⟨by omega, h⟩; omega)
          have HE := hideS (with_end HS.out HLL.out HR.out HC.out hk0 hk HSum.out HBig.out)
          have HT2 := hideS (HT.out wr ys cy k HR.out)
          have hcy2 : cy = 0 ∨ (cy = 1 ∧ ¬ (k < n)) := by
            by_cases e : cy = 0
            · exact Or.inl e
            · exact Or.inr ⟨by omega, fun h => hgo ⟨by omega, h⟩⟩
          clear hgo HC HT
          rcases hcy2 with rfl | ⟨rfl, hge⟩
          all_goals
            go_wp2_with fail
            refine HT2.out.mono ?_
            rintro e w2 ⟨v2, rfl, ho2, hw2, hn2⟩
            have R2 := hideS (And.intro ho2 (And.intro hw2 hn2))
            clear ho2 hw2 hn2 HT2
            go_wp2_with fail
            go_ret
            refine ⟨v2, settle ys, rfl, R2.out.1, ?_, HE.out, ?_, ?_⟩
            · have := settle_len ys; have := HR.out.len; omega
            · exact (O1.out.2.1.own O1.out.2.2 HR.out.wrote).own O1.out.2.2 R2.out.2.1
            · exact O1.out.2.2.trans (w1 := wr) R2.out.2.2 (Nat.le_trans O1.out.2.1.size HR.out.wrote.size)
end Go.Proofs.YtdmldggjgaaliaaGreat.A
