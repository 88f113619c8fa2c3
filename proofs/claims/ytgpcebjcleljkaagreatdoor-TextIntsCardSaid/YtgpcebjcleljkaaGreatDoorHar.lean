/- text.Hex at 1.5; strconv.Atoi. text.Int at any text; the law's awake of stage 2. Whole numbers in texts, in plain words. -/
import Derived.Test.YtgpcebjcleljkaaGreatDoorHam
import Derived.Test.YtgpcebjcleljkaaGreatDoorTShelf
import Derived.Test.YtgpcebjcleljkaaGreatDoorHan
import Derived.Test.YtgpcebjcleljkaaGreatDoorHah
namespace Go.Proofs.YtgpcebjcleljkaaGreatDoor
open Go.RowKit

theorem atoi_ok (s : ByteArray) (hmax : s.size ≤ 9223372036854775806) (v : Int) (h : Lib.atoiAll s.data.toList = .ok v) (w : World) :
    Calls Tryz.prog 8 #[.string s] w fun e w' => e = .returned (.tuple #[.int .i64 v, .nilIface]) ∧ (w' = w ∨ ∃ t, w' = Lib.bytesWorld w 5 t) := Any.strconv_Atoi_ok Tryz.laysC172 s hmax v h w
theorem trim_one (s : ByteArray) (w : World) (hs : s.size ≤ 9223372036854775807) :
    Calls Tryz.prog 41 #[.string s, .string ⟨#[48]⟩] w fun e w' => e = .returned (.string ⟨(Lib.trimRightB s.data.toList 48).toArray⟩) ∧ w' = w := Any.strings_TrimRight_one Tryz.lays162 s 48 (by decide) w hs
set_option maxRecDepth 20000 in
set_option maxHeartbeats 6400000 in
theorem fu16 (u K : Nat) (hu : u < 18446744073709551616) (hK : K ≤ 15) (hK0 : u / 16 ^ K < 16) (hK1 : ∀ k, k < K → 16 ≤ u / 16 ^ k) (w : World) (h : w.cell? ⟨16, 15, none⟩ = some (.int .u8 4)) : Calls Tryz.prog 42 #[.int .u64 (u : Int), .int .i64 16] w fun e w' => e = .returned (.string ⟨((hxL K u).map UInt8.ofNat).toArray⟩) ∧ Below w.heap.size w w' := by
  have HF := hidT (fbits16 u K hu hK hK0 hK1 w h)
  generalize ((hxL K u).map UInt8.ofNat).toArray = R at HF ⊢
  clear hu hK hK0 hK1 h
  go_enter Tryz.func42, Tryz.ntmps42
  go_wp2_with (first | (go_at_call 82; refine HF.out.mono ?_; rintro e w1 ⟨rfl, hb⟩; have HB := hidT hb; clear hb) | go_in)
  go_ret
  exact ⟨rfl, HB.out⟩
theorem hx_15 : ((hxL 13 6755399441055744).map UInt8.ofNat).toArray = #[49, 56, 48, 48, 48, 48, 48, 48, 48, 48, 48, 48, 48, 48] := by kernel_rfl
set_option maxRecDepth 20000 in
set_option maxHeartbeats 6400000 in
theorem tail_15 (w : World) (h : w.cell? ⟨16, 15, none⟩ = some (.int .u8 4)) : Calls Tryz.prog 27 #[.int .u64 6755399441055744, .int .i64 (-52)] w fun e w' => e = .returned (.string ⟨#[46, 56, 112, 43, 48]⟩) ∧ Below w.heap.size w w' := by
  have HF : Hid (Calls Tryz.prog 42 #[.int .u64 6755399441055744, .int .i64 16] w fun e w' => e = .returned (.string ⟨#[49, 56, 48, 48, 48, 48, 48, 48, 48, 48, 48, 48, 48, 48]⟩) ∧ Below w.heap.size w w') := by
    have := fu16 6755399441055744 13 (by decide) (by decide) (by decide) (fun k hk => by
      rcases (show k = 0 ∨ k = 1 ∨ k = 2 ∨ k = 3 ∨ k = 4 ∨ k = 5 ∨ k = 6 ∨ k = 7 ∨ k = 8 ∨ k = 9 ∨ k = 10 ∨ k = 11 ∨ k = 12 by omega) with rfl | rfl | rfl | rfl | rfl | rfl | rfl | rfl | rfl | rfl | rfl | rfl | rfl <;> decide) w h
    rw [hx_15] at this
    exact this
  clear h
  go_enter Tryz.func27, Tryz.ntmps27
  go_wp2_with fail
  refine wp_loop_rounds 2 ?_
  rw [rounds_succ]
  go_wp2_with fail
  refine HF.out.mono ?_
  rintro e w1 ⟨rfl, hb⟩
  have HB := hidT hb
  clear hb
  go_wp2_with fail
  have ht : (⟨(Lib.trimRightB (({ data := #[49, 56, 48, 48, 48, 48, 48, 48, 48, 48, 48, 48, 48, 48] } : ByteArray).extract 1 14).data.toList 48).toArray⟩ : ByteArray) = ⟨#[56]⟩ := by kernel_rfl
  have HTr := hidT (trim_one (({ data := #[49, 56, 48, 48, 48, 48, 48, 48, 48, 48, 48, 48, 48, 48] } : ByteArray).extract 1 14) w1 (by decide))
  rw [ht] at HTr
  refine HTr.out.mono ?_
  rintro e w2 ⟨rfl, rfl⟩
  clear ht
  go_wp2_with go_in
  go_ret
  exact ⟨by kernel_rfl, HB.out⟩
set_option maxRecDepth 20000 in
set_option maxHeartbeats 6400000 in
theorem hex_15 (w : World) (h : w.cell? ⟨16, 15, none⟩ = some (.int .u8 4)) : Calls Tryz.prog 13 #[.float .f64 4609434218613702656] w fun e w' => e = .returned (.tuple #[.string ⟨#[48, 120, 49, 46, 56, 112, 43, 48]⟩, .int .i64 0]) ∧ Below w.heap.size w w' := by
  have HF := hidT (tail_15 w h)
  have hS : Hid (∀ w, Calls Tryz.prog 25 #[.float .f64 4609434218613702656] w fun r w' => r = .returned (.tuple #[.int .i64 6755399441055744, .int .i64 (-52), .bool true]) ∧ w' = w) := fun w => by
    have := split_as 4609434218613702656 4609434218613702656 w rfl (by unfold U64; omega)
    rw [show splM 4609434218613702656 = 6755399441055744 by decide +kernel, show splE 4609434218613702656 = -52 by decide +kernel, show splOk 4609434218613702656 = true by decide +kernel] at this
    exact this
  have hN : Hid (∀ w, Calls Tryz.prog 26 #[.float .f64 4609434218613702656] w fun r w' => r = .returned (.bool false) ∧ w' = w) := fun w => by
    have := negative_any 4609434218613702656 w (by unfold U64; omega)
    exact this.mono fun e w' ⟨he, hw⟩ => ⟨he.trans (by kernel_rfl), hw⟩
  have m1 : max (6755399441055744 : Int) (-6755399441055744) = 6755399441055744 := by decide
  clear h
  go_enter Tryz.func13, Tryz.ntmps13
  go_wp2_with (first | (go_at_call 27; refine HF.out.mono ?_; rintro e w1 ⟨rfl, hb⟩; have HB := hidT hb; clear hb) | (go_at_call 25; refine (hS.out _).mono ?_; rintro e w2 ⟨rfl, rfl⟩) | (go_at_call 26; refine (hN.out _).mono ?_; rintro e w2 ⟨rfl, rfl⟩))
  go_ret2
  exact ⟨by kernel_rfl, HB.out⟩
end Go.Proofs.YtgpcebjcleljkaaGreatDoor
namespace Go.Proofs.YtgpcebjcleljkaaGreatDoor
open Go.RowKit

theorem bw_below (w : World) (t : ByteArray) : Below w.heap.size w (Lib.bytesWorld w 5 t) := ⟨rfl, rfl, rfl, by rw [Lib.bytesWorld_size]; omega, fun j hj => Lib.bytesWorld_at_old w _ t j hj⟩
theorem atoi_okB (s : ByteArray) (hmax : s.size ≤ 9223372036854775806) (v : Int) (h : Lib.atoiAll s.data.toList = .ok v) (w : World) :
    Calls Tryz.prog 8 #[.string s] w fun e w' => e = .returned (.tuple #[.int .i64 v, .nilIface]) ∧ Below w.heap.size w w' := (atoi_ok s hmax v h w).mono fun e w' ⟨he, hw⟩ => ⟨he, by
  rcases hw with rfl | ⟨t, rfl⟩
  · exact Below.refl _ _
  · exact bw_below w t⟩
set_option maxRecDepth 20000 in
set_option maxHeartbeats 3200000 in
theorem int_ok (s : ByteArray) (hs : s.size ≤ 9223372036854775806) (hW : WhP s) (v : Int) (h : Lib.atoiAll s.data.toList = .ok v) (w : World) :
    Calls Tryz.prog 4 #[.string s] w fun e w' => e = .returned (.tuple #[.int .i64 v, .bool true]) ∧ Below w.heap.size w w' := by
  have HW : Hid (∀ w, Calls Tryz.prog 7 #[.string s] w fun e w' => e = .returned (.bool true) ∧ w' = w) := fun w => (whole_any s w hs).mono fun e w' ⟨B, he, hB, hw⟩ => ⟨by rw [he, hB.2 hW], hw⟩
  have HA := hidT (atoi_okB s hs v h w)
  clear hs hW h
  go_enter Tryz.func4, Tryz.ntmps4
  go_wp2_with (first | (go_at_call 7; refine (HW.out _).mono ?_; rintro e w1 ⟨rfl, rfl⟩) | (go_at_call 8; refine HA.out.mono ?_; rintro e w2 ⟨rfl, hb⟩; have HB := hidT hb; clear hb))
  go_ret2
  exact ⟨rfl, HB.out⟩
def ErV (g : Nat) (w : World) : Prop := ∃ ev, w.cell? ⟨g, 0, none⟩ = some ev ∧ (ev = .nilIface ∨ ∃ te pe, ev = .iface te pe)
theorem ErV.below {g : Nat} {w w' : World} (h : ErV g w) (hb : Below w.heap.size w w') : ErV g w' := by
  obtain ⟨ev, h1, h2⟩ := h
  exact ⟨ev, (World.cell?_of_block (w := w) (a := ⟨g, 0, none⟩) (hb.block g (World.block_lt_of_cell? _ _ h1))).trans h1, h2⟩
theorem atoi_bad (s : ByteArray) (hlim : s.size ≤ 281474976710656) (h : ∀ v, Lib.atoiAll s.data.toList ≠ .ok v) (w : World) (hs : ErV 0 w) (hr : ErV 1 w) :
    Calls Tryz.prog 8 #[.string s] w fun e w' => ∃ n T N, e = .returned (.tuple #[.int .i64 n, .iface T (.pointer (some ⟨N, 0, none⟩))]) ∧ Below w.heap.size w w' := by
  cases ha : Lib.atoiAll s.data.toList with
  | ok v => exact absurd ha (h v)
  | «syntax» =>
    obtain ⟨ev, h1, h2⟩ := hs
    exact (Any.strconv_Atoi_syntax Tryz.laysC172 s hlim ha ev w h1 h2).mono fun e w' ⟨N, he, _, _, hb⟩ => ⟨_, _, N, he, hb⟩
  | range =>
    obtain ⟨ev, h1, h2⟩ := hr
    exact (Any.strconv_Atoi_range Tryz.laysC172 s hlim ha ev w h1 h2).mono fun e w' ⟨N, he, _, _, hb⟩ => ⟨_, _, N, he, hb⟩
set_option maxRecDepth 20000 in
set_option maxHeartbeats 3200000 in
theorem int_bad (s : ByteArray) (hlim : s.size ≤ 281474976710656) (hW : WhP s) (h : ∀ v, Lib.atoiAll s.data.toList ≠ .ok v) (w : World) (hs : ErV 0 w) (hr : ErV 1 w) :
    Calls Tryz.prog 4 #[.string s] w fun e w' => e = .returned (.tuple #[.int .i64 0, .bool false]) ∧ Below w.heap.size w w' := by
  have HW : Hid (∀ w, Calls Tryz.prog 7 #[.string s] w fun e w' => e = .returned (.bool true) ∧ w' = w) := fun w => (whole_any s w (by omega)).mono fun e w' ⟨B, he, hB, hw⟩ => ⟨by rw [he, hB.2 hW], hw⟩
  have HA := hidT (atoi_bad s hlim h w hs hr)
  clear hlim hW h hs hr
  go_enter Tryz.func4, Tryz.ntmps4
  go_wp2_with (first | (go_at_call 7; refine (HW.out _).mono ?_; rintro e w1 ⟨rfl, rfl⟩) | (go_at_call 8; refine HA.out.mono ?_; rintro e w2 ⟨n, T, N, rfl, hb⟩; have HB := hidT hb; clear hb))
  go_ret2
  exact ⟨rfl, HB.out⟩
structure AwT (w : World) : Prop where
  pf : ∃ b o c, PfT 4 2 9 b o c w
  pr : PrT w
  db : w.cell? ⟨16, 15, none⟩ = some (.int .u8 4)
theorem AwT.below {w w' : World} (h : AwT w) (hb : Below w.heap.size w w') : AwT w' := by
  have k : ∀ (a : Addr) v, w.cell? a = some v → w'.cell? a = some v := fun a v e => (World.cell?_of_block (w := w) (a := a) (hb.block a.block (World.block_lt_of_cell? _ _ e))).trans e
  obtain ⟨b, o, c, p⟩ := h.pf
  exact ⟨⟨b, o, c, k _ _ p.mb, k _ _ p.op, k _ _ p.pw, k _ _ p.p1⟩, h.pr.below hb, k _ _ h.db⟩
set_option maxRecDepth 20000 in
set_option maxHeartbeats 6400000 in
theorem awake2 (w : World) (h : AwT w) : Calls Tryz.prog 6 #[] w fun e w' => e = .returned (.bool true) ∧ Below w.heap.size w w' := by
  obtain ⟨b, o, c, p⟩ := h.pf
  have H1 := hidT (tp_01 b o c w p)
  have H2 := hidT (print_38 w h.pr)
  have H3 : Hid (∀ w1, Below w.heap.size w w1 → Calls Tryz.prog 13 #[.float .f64 4609434218613702656] w1 fun e w' => e = .returned (.tuple #[.string ⟨#[48, 120, 49, 46, 56, 112, 43, 48]⟩, .int .i64 0]) ∧ Below w.heap.size w w') := fun w1 hb => (hex_15 w1 (h.below hb).db).mono fun e w' ⟨he, hb'⟩ => ⟨he, hb.trans (hb'.mono hb.size)⟩
  have H4 : Hid (∀ w1, Below w.heap.size w w1 → Calls Tryz.prog 4 #[.string ⟨#[45, 55]⟩] w1 fun e w' => e = .returned (.tuple #[.int .i64 (-7), .bool true]) ∧ Below w.heap.size w w') := fun w1 hb => (int_ok ⟨#[45, 55]⟩ (by decide) (.inr ⟨1, by decide, fun _ => by decide, by decide, by decide, fun j h1 h2 => absurd (show j < 2 from h2) (by omega)⟩) (-7) (by decide) w1).mono fun e w' ⟨he, hb'⟩ => ⟨he, hb.trans (hb'.mono hb.size)⟩
  clear h p
  go_enter Tryz.func6, Tryz.ntmps6
  go_wp2_with fail
  refine H1.out.mono ?_
  rintro e w1 ⟨rfl, rfl⟩
  go_wp2_with fail
  refine H2.out.mono ?_
  rintro e w2 ⟨rfl, hb⟩
  have HB2 := hidT hb
  clear hb
  go_wp2_with fail
  refine (H3.out _ HB2.out).mono ?_
  rintro e w3 ⟨rfl, hb⟩
  have HB3 := hidT hb
  clear hb
  go_wp2_with fail
  refine (H4.out _ HB3.out).mono ?_
  rintro e w4 ⟨rfl, hb⟩
  have HB4 := hidT hb
  clear hb
  go_wp2_with fail
  go_ret
  exact ⟨by rfl, HB4.out⟩
end Go.Proofs.YtgpcebjcleljkaaGreatDoor
namespace Go.Proofs.YtgpcebjcleljkaaGreatDoor
open Go.RowKit

def valL (acc : Nat) : List UInt8 → Nat
  | [] => acc
  | c :: r => valL (acc * 10 + (c.toNat - 48)) r
theorem valL_snoc : ∀ (l : List UInt8) (acc : Nat) (c : UInt8), valL acc (l ++ [c]) = valL acc l * 10 + (c.toNat - 48)
  | [], _, _ => rfl
  | _ :: l, _, c => valL_snoc l _ c
theorem valL_ge : ∀ (l : List UInt8) (acc : Nat), acc ≤ valL acc l
  | [], _ => Nat.le_refl _
  | x :: l, acc => Nat.le_trans (by omega) (valL_ge l _)
def digL (c : UInt8) : Prop := 48 ≤ c.toNat ∧ c.toNat ≤ 57
theorem valL_lt : ∀ (l : List UInt8) (acc k : Nat), (∀ c ∈ l, digL c) → acc < 10 ^ k → valL acc l < 10 ^ (k + l.length)
  | [], _, _, _, h => h
  | x :: l, acc, k, hd, h => by
    have hx := hd x (by simp)
    unfold digL at hx
    have := valL_lt l (acc * 10 + (x.toNat - 48)) (k + 1) (fun c hc => hd c (by simp [hc])) (by rw [Nat.pow_succ]; omega)
    rw [List.length_cons, show k + (l.length + 1) = k + 1 + l.length by omega]
    exact this
theorem valL_big : ∀ (l : List UInt8) (acc : Nat), acc * 10 ^ l.length ≤ valL acc l
  | [], acc => by
    show acc * 10 ^ 0 ≤ acc
    rw [Nat.pow_zero, Nat.mul_one]
    exact Nat.le_refl _
  | x :: l, acc => by
    have := valL_big l (acc * 10 + (x.toNat - 48))
    rw [List.length_cons, Nat.pow_succ]
    refine Nat.le_trans ?_ this
    rw [Nat.mul_comm (10 ^ l.length) 10, ← Nat.mul_assoc]
    exact Nat.mul_le_mul_right _ (by omega)
theorem parse_val : ∀ (l : List UInt8) (acc : Nat), (∀ c ∈ l, digL c) → acc < 18446744073709551616 → Lib.parseUint10 acc l = if valL acc l < 18446744073709551616 then .ok (valL acc l) else .range
  | [], acc, _, h => by
    have ev : valL acc [] = acc := rfl
    have ep : Lib.parseUint10 acc [] = .ok acc := rfl
    rw [ev, ep, if_pos h]
  | x :: l, acc, hd, h => by
    have hx := hd x (by simp)
    unfold digL at hx
    have hge := valL_ge l (acc * 10 + (x.toNat - 48))
    have ev : valL acc (x :: l) = valL (acc * 10 + (x.toNat - 48)) l := rfl
    rw [Lib.parseUint10, if_pos hx, ev]
    by_cases h1 : 1844674407370955162 ≤ acc
    · rw [if_pos h1, if_neg (by omega)]
    · rw [if_neg h1]
      by_cases h2 : 18446744073709551616 ≤ acc * 10 + (x.toNat - 48)
      · rw [if_pos h2, if_neg (by omega)]
      · rw [if_neg h2]
        exact parse_val l _ (fun c hc => hd c (by simp [hc])) (by omega)
theorem byN_eq (s : ByteArray) (i : Nat) : byN s i = (s.data.toList.getD i 0).toNat := by
  unfold byN
  split
  · rename_i h
    have h' : i < s.data.toList.length := by simpa using h
    rw [List.getD_eq_getElem?_getD, List.getElem?_eq_getElem h']
    rfl
  · rename_i h
    have h' : ¬ i < s.data.toList.length := by simpa using h
    rw [List.getD_eq_getElem?_getD, List.getElem?_eq_none (by omega)]
    rfl
structure IntD (s : ByteArray) (n : Int) (ok : Bool) : Prop where
  no : ¬ WhP s → n = 0 ∧ ok = false
  yes : WhP s → ∀ v, Lib.atoiAll s.data.toList = .ok v → n = v ∧ ok = true
  far : WhP s → (∀ v, Lib.atoiAll s.data.toList ≠ .ok v) → n = 0 ∧ ok = false
def offN (s : ByteArray) : Nat := if byN s 0 = 45 then 1 else 0
theorem WhP.digits {s : ByteArray} (h : WhP s) : offN s < s.size ∧ (∀ j, offN s ≤ j → j < s.size → 48 ≤ byN s j ∧ byN s j ≤ 57) ∧ (byN s (offN s) = 48 → s.size = 1) := by
  rcases h with ⟨h1, h0⟩ | ⟨o, ho, hm, hl, hh, hd⟩
  · have e : offN s = 0 := by unfold offN; rw [if_neg (by omega)]
    rw [e]
    refine ⟨by omega, fun j _ hj => ?_, fun _ => h1⟩
    obtain rfl : j = 0 := by omega
    omega
  · have e : offN s = o := by
      unfold offN
      rcases (show o = 0 ∨ o = 1 by omega) with rfl | rfl
      · rw [if_neg (by omega)]
      · rw [if_pos (hm rfl)]
    rw [e]
    refine ⟨byN_in (by omega), fun j h1 h2 => ?_, fun h => by omega⟩
    by_cases e2 : j = o
    · rw [e2]; omega
    · have := hd j (by omega) h2
      unfold dgB at this
      simpa using this
theorem whP_of {s : ByteArray} (h0 : offN s < s.size) (hd : ∀ j, offN s ≤ j → j < s.size → 48 ≤ byN s j ∧ byN s j ≤ 57) (h48 : byN s (offN s) = 48 → s.size = 1) : WhP s := by
  have hh := hd (offN s) (Nat.le_refl _) h0
  by_cases e : byN s (offN s) = 48
  · have hs := h48 e
    have e0 : offN s = 0 := by omega
    rw [e0] at e
    exact .inl ⟨hs, e⟩
  · refine .inr ⟨offN s, by unfold offN; split <;> omega, fun h1 => ?_, by omega, by omega, fun j h1 h2 => ?_⟩
    · unfold offN at h1
      split at h1
      · assumption
      · omega
    · have := hd j (by omega) h2
      unfold dgB
      simpa using this
theorem atoi_val {s : ByteArray} (h0 : offN s < s.size) (hd : ∀ j, offN s ≤ j → j < s.size → 48 ≤ byN s j ∧ byN s j ≤ 57) :
    Lib.atoiAll s.data.toList = (if valL 0 (s.data.toList.drop (offN s)) < 18446744073709551616 then (if offN s = 0 ∧ 9223372036854775808 ≤ valL 0 (s.data.toList.drop (offN s)) then .range else if offN s = 1 ∧ 9223372036854775808 < valL 0 (s.data.toList.drop (offN s)) then .range else .ok (if offN s = 1 then -(valL 0 (s.data.toList.drop (offN s)) : Int) else valL 0 (s.data.toList.drop (offN s)))) else .range) := by
  have hdg : ∀ c ∈ s.data.toList.drop (offN s), digL c := fun c hc => by
    obtain ⟨i, hi, rfl⟩ := List.mem_iff_getElem.1 hc
    have hl : offN s + i < s.size := by have := hi; rw [List.length_drop] at this; simp at this; omega
    have := hd (offN s + i) (by omega) hl
    rw [byN_eq, List.getD_eq_getElem?_getD] at this
    rw [List.getElem_drop]
    rw [List.getElem?_eq_getElem (by simpa using hl)] at this
    exact this
  have hne : s.data.toList.drop (offN s) ≠ [] := fun h => by
    have := congrArg List.length h
    rw [List.length_drop] at this
    simp at this
    omega
  have hpm : Lib.parseMag (s.data.toList.drop (offN s)) = if valL 0 (s.data.toList.drop (offN s)) < 18446744073709551616 then .ok (valL 0 (s.data.toList.drop (offN s))) else .range := by
    unfold Lib.parseMag
    rw [if_neg hne, parse_val _ 0 hdg (by omega)]
  have hb0 := byN_eq s 0
  have hd0 : offN s = 0 → 48 ≤ byN s 0 := fun e => (hd 0 (by omega) (by omega)).1
  have ho : offN s = if byN s 0 = 45 then 1 else 0 := rfl
  generalize s.data.toList = L at *
  cases L with
  | nil => simp at hne
  | cons c r =>
    simp only [List.getD_cons_zero] at hb0
    unfold Lib.atoiAll
    by_cases e : c.toNat = 45
    · have e1 : offN s = 1 := by rw [ho, if_pos (by omega)]
      rw [e1] at hpm ⊢
      simp only [e, or_true, if_true, List.drop_succ_cons, List.drop_zero] at hpm ⊢
      by_cases hv : valL 0 r < 18446744073709551616
      · rw [if_pos hv] at hpm
        rw [hpm, if_pos hv]
        simp
      · rw [if_neg hv] at hpm
        rw [hpm, if_neg hv]
    · have e0 : offN s = 0 := by rw [ho, if_neg (by omega)]
      have := hd0 e0
      have e43 : ¬ c.toNat = 43 := by omega
      rw [e0] at hpm ⊢
      simp only [e, e43, or_self, if_false, List.drop_zero] at hpm ⊢
      by_cases hv : valL 0 (c :: r) < 18446744073709551616
      · rw [if_pos hv] at hpm
        rw [hpm, if_pos hv]
        simp
      · rw [if_neg hv] at hpm
        rw [hpm, if_neg hv]
end Go.Proofs.YtgpcebjcleljkaaGreatDoor
