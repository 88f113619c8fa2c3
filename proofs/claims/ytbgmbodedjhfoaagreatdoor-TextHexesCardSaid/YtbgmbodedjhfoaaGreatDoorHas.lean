/- text.Hex at 1.5; strconv.Atoi. text.Int at any text; the law's awake of stage 2. Whole numbers in texts, in plain words. -/
import Derived.Test.YtbgmbodedjhfoaaGreatDoorHam
import Derived.Test.YtbgmbodedjhfoaaGreatDoorTShelf
import Derived.Test.YtbgmbodedjhfoaaGreatDoorHan
import Derived.Test.YtbgmbodedjhfoaaGreatDoorHag
namespace Go.Proofs.YtbgmbodedjhfoaaGreatDoor
open Go.RowKit

theorem atoi_ok (s : ByteArray) (hmax : s.size ≤ 9223372036854775806) (v : Int) (h : Lib.atoiAll s.data.toList = .ok v) (w : World) :
    Calls Tryz.prog 54 #[.string s] w fun e w' => e = .returned (.tuple #[.int .i64 v, .nilIface]) ∧ (w' = w ∨ ∃ t, w' = Lib.bytesWorld w 5 t) := Any.strconv_Atoi_ok Tryz.laysC172 s hmax v h w
theorem trim_one (s : ByteArray) (w : World) (hs : s.size ≤ 9223372036854775807) :
    Calls Tryz.prog 34 #[.string s, .string ⟨#[48]⟩] w fun e w' => e = .returned (.string ⟨(Lib.trimRightB s.data.toList 48).toArray⟩) ∧ w' = w := Any.strings_TrimRight_one Tryz.lays162 s 48 (by decide) w hs
set_option maxRecDepth 20000 in
set_option maxHeartbeats 6400000 in
theorem fu16 (u K : Nat) (hu : u < 18446744073709551616) (hK : K ≤ 15) (hK0 : u / 16 ^ K < 16) (hK1 : ∀ k, k < K → 16 ≤ u / 16 ^ k) (w : World) (h : w.cell? ⟨11, 15, none⟩ = some (.int .u8 4)) : Calls Tryz.prog 35 #[.int .u64 (u : Int), .int .i64 16] w fun e w' => e = .returned (.string ⟨((hxL K u).map UInt8.ofNat).toArray⟩) ∧ Below w.heap.size w w' := by
  have HF := hidT (fbits16 u K hu hK hK0 hK1 w h)
  generalize ((hxL K u).map UInt8.ofNat).toArray = R at HF ⊢
  clear hu hK hK0 hK1 h
  go_enter Tryz.func35, Tryz.ntmps35
  go_wp2_with (first | (go_at_call 79; refine HF.out.mono ?_; rintro e w1 ⟨rfl, hb⟩; have HB := hidT hb; clear hb) | go_in)
  go_ret
  exact ⟨rfl, HB.out⟩
theorem hx_15 : ((hxL 13 6755399441055744).map UInt8.ofNat).toArray = #[49, 56, 48, 48, 48, 48, 48, 48, 48, 48, 48, 48, 48, 48] := by kernel_rfl
set_option maxRecDepth 20000 in
set_option maxHeartbeats 6400000 in
theorem tail_15 (w : World) (h : w.cell? ⟨11, 15, none⟩ = some (.int .u8 4)) : Calls Tryz.prog 14 #[.int .u64 6755399441055744, .int .i64 (-52)] w fun e w' => e = .returned (.string ⟨#[46, 56, 112, 43, 48]⟩) ∧ Below w.heap.size w w' := by
  have HF : Hid (Calls Tryz.prog 35 #[.int .u64 6755399441055744, .int .i64 16] w fun e w' => e = .returned (.string ⟨#[49, 56, 48, 48, 48, 48, 48, 48, 48, 48, 48, 48, 48, 48]⟩) ∧ Below w.heap.size w w') := by
    have := fu16 6755399441055744 13 (by decide) (by decide) (by decide) (fun k hk => by
      rcases (show k = 0 ∨ k = 1 ∨ k = 2 ∨ k = 3 ∨ k = 4 ∨ k = 5 ∨ k = 6 ∨ k = 7 ∨ k = 8 ∨ k = 9 ∨ k = 10 ∨ k = 11 ∨ k = 12 by omega) with rfl | rfl | rfl | rfl | rfl | rfl | rfl | rfl | rfl | rfl | rfl | rfl | rfl <;> decide) w h
    rw [hx_15] at this
    exact this
  clear h
  go_enter Tryz.func14, Tryz.ntmps14
  go_wp2_with fail
  refine wp_loop_rounds 2 ?_
  rw [rounds_succ]
  go_wp2_with fail
  refine HF.out.mono ?_
  rintro e w1 ⟨rfl, hb⟩
  have HB := hidT hb
  clear hb
  go_wp2_with fail
  have ht : (⟨(Lib.trimRightB (({ data := #[49, 56, 48, 48, 48, 48, 48, 48, 48, 48, 48, 48, 48, 48] } : ByteArray).extract 1 14).data.toList 48).toArray⟩ : ByteArray) = ⟨#[56]⟩ := by kernel_rfl
  have HTr := hidT (trim_one (({ data := #[49, 56, 48, 48, 48, 48, 48, 48, 48, 48, 48, 48, 48, 48] } : ByteArray).extract 1 14) w1 (by decide))
  rw [ht] at HTr
  refine HTr.out.mono ?_
  rintro e w2 ⟨rfl, rfl⟩
  clear ht
  go_wp2_with go_in
  go_ret
  exact ⟨by kernel_rfl, HB.out⟩
set_option maxRecDepth 20000 in
set_option maxHeartbeats 6400000 in
theorem hex_15 (w : World) (h : w.cell? ⟨11, 15, none⟩ = some (.int .u8 4)) : Calls Tryz.prog 5 #[.float .f64 4609434218613702656] w fun e w' => e = .returned (.tuple #[.string ⟨#[48, 120, 49, 46, 56, 112, 43, 48]⟩, .int .i64 0]) ∧ Below w.heap.size w w' := by
  have HF := hidT (tail_15 w h)
  have hS : Hid (∀ w, Calls Tryz.prog 12 #[.float .f64 4609434218613702656] w fun r w' => r = .returned (.tuple #[.int .i64 6755399441055744, .int .i64 (-52), .bool true]) ∧ w' = w) := fun w => by
    have := split_as 4609434218613702656 4609434218613702656 w rfl (by unfold U64; omega)
    rw [show splM 4609434218613702656 = 6755399441055744 by decide +kernel, show splE 4609434218613702656 = -52 by decide +kernel, show splOk 4609434218613702656 = true by decide +kernel] at this
    exact this
  have hN : Hid (∀ w, Calls Tryz.prog 13 #[.float .f64 4609434218613702656] w fun r w' => r = .returned (.bool false) ∧ w' = w) := fun w => by
    have := negative_any 4609434218613702656 w (by unfold U64; omega)
    exact this.mono fun e w' ⟨he, hw⟩ => ⟨he.trans (by kernel_rfl), hw⟩
  have m1 : max (6755399441055744 : Int) (-6755399441055744) = 6755399441055744 := by decide
  clear h
  go_enter Tryz.func5, Tryz.ntmps5
  go_wp2_with (first | (go_at_call 14; refine HF.out.mono ?_; rintro e w1 ⟨rfl, hb⟩; have HB := hidT hb; clear hb) | (go_at_call 12; refine (hS.out _).mono ?_; rintro e w2 ⟨rfl, rfl⟩) | (go_at_call 13; refine (hN.out _).mono ?_; rintro e w2 ⟨rfl, rfl⟩))
  go_ret2
  exact ⟨by kernel_rfl, HB.out⟩
end Go.Proofs.YtbgmbodedjhfoaaGreatDoor
namespace Go.Proofs.YtbgmbodedjhfoaaGreatDoor
open Go.RowKit

theorem bw_below (w : World) (t : ByteArray) : Below w.heap.size w (Lib.bytesWorld w 5 t) := ⟨rfl, rfl, rfl, by rw [Lib.bytesWorld_size]; omega, fun j hj => Lib.bytesWorld_at_old w _ t j hj⟩
theorem atoi_okB (s : ByteArray) (hmax : s.size ≤ 9223372036854775806) (v : Int) (h : Lib.atoiAll s.data.toList = .ok v) (w : World) :
    Calls Tryz.prog 54 #[.string s] w fun e w' => e = .returned (.tuple #[.int .i64 v, .nilIface]) ∧ Below w.heap.size w w' := (atoi_ok s hmax v h w).mono fun e w' ⟨he, hw⟩ => ⟨he, by
  rcases hw with rfl | ⟨t, rfl⟩
  · exact Below.refl _ _
  · exact bw_below w t⟩
set_option maxRecDepth 20000 in
set_option maxHeartbeats 3200000 in
theorem int_ok (s : ByteArray) (hs : s.size ≤ 9223372036854775806) (hW : WhP s) (v : Int) (h : Lib.atoiAll s.data.toList = .ok v) (w : World) :
    Calls Tryz.prog 30 #[.string s] w fun e w' => e = .returned (.tuple #[.int .i64 v, .bool true]) ∧ Below w.heap.size w w' := by
  have HW : Hid (∀ w, Calls Tryz.prog 53 #[.string s] w fun e w' => e = .returned (.bool true) ∧ w' = w) := fun w => (whole_any s w hs).mono fun e w' ⟨B, he, hB, hw⟩ => ⟨by rw [he, hB.2 hW], hw⟩
  have HA := hidT (atoi_okB s hs v h w)
  clear hs hW h
  go_enter Tryz.func30, Tryz.ntmps30
  go_wp2_with (first | (go_at_call 53; refine (HW.out _).mono ?_; rintro e w1 ⟨rfl, rfl⟩) | (go_at_call 54; refine HA.out.mono ?_; rintro e w2 ⟨rfl, hb⟩; have HB := hidT hb; clear hb))
  go_ret2
  exact ⟨rfl, HB.out⟩
def ErV (g : Nat) (w : World) : Prop := ∃ ev, w.cell? ⟨g, 0, none⟩ = some ev ∧ (ev = .nilIface ∨ ∃ te pe, ev = .iface te pe)
theorem ErV.below {g : Nat} {w w' : World} (h : ErV g w) (hb : Below w.heap.size w w') : ErV g w' := by
  obtain ⟨ev, h1, h2⟩ := h
  exact ⟨ev, (World.cell?_of_block (w := w) (a := ⟨g, 0, none⟩) (hb.block g (World.block_lt_of_cell? _ _ h1))).trans h1, h2⟩
structure AwT (w : World) : Prop where
  pf : ∃ b o c, PfT 6 4 14 b o c w
  pr : PrT w
  db : w.cell? ⟨11, 15, none⟩ = some (.int .u8 4)
theorem AwT.below {w w' : World} (h : AwT w) (hb : Below w.heap.size w w') : AwT w' := by
  have k : ∀ (a : Addr) v, w.cell? a = some v → w'.cell? a = some v := fun a v e => (World.cell?_of_block (w := w) (a := a) (hb.block a.block (World.block_lt_of_cell? _ _ e))).trans e
  obtain ⟨b, o, c, p⟩ := h.pf
  exact ⟨⟨b, o, c, k _ _ p.mb, k _ _ p.op, k _ _ p.pw, k _ _ p.p1⟩, h.pr.below hb, k _ _ h.db⟩
set_option maxRecDepth 20000 in
set_option maxHeartbeats 6400000 in
theorem awake2 (w : World) (h : AwT w) : Calls Tryz.prog 11 #[] w fun e w' => e = .returned (.bool true) ∧ Below w.heap.size w w' := by
  obtain ⟨b, o, c, p⟩ := h.pf
  have H1 := hidT (tp_01 b o c w p)
  have H2 := hidT (print_38 w h.pr)
  have H3 : Hid (∀ w1, Below w.heap.size w w1 → Calls Tryz.prog 5 #[.float .f64 4609434218613702656] w1 fun e w' => e = .returned (.tuple #[.string ⟨#[48, 120, 49, 46, 56, 112, 43, 48]⟩, .int .i64 0]) ∧ Below w.heap.size w w') := fun w1 hb => (hex_15 w1 (h.below hb).db).mono fun e w' ⟨he, hb'⟩ => ⟨he, hb.trans (hb'.mono hb.size)⟩
  have H4 : Hid (∀ w1, Below w.heap.size w w1 → Calls Tryz.prog 30 #[.string ⟨#[45, 55]⟩] w1 fun e w' => e = .returned (.tuple #[.int .i64 (-7), .bool true]) ∧ Below w.heap.size w w') := fun w1 hb => (int_ok ⟨#[45, 55]⟩ (by decide) (.inr ⟨1, by decide, fun _ => by decide, by decide, by decide, fun j h1 h2 => absurd (show j < 2 from h2) (by omega)⟩) (-7) (by decide) w1).mono fun e w' ⟨he, hb'⟩ => ⟨he, hb.trans (hb'.mono hb.size)⟩
  clear h p
  go_enter Tryz.func11, Tryz.ntmps11
  go_wp2_with fail
  refine H1.out.mono ?_
  rintro e w1 ⟨rfl, rfl⟩
  go_wp2_with fail
  refine H2.out.mono ?_
  rintro e w2 ⟨rfl, hb⟩
  have HB2 := hidT hb
  clear hb
  go_wp2_with fail
  refine (H3.out _ HB2.out).mono ?_
  rintro e w3 ⟨rfl, hb⟩
  have HB3 := hidT hb
  clear hb
  go_wp2_with fail
  refine (H4.out _ HB3.out).mono ?_
  rintro e w4 ⟨rfl, hb⟩
  have HB4 := hidT hb
  clear hb
  go_wp2_with fail
  go_ret
  exact ⟨by rfl, HB4.out⟩
end Go.Proofs.YtbgmbodedjhfoaaGreatDoor
namespace Go.Proofs.YtbgmbodedjhfoaaGreatDoor
open Go.RowKit

def valL (acc : Nat) : List UInt8 → Nat
  | [] => acc
  | c :: r => valL (acc * 10 + (c.toNat - 48)) r
theorem valL_snoc : ∀ (l : List UInt8) (acc : Nat) (c : UInt8), valL acc (l ++ [c]) = valL acc l * 10 + (c.toNat - 48)
  | [], _, _ => rfl
  | _ :: l, _, c => valL_snoc l _ c
def digL (c : UInt8) : Prop := 48 ≤ c.toNat ∧ c.toNat ≤ 57
theorem byN_eq (s : ByteArray) (i : Nat) : byN s i = (s.data.toList.getD i 0).toNat := by
  unfold byN
  split
  · rename_i h
    have h' : i < s.data.toList.length := by simpa using h
    rw [List.getD_eq_getElem?_getD, List.getElem?_eq_getElem h']
    rfl
  · rename_i h
    have h' : ¬ i < s.data.toList.length := by simpa using h
    rw [List.getD_eq_getElem?_getD, List.getElem?_eq_none (by omega)]
    rfl
def offN (s : ByteArray) : Nat := if byN s 0 = 45 then 1 else 0
theorem WhP.digits {s : ByteArray} (h : WhP s) : offN s < s.size ∧ (∀ j, offN s ≤ j → j < s.size → 48 ≤ byN s j ∧ byN s j ≤ 57) ∧ (byN s (offN s) = 48 → s.size = 1) := by
  rcases h with ⟨h1, h0⟩ | ⟨o, ho, hm, hl, hh, hd⟩
  · have e : offN s = 0 := by unfold offN; rw [if_neg (by omega)]
    rw [e]
    refine ⟨by omega, fun j _ hj => ?_, fun _ => h1⟩
    obtain rfl : j = 0 := by omega
    omega
  · have e : offN s = o := by
      unfold offN
      rcases (show o = 0 ∨ o = 1 by omega) with rfl | rfl
      · rw [if_neg (by omega)]
      · rw [if_pos (hm rfl)]
    rw [e]
    refine ⟨byN_in (by omega), fun j h1 h2 => ?_, fun h => by omega⟩
    by_cases e2 : j = o
    · rw [e2]; omega
    · have := hd j (by omega) h2
      unfold dgB at this
      simpa using this
end Go.Proofs.YtbgmbodedjhfoaaGreatDoor
