/- text.Hex at 1.5; strconv.Atoi. text.Int at any text; the law's awake of stage 2. Whole numbers in texts, in plain words. -/
import Derived.Test.YtiiajhomdpfafaaGreatDoorHau
import Derived.Test.YtiiajhomdpfafaaGreatDoorHak
namespace Go.Proofs.YtiiajhomdpfafaaGreatDoor
open Go.RowKit

theorem trim_one (s : ByteArray) (w : World) (hs : s.size ≤ 9223372036854775807) :
    Calls Tryz.prog 152 #[.string s, .string ⟨#[48]⟩] w fun e w' => e = .returned (.string ⟨(Lib.trimRightB s.data.toList 48).toArray⟩) ∧ w' = w := Any.strings_TrimRight_one Tryz.lays162 s 48 (by decide) w hs
set_option maxRecDepth 20000 in
set_option maxHeartbeats 6400000 in
theorem fu16 (u K : Nat) (hu : u < 18446744073709551616) (hK : K ≤ 15) (hK0 : u / 16 ^ K < 16) (hK1 : ∀ k, k < K → 16 ≤ u / 16 ^ k) (w : World) (h : w.cell? ⟨12, 15, none⟩ = some (.int .u8 4)) : Calls Tryz.prog 153 #[.int .u64 (u : Int), .int .i64 16] w fun e w' => e = .returned (.string ⟨((hxL K u).map UInt8.ofNat).toArray⟩) ∧ Below w.heap.size w w' := by
  have HF := hidT (fbits16 u K hu hK hK0 hK1 w h)
  generalize ((hxL K u).map UInt8.ofNat).toArray = R at HF ⊢
  clear hu hK hK0 hK1 h
  go_enter Tryz.func153, Tryz.ntmps153
  go_wp2_with (first | (go_at_call 200; refine HF.out.mono ?_; rintro e w1 ⟨rfl, hb⟩; have HB := hidT hb; clear hb) | go_in)
  go_ret
  exact ⟨rfl, HB.out⟩
end Go.Proofs.YtiiajhomdpfafaaGreatDoor
namespace Go.Proofs.YtiiajhomdpfafaaGreatDoor
open Go.RowKit

def ErV (g : Nat) (w : World) : Prop := ∃ ev, w.cell? ⟨g, 0, none⟩ = some ev ∧ (ev = .nilIface ∨ ∃ te pe, ev = .iface te pe)
theorem ErV.below {g : Nat} {w w' : World} (h : ErV g w) (hb : Below w.heap.size w w') : ErV g w' := by
  obtain ⟨ev, h1, h2⟩ := h
  exact ⟨ev, (World.cell?_of_block (w := w) (a := ⟨g, 0, none⟩) (hb.block g (World.block_lt_of_cell? _ _ h1))).trans h1, h2⟩
structure AwT (w : World) : Prop where
  pf : ∃ b o c, PfT 7 6 10 b o c w
  pr : PrT w
  db : w.cell? ⟨12, 15, none⟩ = some (.int .u8 4)
theorem AwT.below {w w' : World} (h : AwT w) (hb : Below w.heap.size w w') : AwT w' := by
  have k : ∀ (a : Addr) v, w.cell? a = some v → w'.cell? a = some v := fun a v e => (World.cell?_of_block (w := w) (a := a) (hb.block a.block (World.block_lt_of_cell? _ _ e))).trans e
  obtain ⟨b, o, c, p⟩ := h.pf
  exact ⟨⟨b, o, c, k _ _ p.mb, k _ _ p.op, k _ _ p.pw, k _ _ p.p1⟩, h.pr.below hb, k _ _ h.db⟩
end Go.Proofs.YtiiajhomdpfafaaGreatDoor
namespace Go.Proofs.YtiiajhomdpfafaaGreatDoor
open Go.RowKit

def offN (s : ByteArray) : Nat := if byN s 0 = 45 then 1 else 0
theorem WhP.digits {s : ByteArray} (h : WhP s) : offN s < s.size ∧ (∀ j, offN s ≤ j → j < s.size → 48 ≤ byN s j ∧ byN s j ≤ 57) ∧ (byN s (offN s) = 48 → s.size = 1) := by
  rcases h with ⟨h1, h0⟩ | ⟨o, ho, hm, hl, hh, hd⟩
  · have e : offN s = 0 := by unfold offN; rw [if_neg (by omega)]
    rw [e]
    refine ⟨by omega, fun j _ hj => ?_, fun _ => h1⟩
    obtain rfl : j = 0 := by omega
    omega
  · have e : offN s = o := by
      unfold offN
      rcases (show o = 0 ∨ o = 1 by omega) with rfl | rfl
      · rw [if_neg (by omega)]
      · rw [if_pos (hm rfl)]
    rw [e]
    refine ⟨byN_in (by omega), fun j h1 h2 => ?_, fun h => by omega⟩
    by_cases e2 : j = o
    · rw [e2]; omega
    · have := hd j (by omega) h2
      unfold dgB at this
      simpa using this
end Go.Proofs.YtiiajhomdpfafaaGreatDoor
