/- Texts of days, byte by byte: no word of the program. -/
import Derived.Test.YtiiajhomdpfafaaGreatDoorDPlain
import Derived.Laws.RangeAny
namespace Go.Proofs.YtiiajhomdpfafaaGreatDoor
open Go.RowKit

def bt (s : ByteArray) (i : Nat) : Nat := (s.get! i).toNat
theorem bt_at {s : ByteArray} {i : Nat} (h : i < s.size) : (s[i]'h).toNat = bt s i := by
  have e : s.get! i = s[i]'h := by
    simp [ByteArray.get!, getElem!_pos, h]
    rfl
  unfold bt; rw [e]
def digB (b : Nat) : Bool := decide (48 ≤ b ∧ b ≤ 57)
def okB (i b : Nat) : Bool := if i = 4 ∨ i = 7 then b == 45 else digB b
def txtOk (s : ByteArray) : Prop := s.size = 10 ∧ ∀ i < 10, okB i (bt s i) = true
instance (s : ByteArray) : Decidable (txtOk s) := by unfold txtOk; infer_instance
def allDig (s : ByteArray) : Prop := ∀ i < s.size, digB (bt s i) = true
instance (s : ByteArray) : Decidable (allDig s) := by unfold allDig; infer_instance
def numN (s : ByteArray) : Nat → Nat
  | 0 => 0
  | k + 1 => 10 * numN s k + (bt s k - 48)
theorem numN_hi {s : ByteArray} (h : allDig s) (k : Nat) (hk : k ≤ s.size) : numN s k < 10 ^ k := by
  induction k with
  | zero => exact Nat.one_pos
  | succ k ih =>
    have a := ih (by omega)
    have b := h k (by omega)
    unfold digB at b
    rw [decide_eq_true_eq] at b
    rw [Nat.pow_succ]
    show 10 * numN s k + (bt s k - 48) < _
    omega
theorem bt_extract {s : ByteArray} {a b i : Nat} (hb : b ≤ s.size) (h : a + i < b) : bt (s.extract a b) i = bt s (a + i) := by
  have h1 : i < (s.extract a b).size := by rw [ByteArray.size_extract]; omega
  have h2 : a + i < s.size := by omega
  rw [← bt_at h1, ← bt_at h2, ByteArray.getElem_extract]
theorem size_ext {s : ByteArray} {a b : Nat} (hb : b ≤ s.size) : (s.extract a b).size = b - a := by
  rw [ByteArray.size_extract]; omega
theorem dig_ext {s : ByteArray} (h : txtOk s) {a b : Nat} (hb : b ≤ 10) (hd : ∀ i, a ≤ i → i < b → i ≠ 4 ∧ i ≠ 7) : allDig (s.extract a b) := by
  intro i hi
  rw [size_ext (by rw [h.1]; exact hb)] at hi
  rw [bt_extract (by rw [h.1]; exact hb) (by omega)]
  have e := h.2 (a + i) (by omega)
  have d := hd (a + i) (by omega) (by omega)
  unfold okB at e
  rw [if_neg (by omega)] at e
  exact e

theorem next_rune {P : Program} (w : World) (s : ByteArray) (pos : Nat) (h : pos < s.size) :
    ∃ (r : Int) (q : Nat), (∀ ty, (Instr.next (.pointer (some ⟨w.heap.size, 0, none⟩)) true ty).run P (w.iter s pos) = .ok (.tuple #[.bool true, .int .i64 pos, .int .i32 r]) (w.iter s (pos + q))) ∧
      0 ≤ r ∧ r ≤ 2147483647 ∧ ((r < 128 ∧ r = bt s pos ∧ q = 1) ∨ (128 ≤ r ∧ 128 ≤ bt s pos)) := by
  refine ⟨((Utf8.decode s pos).1 : Nat), (Utf8.decode s pos).2, fun ty => run_next_any w s pos ty h, by omega, ?_, ?_⟩
  · have := decode_le s pos; omega
  · by_cases ha : (s[pos]'h).toNat < 128
    · rw [decode_ascii s pos h ha]
      have := bt_at h
      exact Or.inl ⟨by omega, by rw [← this], rfl⟩
    · have := decode_high s pos h (by omega)
      have e := bt_at h
      exact Or.inr ⟨by omega, by omega⟩
theorem next_dig {P : Program} (w : World) (s : ByteArray) (pos : Nat) (h : pos < s.size) (hd : digB (bt s pos) = true) :
    ∀ ty, (Instr.next (.pointer (some ⟨w.heap.size, 0, none⟩)) true ty).run P (w.iter s pos) = .ok (.tuple #[.bool true, .int .i64 pos, .int .i32 (bt s pos : Nat)]) (w.iter s (pos + 1)) := by
  unfold digB at hd
  rw [decide_eq_true_eq] at hd
  have e := bt_at h
  intro ty
  rw [run_next_ascii w s pos ty h (by omega), e]
def parseY (s : ByteArray) : Int := (numN (s.extract 0 4) 4 : Nat)
def parseM (s : ByteArray) : Int := (numN (s.extract 5 7) 2 : Nat)
def parseD (s : ByteArray) : Int := (numN (s.extract 8 10) 2 : Nat)
end Go.Proofs.YtiiajhomdpfafaaGreatDoor
