/- The lists of names' numbers as rows of the call's own; an error's own text. -/
import Derived.Test.YtfonoonngdblpaaDoorNPairs2
import Derived.Test.YtfonoonngdblpaaDoorNPairs3
import Derived.Test.YtfonoonngdblpaaDoorNShelf
import Derived.Lib.AppendIntMem
namespace Go.Proofs.YtfonoonngdblpaaDoor
open Go.RowKit

def errsN : List Int := [0, 1, 2, 20, 50, 51, 60, 70, 80, 81, 90, 91, 100, 120, 130, 131, 140, 170, 171, 172, 180, 190, 200, 201, 202, 210, 230, 231, 240, 260, 261]
def limitsN : List Int := [109572, 1900, 2199, 64, 1200, 1200, 30, 256, 64, 4096, 65536, 64, 1024, 8192, 256, 8, 400, 30, 1048576, 1000000, 70000, 28, 256, 256, 1000000, 16777216]
def kindsN : List Int := [1, 2, 3, 4, 5, 1, 2, 3, 4, 0, 1, 2, 3, 4, 1, 2, 3, 4, 5, 6, 1, 2, 3, 4, 1, 2, 3, 4, 0, 1, 2, 1, 2, 3, 4, 5, 6, 1, 2, 3, 4, 1, 2, 1, 2, 1, 2, 3, 4, 5, 6, 7, 8, 1, 2, 3, 1, 2, 3, 4, 5, 6, 7]

theorem dbl_length : ∀ l : List Int, (dbl l).length = l.length * 2
  | [] => rfl
  | _ :: r => by rw [dbl, List.length_cons, List.length_cons, dbl_length r, List.length_cons]; omega
theorem dbl_append : ∀ a b : List Int, dbl (a ++ b) = dbl a ++ dbl b
  | [], _ => rfl
  | n :: r, b => by rw [List.cons_append, dbl, dbl, dbl_append r b]; rfl
theorem dbl_get : ∀ (l : List Int) (i : Nat) (h : i < l.length), (dbl l)[2 * i]? = some (.int .i64 l[i]) ∧ (dbl l)[2 * i + 1]? = some (.int .i64 l[i])
  | [], i, h => by simp at h
  | n :: r, 0, _ => ⟨rfl, rfl⟩
  | n :: r, i + 1, h => by
    have := dbl_get r i (by simpa using h)
    rw [show 2 * (i + 1) = 2 * i + 1 + 1 by omega, show 2 * i + 1 + 1 + 1 = (2 * i + 1) + 1 + 1 by omega]
    exact this
theorem dbl_one : ∀ (l : List Int), ∀ u ∈ dbl l, u.oneCell' = true
  | [], u, h => by cases h
  | n :: r, u, h => by
    rw [dbl] at h
    rcases List.mem_cons.1 h with rfl | h
    · rfl
    · rcases List.mem_cons.1 h with rfl | h
      · rfl
      · exact dbl_one r u h

/-- A new row of pairs. -/
theorem own_pairs (w : World) (l : List Int) (n : Nat) (hn : l.length = n) (hm : n ≤ 1000) :
    (w.alloc (.cells (dbl l).toArray 25)).ownsRow w.heap.size 25 2 (.slice (some ⟨w.heap.size, 0, none⟩) n n) n (dbl l) := by
  refine ⟨by rw [dbl_length, hn], Or.inr ⟨w.heap.size, n, (dbl l).toArray, rfl, Nat.le_refl _, heap_alloc_new w _, Nat.le_refl _, by unfold maxLen; omega, by rw [List.size_toArray, dbl_length, hn], ?_⟩⟩
  rw [List.toList_toArray, List.take_of_length_le (by rw [dbl_length, hn]; omega)]

theorem own_below {w w' : World} {base B : Nat} {e : TypeId} {size : Nat} {v : Value} {n : Nat} {xs : List Value} (h : w.ownsRow base e size v n xs) (hb : Below B w w') (hB : w.heap.size ≤ B) : w'.ownsRow base e size v n xs := by
  refine ⟨h.1, ?_⟩
  rcases h.2 with hn | ⟨g, cap, cur, rfl, hg, hh, rest⟩
  · exact Or.inl hn
  · refine Or.inr ⟨g, cap, cur, rfl, hg, ?_, rest⟩
    have hlt := (Array.getElem?_eq_some_iff.1 hh).1
    rw [hb.block g (by omega)]; exact hh
theorem own_mono {w : World} {base base' : Nat} {e : TypeId} {size : Nat} {v : Value} {n : Nat} {xs : List Value} (h : w.ownsRow base e size v n xs) (hb : base' ≤ base) : w.ownsRow base' e size v n xs := by
  refine ⟨h.1, ?_⟩
  rcases h.2 with hn | ⟨g, cap, cur, rfl, hg, rest⟩
  · exact Or.inl hn
  · exact Or.inr ⟨g, cap, cur, rfl, by omega, rest⟩

def Pairs (w : World) (base : Nat) (v : Value) (n : Nat) (l : List Int) : Prop := w.ownsRow base 25 2 v n (dbl l)

theorem errs_own (w : World) : Calls Tryd.prog 4 #[] w fun e w' => e = .returned (.slice (some ⟨w.heap.size, 0, none⟩) 31 31) ∧ Pairs w' w.heap.size (.slice (some ⟨w.heap.size, 0, none⟩) 31 31) 31 errsN ∧ Below w.heap.size w w' :=
  (errs_any w).mono fun _ _ ⟨a, b⟩ => ⟨a, by rw [b]; exact own_pairs w errsN 31 rfl (by omega), by rw [b]; exact (Below.refl _ _).alloc (Nat.le_refl _) _⟩
theorem limits_own (w : World) : Calls Tryd.prog 5 #[] w fun e w' => e = .returned (.slice (some ⟨w.heap.size, 0, none⟩) 26 26) ∧ Pairs w' w.heap.size (.slice (some ⟨w.heap.size, 0, none⟩) 26 26) 26 limitsN ∧ Below w.heap.size w w' :=
  (limits_any w).mono fun _ _ ⟨a, b⟩ => ⟨a, by rw [b]; exact own_pairs w limitsN 26 rfl (by omega), by rw [b]; exact (Below.refl _ _).alloc (Nat.le_refl _) _⟩
theorem kinds_own (w : World) : Calls Tryd.prog 6 #[] w fun e w' => e = .returned (.slice (some ⟨w.heap.size, 0, none⟩) 63 63) ∧ Pairs w' w.heap.size (.slice (some ⟨w.heap.size, 0, none⟩) 63 63) 63 kindsN ∧ Below w.heap.size w w' :=
  (kinds_any w).mono fun _ _ ⟨a, b⟩ => ⟨a, by rw [b]; exact own_pairs w kindsN 63 rfl (by omega), by rw [b]; exact (Below.refl _ _).alloc (Nat.le_refl _) _⟩

theorem itoa210 : (⟨(Lib.itoa 210).toArray⟩ : ByteArray) = ⟨#[50, 49, 48]⟩ := by kernel_rfl
theorem itoa0 : (⟨(Lib.decDigits 0).toArray⟩ : ByteArray) = ⟨#[48]⟩ := by kernel_rfl

theorem itoa_210 (w : World) (htab : Lib.TabIs Tryd.prog w "internal/strconv.uint64pow10" .u64 Lib.pow10Tab) :
    Calls Tryd.prog 12 #[.int .i64 210] w fun e w' => e = .returned (.string ⟨#[50, 49, 48]⟩) ∧ ∃ k os, w' = Sort.grow (w.drewN k) os := by
  have h := Tryd.strconv_Itoa 210 (by omega) (by omega) w htab
  rw [itoa210] at h; exact h
theorem itoa_0 (w : World) :
    Calls Tryd.prog 12 #[.int .i64 0] w fun e w' => e = .returned (.string ⟨#[48]⟩) ∧ w' = w := by
  have h := Tryd.strconv_Itoa_small 0 (by omega) w
  rw [itoa0] at h; exact h

set_option maxHeartbeats 400000 in
theorem error210 (w : World) (htab : Lib.TabIs Tryd.prog w "internal/strconv.uint64pow10" .u64 Lib.pow10Tab) :
    Calls Tryd.prog 7 #[.int .i64 210] w fun e w' => e = .returned (.string ⟨#[101, 114, 114, 111, 114, 32, 50, 49, 48]⟩) ∧ Below w.heap.size w w' := by
  have HT : Hid (Lib.TabIs Tryd.prog w "internal/strconv.uint64pow10" .u64 Lib.pow10Tab) := htab
  clear htab
  go_enter Tryd.func7, Tryd.ntmps7
  go_wp2_with fail
  refine (itoa_210 _ HT.out).mono ?_
  rintro e w' ⟨rfl, k, os, rfl⟩
  go_wp2_with fail
  go_ret
  exact ⟨rfl, Lib.below_grow _ _ (Nat.le_refl _) _ _⟩

set_option maxHeartbeats 400000 in
theorem error0 (w : World) :
    Calls Tryd.prog 7 #[.int .i64 0] w fun e w' => e = .returned (.string ⟨#[101, 114, 114, 111, 114, 32, 48]⟩) ∧ w' = w := by
  go_enter Tryd.func7, Tryd.ntmps7
  go_wp2_with fail
  refine (itoa_0 _).mono ?_
  rintro e w' ⟨rfl, rfl⟩
  go_wp2_with fail
  go_ret
  exact ⟨rfl, rfl⟩
end Go.Proofs.YtfonoonngdblpaaDoor
