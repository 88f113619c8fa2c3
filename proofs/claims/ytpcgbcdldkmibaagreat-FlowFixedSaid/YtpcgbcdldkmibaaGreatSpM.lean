/- What the laws of schedules call, in one manner. -/
import Derived.Test.YtpcgbcdldkmibaaGreatHbp
import Derived.Test.YtpcgbcdldkmibaaGreatHas
namespace Go.Proofs.YtpcgbcdldkmibaaGreat
open Go.RowKit

def IntsOut (xs : List Int) (E : Int) (wx : World) (e : Ending) (w' : World) : Prop := ∃ q g c, e = .returned (.tuple #[.slice q xs.length c, .int .i64 E]) ∧ ISrc w' q g 0 xs ∧ c ≤ 9223372036854775807 ∧ (0 < xs.length → wx.heap.size ≤ g)
def PersOut (xs : List Per) (E : Int) (wx : World) (e : Ending) (w' : World) : Prop := ∃ q g c, e = .returned (.tuple #[.slice q xs.length c, .int .i64 E]) ∧ PSrc w' q g 0 xs ∧ c ≤ 9223372036854775807 ∧ (0 < xs.length → wx.heap.size ≤ g)
theorem isrc_nil (w : World) : ISrc w none 0 0 [] := ⟨fun h => absurd h (by decide), fun h => absurd h (by decide), fun i hi => absurd hi (by simp)⟩
theorem psrc_nil (w : World) : PSrc w none 0 0 [] := ⟨fun h => absurd h (by decide), fun h => absurd h (by decide), fun i hi => absurd hi (by simp)⟩
theorem ints_nil (E : Int) (wx w' : World) : IntsOut [] E wx (.returned (.tuple #[.slice none 0 0, .int .i64 E])) w' := ⟨none, 0, 0, rfl, isrc_nil w', by omega, fun h => absurd h (by decide)⟩
theorem pers_nil (E : Int) (wx w' : World) : PersOut [] E wx (.returned (.tuple #[.slice none 0 0, .int .i64 E])) w' := ⟨none, 0, 0, rfl, psrc_nil w', by omega, fun h => absurd h (by decide)⟩
theorem ints_of {s : Spc} {K : Nat} {w w' : World} {e : Ending} (h : DatO s K w e w') : IntsOut (if K < 1200 then datL s (cutN s K) else []) (if K < 1200 then 0 else 81) w e w' := by
  rcases h with ⟨hk, rfl⟩ | ⟨hk, v, rfl, ho⟩
  · rw [if_neg (by omega), if_neg (by omega)]; exact ints_nil 81 _ _
  · rw [if_pos hk, if_pos hk]
    obtain ⟨q, g, c, rfl, hs, hg, _, hm⟩ := iown_src ho (dat_len s _)
    exact ⟨q, g, c, by rw [dat_len], hs, by unfold maxLen at hm; omega, fun _ => hg⟩
open Classical in
theorem pers_of {op : Int → Bool} {s : Spc} {K : Nat} {w w' : World} {e : Ending} (h : PerZ op s K w e w') : PersOut (if K < 1200 ∧ ∀ j < cutN s K + 1, (perI op s (datL s (cutN s K)) j).isSome = true then perL op s (datL s (cutN s K)) (cutN s K + 1) else []) (if K < 1200 then (if ∀ j < cutN s K + 1, (perI op s (datL s (cutN s K)) j).isSome = true then 0 else 51) else 81) w e w' := by
  rcases h with ⟨hk, rfl⟩ | ⟨hk, ⟨⟨j, hj, hn⟩, rfl⟩ | ⟨ha, v, rfl, ho⟩⟩
  · rw [if_neg (by omega), if_neg (by omega)]; exact pers_nil 81 _ _
  · have hna : ¬ ∀ j < cutN s K + 1, (perI op s (datL s (cutN s K)) j).isSome = true := fun h => by have := h j hj; rw [hn] at this; cases this
    rw [if_neg (fun h => hna h.2), if_pos hk, if_neg hna]; exact pers_nil 51 _ _
  · rw [if_pos ⟨hk, ha⟩, if_pos hk, if_pos ha]
    obtain ⟨q, g, c, rfl, hs, hg, _, hm⟩ := pown_src ho (perL_len _ _ _ _)
    exact ⟨q, g, c, by rw [perL_len], hs, by unfold maxLen at hm; omega, fun _ => hg⟩

end Go.Proofs.YtpcgbcdldkmibaaGreat
