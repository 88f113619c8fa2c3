/- BootLent's walk, whatever is handed in. -/
import Derived.Test.YtphnainibdepbaaGreatWBootLent
import Derived.Test.YtphnainibdepbaaGreatHbw
import Derived.Test.YtphnainibdepbaaGreatHbn
namespace Go.Proofs.YtphnainibdepbaaGreat
open Go.RowKit

theorem bootLent_walk (base kind W : Int) (p : Option Addr) (b off c : Nat) (rs : List Rul) (pq : Option Addr) (bq oq cq : Nat) (qs : List Quo) (w : World) (hs : RSrc w p b off rs) (hl : rs.length ≤ 9223372036854775807) (hq : QSrc w pq bq oq qs) (_hI : ∀ q ∈ qs, QuoI q) (_h1 : qs.length ≤ cq) (_h2 : cq ≤ 9223372036854775807) (_h3 : I64 base) (_h4 : I64 kind) (hnil : pq = none → qs.length = 0 ∧ cq = 0) :
    Calls Tryz.prog 3 #[.int .i64 base, .int .i64 kind, .agg #[.int .i64 W, .slice p rs.length c], .slice pq qs.length cq] w fun e w' => e = .returned (.bool true) ∧ Below w.heap.size w w' := by
  have HF : Hid (∀ wx, Below w.heap.size w wx → Calls Tryz.prog 4 #[.int .i64 base, .int .i64 kind, .agg #[.int .i64 W, .slice p rs.length c], .slice pq qs.length cq] wx fun e w' => (∃ f, e = .returned (.bool f) ∧ (f = true → qs.length ≤ 5)) ∧ Below wx.heap.size wx w') := fun wx hb => by
    by_cases h5 : 5 < qs.length
    · exact (few13_long base kind W p pq cq rs.length c qs.length wx h5).mono fun e w' h => ⟨⟨false, h.1, fun h => by cases h⟩, h.2⟩
    · exact (few13_any base kind W p pq bq oq cq rs.length c qs wx (hq.below hb)).mono fun e w' h => ⟨h.1.imp fun f hf => ⟨hf, fun _ => by omega⟩, h.2⟩
  obtain ⟨A, B, hA⟩ := chk_ex W rs
  obtain ⟨R, hR⟩ := buiR_ex base kind W A rs qs
  have B1 : ∀ wx g k, Below w.heap.size w wx → QSrc wx (some ⟨g, 0, none⟩) g 0 qs → Calls Tryz.prog 6 #[.int .i64 base, .int .i64 kind, .agg #[.int .i64 W, .slice p rs.length c], .slice (some ⟨g, 0, none⟩) qs.length k] wx fun e w' => BldO wx base kind (endL qs qs.length) R e w' ∧ Below wx.heap.size wx w' := fun wx g k hb hg => bBuild_any base kind W A B p (some ⟨g, 0, none⟩) b off c g 0 k rs qs wx hA (hs.below hb) hl hg hR
  by_cases hz : R.2.1 = 0
  · cases hR with
    | bad E K h hE => exact absurd hz hE
    | go h =>
      obtain ⟨hf, b0, b1, k1, k4, rfl, lo, hi⟩ := chk13_ok h
      have hz' : (bldV base kind W rs qs qs.length).2.1 = 0 := hz
      obtain ⟨hlen, hfac⟩ := bld_inv (W := W) (rs := rs) b0 b1 k1 k4 hi hf qs.length (Nat.le_refl _) hz'
      refine bootLent_go base kind W p pq rs.length c cq qs.length w bq oq qs hq rfl hnil base kind 0 0 qs.length (endL qs qs.length) (bldV base kind W rs qs qs.length).1 hi (fun _ => ⟨rfl, by omega, ?_⟩) HF (fun wx g k hb hg => (B1 wx g k hb hg).mono fun e w' ⟨hO, hb'⟩ => ⟨?_, hb'⟩)
      · exact facB_pos (hfac 0 (by omega)).2 (hfac 0 (by omega)).1
      · rcases hO with ⟨h0, _⟩ | ⟨_, vX, vY, he, hx, hy, hl'⟩
        · exact absurd hz h0
        have e1 := endL_len qs qs.length
        rw [e1] at hx hy hl'
        have hn : 0 < qs.length := by omega
        obtain ⟨g1, c1, rfl, s1, d1, _, _⟩ := kown_src (xs := endL qs qs.length) hx e1 hn
        obtain ⟨g2, c2, rfl, s2, d2, _, _⟩ := kfown_src (xs := (bldV base kind W rs qs qs.length).1) hy hl' hn
        exact ⟨_, _, c1, c2, g1, g2, he, ⟨e1, hl', ⟨by rw [e1]; exact s1, by rw [hl']; exact s2, fun i hi' => (hfac i (by rw [hl'] at hi'; exact hi')).2⟩, .of_own hx, .of_own hy, fun _ => rfl, fun _ => rfl, fun _ => ⟨d1, d2⟩, fun _ => ⟨s1.lt hn, s2.lt hn⟩, fun _ => kown_ne hx hy (by decide)⟩⟩
  · refine bootLent_go base kind W p pq rs.length c cq qs.length w bq oq qs hq rfl hnil 0 0 R.2.1 R.2.2 0 [] [] (by omega) (fun h => absurd h hz) HF (fun wx g k hb hg => (B1 wx g k hb hg).mono fun e w' ⟨hO, hb'⟩ => ⟨?_, hb'⟩)
    rcases hO with ⟨_, he⟩ | ⟨h0, _⟩
    · exact ⟨none, none, 0, 0, 0, 0, he, blT_nil _ _⟩
    · exact absurd h0 hz
end Go.Proofs.YtphnainibdepbaaGreat
