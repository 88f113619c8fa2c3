/- Package deal: a kind is looked up in the table. Package deal: a kind by its number, by its word. -/
import Derived.Test.YtiiajhomdpfafaaGreatDoorHam
import Derived.LoopTactic
namespace Go.Proofs.YtiiajhomdpfafaaGreatDoor
open Go.RowKit

def kdG (i : Nat) : Kd := kdL.getD i kdZero
structure KCell (w : World) (h o : Nat) (k : Kd) (u : Value) : Prop where
  c0 : w.cell? ⟨h, o, none⟩ = some (.int .i64 k.num)
  c1 : w.cell? ⟨h, o + 1, none⟩ = some (.string k.word)
  c2 : w.cell? ⟨h, o + 2, none⟩ = some u
  c3 : w.cell? ⟨h, o + 3, none⟩ = some (.int .i64 k.parts)
  c4 : w.cell? ⟨h, o + 4, none⟩ = some (fnB k.mean)
structure TabC (h : Nat) (u : Nat → Value) (w : World) : Prop where
  cell : ∀ i, i < 8 → KCell w h (i * 5) (kdG i) (u i)
  slc : ∀ i, i < 8 → SlcAt (kdG i).ds (u i) w
  lt : h < w.heap.size
theorem TabC.below {h : Nat} {u : Nat → Value} {w w' : World} (t : TabC h u w) (hb : Below w.heap.size w w') : TabC h u w' := by
  have k : ∀ j, w'.cell? ⟨h, j, none⟩ = w.cell? ⟨h, j, none⟩ := fun j => World.cell?_of_block (w := w) (a := ⟨h, j, none⟩) (hb.block h t.lt)
  exact ⟨fun i hi => ⟨(k _).trans (t.cell i hi).c0, (k _).trans (t.cell i hi).c1, (k _).trans (t.cell i hi).c2, (k _).trans (t.cell i hi).c3, (k _).trans (t.cell i hi).c4⟩, fun i hi => (t.slc i hi).below hb, Nat.lt_of_lt_of_le t.lt hb.size⟩
theorem tab_open {v : Value} {w : World} (h : TabAt kdL v w) : ∃ g u, v = .slice (some ⟨g, 0, none⟩) 8 8 ∧ TabC g u w := by
  obtain ⟨g, us, rfl, hl, hh, hs⟩ := h
  match us, hl with
  | [u0, u1, u2, u3, u4, u5, u6, u7], _ =>
    refine ⟨g, fun i => [u0, u1, u2, u3, u4, u5, u6, u7].getD i undef, rfl, ⟨fun i hi => ?_, fun i hi => ?_, lt_of_blk hh⟩⟩
    · rcases (show i = 0 ∨ i = 1 ∨ i = 2 ∨ i = 3 ∨ i = 4 ∨ i = 5 ∨ i = 6 ∨ i = 7 by omega) with rfl | rfl | rfl | rfl | rfl | rfl | rfl | rfl <;>
      · refine ⟨?_, ?_, ?_, ?_, ?_⟩ <;>
        · simp only [World.cell?, hh, Option.isSome_none, Bool.false_eq_true, if_false]; rfl
    · have := hs i hi
      rcases (show i = 0 ∨ i = 1 ∨ i = 2 ∨ i = 3 ∨ i = 4 ∨ i = 5 ∨ i = 6 ∨ i = 7 by omega) with rfl | rfl | rfl | rfl | rfl | rfl | rfl | rfl <;> exact this
def FindP (pr : Nat → Bool) (r : Int) : Prop := (r = -1 ∧ ∀ j < 8, pr j = false) ∨ ∃ i : Nat, i < 8 ∧ r = (i : Int) ∧ pr i = true ∧ ∀ j < i, pr j = false
set_option maxRecDepth 20000 in
set_option maxHeartbeats 3200000 in
theorem idxFunc_any (h : Nat) (u : Nat → Value) (F : Nat) (cap : Array Value) (pr : Nat → Bool) (w : World) (ht : TabC h u w) (he : ∀ xs w, (callFunc F xs).run Tryz.prog w = .ok (.enter F xs) w)
    (hF : ∀ i, i < 8 → ∀ wx, Below w.heap.size w wx → Calls Tryz.prog F (#[.agg #[.int .i64 (kdG i).num, .string (kdG i).word, u i, .int .i64 (kdG i).parts, fnB (kdG i).mean]] ++ cap) wx fun e w' => e = .returned (.bool (pr i)) ∧ Below wx.heap.size wx w') :
    Calls Tryz.prog 95 #[.slice (some ⟨h, 0, none⟩) 8 8, .func (.func F) #[] cap] w fun e w' => ∃ r, e = .returned (.int .i64 r) ∧ FindP pr r ∧ Below w.heap.size w w' := by
  have HT := hidD ht
  have HF := hidD hF
  clear ht hF
  go_enter Tryz.func95, Tryz.ntmps95
  go_wp2_with fail
  go_loopw [8] (fun i wr => ∃ k : Nat, k ≤ 8 ∧ i = .int .i64 k ∧ Hid (∀ j < k, pr j = false) ∧ Hid (Below w.heap.size w wr)) (fun i _ => 8 - (intOf i).toNat)
  case atStart => exact ⟨0, Nat.zero_le _, rfl, fun j hj => by omega, Below.refl _ _⟩
  case round =>
    obtain ⟨k, hk, rfl, HP, HB⟩ := hrel
    by_cases hlt : k < 8
    · obtain ⟨c0, c1, c2, c3, c4⟩ := (HT.out.below HB.out).cell k hlt
      have HC := hidD (HF.out k hlt wr HB.out)
      have i1 : (k : Int) < 8 := by omega
      go_wp2_with fail
      refine HC.out.mono ?_
      rintro e w2 ⟨rfl, hb⟩
      have HB2 := hidD (HB.out.trans (hb.mono HB.out.size))
      clear hb c0 c1 c2 c3 c4 HC HB
      cases hp : pr k
      · go_wp2_with fail
        go_roundw
        case rel => exact ⟨k + 1, by omega, by simp, fun j hj => by by_cases e : j = k; (· rw [e]; exact hp); (· exact HP.out j (by omega)), HB2⟩
        case measure => simp [intOf]; omega
      · go_wp2_with fail
        go_ret
        exact ⟨k, rfl, Or.inr ⟨k, hlt, rfl, hp, HP.out⟩, HB2.out⟩
    · have i1 : ¬ (k : Int) < 8 := by omega
      go_wp2_with fail
      go_ret
      exact ⟨-1, rfl, Or.inl ⟨rfl, fun j hj => HP.out j (by omega)⟩, HB.out⟩
def zeroK : Obj := .cells #[.int .i64 0, .string ⟨#[]⟩, .slice none 0 0, .int .i64 0, .nilFunc] 65
structure ZK (g : Nat) (w : World) : Prop where
  c0 : w.cell? ⟨g, 0, none⟩ = some (.int .i64 0)
  c1 : w.cell? ⟨g, 1, none⟩ = some (.string ⟨#[]⟩)
  c2 : w.cell? ⟨g, 2, none⟩ = some (.slice none 0 0)
  c3 : w.cell? ⟨g, 3, none⟩ = some (.int .i64 0)
  c4 : w.cell? ⟨g, 4, none⟩ = some .nilFunc
  fz : ∀ i, w.frozen? ⟨g, i, none⟩ = false
theorem zk_of {g : Nat} {w : World} (h : w.heap[g]? = some zeroK) : ZK g w := by
  unfold zeroK at h
  refine ⟨?_, ?_, ?_, ?_, ?_, fun i => by simp [World.frozen?, h]⟩ <;>
  · simp only [World.cell?, h, Option.isSome_none, Bool.false_eq_true, if_false]; rfl
def put5K (w : World) (g : Nat) (a b c d e : Value) : World := ((((w.setCell ⟨g, 0, none⟩ a).setCell ⟨g, 1, none⟩ b).setCell ⟨g, 2, none⟩ c).setCell ⟨g, 3, none⟩ d).setCell ⟨g, 4, none⟩ e
theorem put5K_blk {w : World} {g : Nat} (h : w.heap[g]? = some zeroK) (a b c d e : Value) : (put5K w g a b c d e).heap[g]? = some (.cells #[a, b, c, d, e] 65) := by
  unfold zeroK at h
  have h1 : (w.setCell ⟨g, 0, none⟩ a).heap[g]? = some (.cells #[a, .string ⟨#[]⟩, .slice none 0 0, .int .i64 0, .nilFunc] 65) := (heap_setCell_same w g 0 _ _ _ h).trans rfl
  have h2 : ((w.setCell ⟨g, 0, none⟩ a).setCell ⟨g, 1, none⟩ b).heap[g]? = some (.cells #[a, b, .slice none 0 0, .int .i64 0, .nilFunc] 65) := (heap_setCell_same _ g 1 _ _ _ h1).trans rfl
  have h3 : (((w.setCell ⟨g, 0, none⟩ a).setCell ⟨g, 1, none⟩ b).setCell ⟨g, 2, none⟩ c).heap[g]? = some (.cells #[a, b, c, .int .i64 0, .nilFunc] 65) := (heap_setCell_same _ g 2 _ _ _ h2).trans rfl
  have h4 : ((((w.setCell ⟨g, 0, none⟩ a).setCell ⟨g, 1, none⟩ b).setCell ⟨g, 2, none⟩ c).setCell ⟨g, 3, none⟩ d).heap[g]? = some (.cells #[a, b, c, d, .nilFunc] 65) := (heap_setCell_same _ g 3 _ _ _ h3).trans rfl
  exact (heap_setCell_same _ g 4 _ _ _ h4).trans rfl
theorem put5K_bel {w : World} {g B : Nat} (a b c d e : Value) (h : B ≤ g) : Below B w (put5K w g a b c d e) := (((((Below.refl B w).setCell (p := ⟨g, 0, none⟩) h _).setCell (p := ⟨g, 1, none⟩) h _).setCell (p := ⟨g, 2, none⟩) h _).setCell (p := ⟨g, 3, none⟩) h _).setCell (p := ⟨g, 4, none⟩) h _
theorem cellK_of {w : World} {g : Nat} {a b c d e : Value} (h : w.heap[g]? = some (.cells #[a, b, c, d, e] 65)) : w.cell? ⟨g, 0, none⟩ = some a ∧ w.cell? ⟨g, 1, none⟩ = some b ∧ w.cell? ⟨g, 2, none⟩ = some c ∧ w.cell? ⟨g, 3, none⟩ = some d ∧ w.cell? ⟨g, 4, none⟩ = some e := by
  refine ⟨?_, ?_, ?_, ?_, ?_⟩ <;>
  · simp only [World.cell?, h, Option.isSome_none, Bool.false_eq_true, if_false]; rfl
theorem SlcAt.shape {ds : List Fd} {u : Value} {w : World} (h : SlcAt ds u w) : ∃ p n, u = .slice p n n ∧ n = ds.length := by
  rcases h with ⟨rfl, rfl⟩ | ⟨_, g, vs, rfl, _⟩
  · exact ⟨none, 0, rfl, rfl⟩
  · exact ⟨_, _, rfl, rfl⟩
def kV (k : Kd) (u : Value) : Value := .agg #[.int .i64 k.num, .string k.word, u, .int .i64 k.parts, fnB k.mean]
def noK : Value := .agg #[.int .i64 0, .string ⟨#[]⟩, .slice none 0 0, .int .i64 0, .nilFunc]
def fndV (u : Nat → Value) (pr : Nat → Bool) (v : Value) : Prop := ((∀ j < 8, pr j = false) ∧ v = .tuple #[noK, .bool false]) ∨ ∃ i : Nat, i < 8 ∧ pr i = true ∧ (∀ j < i, pr j = false) ∧ v = .tuple #[kV (kdG i) (u i), .bool true]
set_option maxRecDepth 20000 in
set_option maxHeartbeats 3200000 in
theorem dFind_any (h : Nat) (u : Nat → Value) (F : Nat) (cap : Array Value) (pr : Nat → Bool) (w : World) (ht : TabC h u w) (he : ∀ xs w, (callFunc F xs).run Tryz.prog w = .ok (.enter F xs) w)
    (hF : ∀ i, i < 8 → ∀ wx, Below w.heap.size w wx → Calls Tryz.prog F (#[.agg #[.int .i64 (kdG i).num, .string (kdG i).word, u i, .int .i64 (kdG i).parts, fnB (kdG i).mean]] ++ cap) wx fun e w' => e = .returned (.bool (pr i)) ∧ Below wx.heap.size wx w') :
    Calls Tryz.prog 54 #[.slice (some ⟨h, 0, none⟩) 8 8, .func (.func F) #[] cap] w fun e w' => ∃ v, e = .returned v ∧ fndV u pr v ∧ Below w.heap.size w w' := by
  have HT := hidD ht
  have HI := hidD (idxFunc_any h u F cap pr (w.alloc zeroK) (ht.below (al_bel _ _)) he (fun i hi wx hb => hF i hi wx ((al_bel w zeroK).trans (hb.mono (by simp)))))
  clear ht hF
  go_enter Tryz.func54, Tryz.ntmps54
  go_wp2_with fail
  refine HI.out.mono ?_
  rintro e w1 ⟨r, rfl, hr, hb⟩
  have hz : w1.heap[w.heap.size]? = some zeroK := al_new _ _ hb
  have HZ := hidD hz
  have HB := hidD ((al_bel w zeroK).trans (hb.mono (by simp)))
  obtain ⟨z0, z1, z2, z3, z4, zf⟩ := zk_of hz
  have y0 := zf 0
  have y1 := zf 1
  have y2 := zf 2
  have y3 := zf 3
  have y4 := zf 4
  clear hz hb zf HI he
  rcases hr with ⟨rfl, hn⟩ | ⟨i, hi, rfl, hp, hn⟩
  · have HN := hidD hn
    clear hn
    obtain ⟨w2, hw2⟩ : ∃ w2, put5K w1 w.heap.size (.int .i64 0) (.string ⟨#[]⟩) (.slice none 0 0) (.int .i64 0) .nilFunc = w2 := ⟨_, rfl⟩
    have hr := put5K_blk HZ.out (.int .i64 0) (.string ⟨#[]⟩) (.slice none 0 0) (.int .i64 0) .nilFunc
    have HB2 : Hid (Below w.heap.size w w2) := by show Below _ _ _; rw [← hw2]; exact HB.out.trans (put5K_bel _ _ _ _ _ (Nat.le_refl _))
    rw [hw2] at hr
    obtain ⟨q0, q1, q2, q3, q4⟩ := cellK_of hr
    unfold put5K at hw2
    go_wp2_with fail
    refine bodyPost_ret (v := .tuple #[noK, .bool false]) (by simp [results, Tryz.results54, go_sem, noK, *]) rfl ⟨_, rfl, Or.inl ⟨HN.out, rfl⟩, HB2.out⟩
  · have HN := hidD (And.intro hi (And.intro hp hn))
    obtain ⟨c0, c1, c2, c3, c4⟩ := (HT.out.below HB.out).cell i hi
    obtain ⟨p, m, hu, hm⟩ := (HT.out.slc i hi).shape
    clear hm
    have HU := hidD hu
    rw [hu] at c2
    unfold fnB at c4
    have i1 : (i : Int) < 8 := by omega
    have i2 : ¬ (i : Int) < 0 := by omega
    have i3 : (0 : Int) ≤ (i : Int) := by omega
    have hlt := (HT.out.below HB.out).lt
    have hne : h ≠ w.heap.size := Nat.ne_of_lt HT.out.lt
    clear hn hu
    obtain ⟨w2, hw2⟩ : ∃ w2, put5K w1 w.heap.size (.int .i64 (kdG i).num) (.string (kdG i).word) (.slice p m m) (.int .i64 (kdG i).parts) (.func (.func (kdG i).mean) #[] #[]) = w2 := ⟨_, rfl⟩
    have hr := put5K_blk HZ.out (.int .i64 (kdG i).num) (.string (kdG i).word) (.slice p m m) (.int .i64 (kdG i).parts) (.func (.func (kdG i).mean) #[] #[])
    have HB2 : Hid (Below w.heap.size w w2) := by show Below _ _ _; rw [← hw2]; exact HB.out.trans (put5K_bel _ _ _ _ _ (Nat.le_refl _))
    rw [hw2] at hr
    obtain ⟨q0, q1, q2, q3, q4⟩ := cellK_of hr
    unfold put5K at hw2
    go_wp2_with fail
    refine bodyPost_ret (v := .tuple #[kV (kdG i) (u i), .bool true]) (by simp [results, Tryz.results54, go_sem, kV, fnB, HU.out, *]) rfl ⟨_, rfl, Or.inr ⟨i, HN.out.1, HN.out.2.1, HN.out.2.2, rfl⟩, HB2.out⟩
end Go.Proofs.YtiiajhomdpfafaaGreatDoor
namespace Go.Proofs.YtiiajhomdpfafaaGreatDoor
open Go.RowKit

theorem cell1_of {w : World} {g : Nat} {v : Value} {t : TypeId} (h : w.heap[g]? = some (.cells #[v] t)) : w.cell? ⟨g, 0, none⟩ = some v := by
  simp only [World.cell?, h, Option.isSome_none, Bool.false_eq_true, if_false]; rfl
theorem al_two (w : World) (a b : Obj) : Below w.heap.size w ((w.alloc a).alloc b) := ((Below.refl _ _).alloc (Nat.le_refl _) _).alloc (by simp) _
set_option maxRecDepth 20000 in
theorem ofNumber1_any (k : Kd) (p : Option Addr) (m b : Nat) (n : Int) (w : World) (hb : w.heap[b]? = some (.cells #[.int .i64 n] 3)) :
    Calls Tryz.prog 55 #[.agg #[.int .i64 k.num, .string k.word, .slice p m m, .int .i64 k.parts, fnB k.mean], ptB b] w fun e w' => e = .returned (.bool (k.num == n)) ∧ Below w.heap.size w w' := by
  have c0 := cell1_of hb
  have hl := lt_of_blk hb
  have hne := Nat.ne_of_lt hl
  clear hb
  unfold fnB ptB
  go_enter Tryz.func55, Tryz.ntmps55
  go_wp2_with fail
  go_ret
  exact ⟨rfl, al_bel _ _⟩
set_option maxRecDepth 20000 in
set_option maxHeartbeats 3200000 in
theorem ofNumber_any (h : Nat) (u : Nat → Value) (n : Int) (w : World) (ht : TabC h u w) :
    Calls Tryz.prog 19 #[.slice (some ⟨h, 0, none⟩) 8 8, .int .i64 n] w fun e w' => ∃ v, e = .returned v ∧ fndV u (fun i => (kdG i).num == n) v ∧ Below w.heap.size w w' := by
  have hmf := make_fnD
  have hbx : ((w.alloc (.cells #[.int .i64 n] 3)).alloc zeroK).heap[w.heap.size]? = some (.cells #[.int .i64 n] 3) := by rw [al_at, sz_al, if_neg (by omega)]; exact heap_alloc_new _ _
  have HF := hidD (dFind_any h u 55 #[ptB w.heap.size] (fun i => (kdG i).num == n) ((w.alloc (.cells #[.int .i64 n] 3)).alloc zeroK) (ht.below (al_two _ _ _)) (fun xs w => enterD Tryz.func55 (by kernel_rfl) rfl xs w) (fun i hi wx hb => by
    obtain ⟨p, m, hu, _⟩ := (ht.slc i hi).shape
    rw [hu]
    exact ofNumber1_any (kdG i) p m w.heap.size n wx ((hb.block _ (by simp; omega)).trans hbx)))
  have HT := hidD ht
  clear ht hbx
  unfold ptB at HF
  go_enter Tryz.func19, Tryz.ntmps19
  go_wp2_with fail
  refine HF.out.mono ?_
  rintro e w1 ⟨v, rfl, hv, hb⟩
  have hz : w1.heap[w.heap.size + 1]? = some zeroK := by
    have := al_new _ _ hb
    rw [sz_al] at this
    exact this
  have HZ := hidD hz
  have HB := hidD ((al_two w _ _).trans (hb.mono (by simp; omega)))
  obtain ⟨z0, z1, z2, z3, z4, zf⟩ := zk_of hz
  have y0 := zf 0
  have y1 := zf 1
  have y2 := zf 2
  have y3 := zf 3
  have y4 := zf 4
  clear hz hb zf HF hmf
  rcases hv with ⟨hn, rfl⟩ | ⟨i, hi, hp, hn, rfl⟩
  · have HN := hidD hn
    clear hn
    obtain ⟨w2, hw2⟩ : ∃ w2, put5K w1 (w.heap.size + 1) (.int .i64 0) (.string ⟨#[]⟩) (.slice none 0 0) (.int .i64 0) .nilFunc = w2 := ⟨_, rfl⟩
    have hr := put5K_blk HZ.out (.int .i64 0) (.string ⟨#[]⟩) (.slice none 0 0) (.int .i64 0) .nilFunc
    have HB2 : Hid (Below w.heap.size w w2) := by show Below _ _ _; rw [← hw2]; exact HB.out.trans (put5K_bel _ _ _ _ _ (by omega))
    rw [hw2] at hr
    obtain ⟨q0, q1, q2, q3, q4⟩ := cellK_of hr
    unfold put5K at hw2
    unfold noK
    go_wp2_with fail
    refine bodyPost_ret (v := .tuple #[noK, .bool false]) (by simp [results, Tryz.results19, go_sem, noK, *]) rfl ⟨_, rfl, Or.inl ⟨HN.out, rfl⟩, HB2.out⟩
  · have HN := hidD (And.intro hi (And.intro hp hn))
    obtain ⟨p, m, hu, hm⟩ := (HT.out.slc i hi).shape
    clear hm
    have HU := hidD hu
    unfold kV fnB
    rw [hu]
    clear hn hu hp
    obtain ⟨w2, hw2⟩ : ∃ w2, put5K w1 (w.heap.size + 1) (.int .i64 (kdG i).num) (.string (kdG i).word) (.slice p m m) (.int .i64 (kdG i).parts) (.func (.func (kdG i).mean) #[] #[]) = w2 := ⟨_, rfl⟩
    have hr := put5K_blk HZ.out (.int .i64 (kdG i).num) (.string (kdG i).word) (.slice p m m) (.int .i64 (kdG i).parts) (.func (.func (kdG i).mean) #[] #[])
    have HB2 : Hid (Below w.heap.size w w2) := by show Below _ _ _; rw [← hw2]; exact HB.out.trans (put5K_bel _ _ _ _ _ (by omega))
    rw [hw2] at hr
    obtain ⟨q0, q1, q2, q3, q4⟩ := cellK_of hr
    unfold put5K at hw2
    go_wp2_with fail
    refine bodyPost_ret (v := .tuple #[kV (kdG i) (u i), .bool true]) (by simp [results, Tryz.results19, go_sem, kV, fnB, HU.out, *]) rfl ⟨_, rfl, Or.inr ⟨i, HN.out.1, HN.out.2.1, HN.out.2.2, rfl⟩, HB2.out⟩
set_option maxRecDepth 20000 in
theorem ofWord1_any (k : Kd) (p : Option Addr) (m b : Nat) (n : ByteArray) (w : World) (hb : w.heap[b]? = some (.cells #[.string n] 9)) :
    Calls Tryz.prog 139 #[.agg #[.int .i64 k.num, .string k.word, .slice p m m, .int .i64 k.parts, fnB k.mean], ptB b] w fun e w' => e = .returned (.bool (k.word.toList == n.toList)) ∧ Below w.heap.size w w' := by
  have c0 := cell1_of hb
  have hl := lt_of_blk hb
  have hne := Nat.ne_of_lt hl
  clear hb
  unfold fnB ptB
  go_enter Tryz.func139, Tryz.ntmps139
  go_wp2_with fail
  go_ret
  exact ⟨rfl, al_bel _ _⟩
set_option maxRecDepth 20000 in
set_option maxHeartbeats 3200000 in
theorem ofWord_any (h : Nat) (u : Nat → Value) (n : ByteArray) (w : World) (ht : TabC h u w) :
    Calls Tryz.prog 102 #[.slice (some ⟨h, 0, none⟩) 8 8, .string n] w fun e w' => ∃ v, e = .returned v ∧ fndV u (fun i => (kdG i).word.toList == n.toList) v ∧ Below w.heap.size w w' := by
  have hmf := make_fnD
  have hbx : ((w.alloc (.cells #[.string n] 9)).alloc zeroK).heap[w.heap.size]? = some (.cells #[.string n] 9) := by rw [al_at, sz_al, if_neg (by omega)]; exact heap_alloc_new _ _
  have HF := hidD (dFind_any h u 139 #[ptB w.heap.size] (fun i => (kdG i).word.toList == n.toList) ((w.alloc (.cells #[.string n] 9)).alloc zeroK) (ht.below (al_two _ _ _)) (fun xs w => enterD Tryz.func139 (by kernel_rfl) rfl xs w) (fun i hi wx hb => by
    obtain ⟨p, m, hu, _⟩ := (ht.slc i hi).shape
    rw [hu]
    exact ofWord1_any (kdG i) p m w.heap.size n wx ((hb.block _ (by simp; omega)).trans hbx)))
  have HT := hidD ht
  clear ht hbx
  unfold ptB at HF
  go_enter Tryz.func102, Tryz.ntmps102
  go_wp2_with fail
  refine HF.out.mono ?_
  rintro e w1 ⟨v, rfl, hv, hb⟩
  have hz : w1.heap[w.heap.size + 1]? = some zeroK := by
    have := al_new _ _ hb
    rw [sz_al] at this
    exact this
  have HZ := hidD hz
  have HB := hidD ((al_two w _ _).trans (hb.mono (by simp; omega)))
  obtain ⟨z0, z1, z2, z3, z4, zf⟩ := zk_of hz
  have y0 := zf 0
  have y1 := zf 1
  have y2 := zf 2
  have y3 := zf 3
  have y4 := zf 4
  clear hz hb zf HF hmf
  rcases hv with ⟨hn, rfl⟩ | ⟨i, hi, hp, hn, rfl⟩
  · have HN := hidD hn
    clear hn
    obtain ⟨w2, hw2⟩ : ∃ w2, put5K w1 (w.heap.size + 1) (.int .i64 0) (.string ⟨#[]⟩) (.slice none 0 0) (.int .i64 0) .nilFunc = w2 := ⟨_, rfl⟩
    have hr := put5K_blk HZ.out (.int .i64 0) (.string ⟨#[]⟩) (.slice none 0 0) (.int .i64 0) .nilFunc
    have HB2 : Hid (Below w.heap.size w w2) := by show Below _ _ _; rw [← hw2]; exact HB.out.trans (put5K_bel _ _ _ _ _ (by omega))
    rw [hw2] at hr
    obtain ⟨q0, q1, q2, q3, q4⟩ := cellK_of hr
    unfold put5K at hw2
    unfold noK
    go_wp2_with fail
    refine bodyPost_ret (v := .tuple #[noK, .bool false]) (by simp [results, Tryz.results102, go_sem, noK, *]) rfl ⟨_, rfl, Or.inl ⟨HN.out, rfl⟩, HB2.out⟩
  · have HN := hidD (And.intro hi (And.intro hp hn))
    obtain ⟨p, m, hu, hm⟩ := (HT.out.slc i hi).shape
    clear hm
    have HU := hidD hu
    unfold kV fnB
    rw [hu]
    clear hn hu hp
    obtain ⟨w2, hw2⟩ : ∃ w2, put5K w1 (w.heap.size + 1) (.int .i64 (kdG i).num) (.string (kdG i).word) (.slice p m m) (.int .i64 (kdG i).parts) (.func (.func (kdG i).mean) #[] #[]) = w2 := ⟨_, rfl⟩
    have hr := put5K_blk HZ.out (.int .i64 (kdG i).num) (.string (kdG i).word) (.slice p m m) (.int .i64 (kdG i).parts) (.func (.func (kdG i).mean) #[] #[])
    have HB2 : Hid (Below w.heap.size w w2) := by show Below _ _ _; rw [← hw2]; exact HB.out.trans (put5K_bel _ _ _ _ _ (by omega))
    rw [hw2] at hr
    obtain ⟨q0, q1, q2, q3, q4⟩ := cellK_of hr
    unfold put5K at hw2
    go_wp2_with fail
    refine bodyPost_ret (v := .tuple #[kV (kdG i) (u i), .bool true]) (by simp [results, Tryz.results102, go_sem, kV, fnB, HU.out, *]) rfl ⟨_, rfl, Or.inr ⟨i, HN.out.1, HN.out.2.1, HN.out.2.2, rfl⟩, HB2.out⟩
end Go.Proofs.YtiiajhomdpfafaaGreatDoor
