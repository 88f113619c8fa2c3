/- Package deal: the texts of a tree's terms, in plain words, and how long they are. Package deal: Print of any tree. -/
import Derived.Test.YtiiajhomdpfafaaGreatDoorHbp
import Derived.Test.YtiiajhomdpfafaaGreatDoorHbd
import Derived.Test.YtiiajhomdpfafaaGreatDoorHbm
import Derived.Test.YtiiajhomdpfafaaGreatDoorDPrint
namespace Go.Proofs.YtiiajhomdpfafaaGreatDoor

def spB : ByteArray := ⟨#[32]⟩
theorem jnT_one (x : ByteArray) : jnT [x] = x := by
  unfold jnT
  rw [List.map_cons, List.map_nil, Lib.join_one]
theorem jnT_snoc (a : ByteArray) (l : List ByteArray) (x : ByteArray) : jnT ((a :: l) ++ [x]) = jnT (a :: l) ++ spB ++ x := by
  have e : Lib.join (((a :: l) ++ [x]).map (·.data.toList)) [32] = Lib.join ((a :: l).map (·.data.toList)) [32] ++ [32] ++ x.data.toList := by
    rw [List.cons_append, List.map_cons, Lib.join_cons, List.map_cons, Lib.join_cons, List.map_append]
    simp [Lib.joinTail, List.append_assoc]
  unfold jnT
  rw [e]
  have hx : x = bsA x.data.toList := by cases x; simp [bsA]
  conv => rhs; rw [hx]
  show bsA _ = bsA _ ++ bsA [32] ++ bsA _
  rw [bs_app, bs_app]
theorem jnT_size (a : ByteArray) (l : List ByteArray) (x : ByteArray) : (jnT ((a :: l) ++ [x])).size = (jnT (a :: l)).size + 1 + x.size := by
  rw [jnT_snoc, ByteArray.size_append, ByteArray.size_append]; rfl
theorem jnT_len (l : List ByteArray) : (Lib.join (l.map (·.data.toList)) [32]).length = (jnT l).size := by
  show _ = (bsA _).size
  simp [bsA, ByteArray.size]
def hxB17 (u : Nat) : ByteArray := bsA (hexS u)
def itB17 (n : Int) : ByteArray := ⟨(Lib.decDigits n.toNat).toArray⟩
def cnL17 : List ByteArray := [⟨#[97, 99, 116, 51, 54, 48]⟩, ⟨#[97, 99, 116, 51, 54, 53]⟩, ⟨#[97, 99, 116, 97, 99, 116]⟩, ⟨#[98, 111, 110, 100]⟩, ⟨#[101, 117, 114, 111]⟩]
def cnB17 (n : Int) : ByteArray := cnL17.getD (n - 1).toNat ⟨#[]⟩
def DyOk (dy : Int → ByteArray) : Prop := ∀ n, 0 ≤ n → n ≤ 109572 → ∃ y m d : Nat, IsD n y m d ∧ dy n = dateT y m d
theorem dy_ex : ∃ dy, DyOk dy := by
  classical
  refine ⟨fun n => if h : ∃ s, ∃ y m d : Nat, IsD n y m d ∧ s = dateT y m d then h.choose else ⟨#[]⟩, fun n h0 h1 => ?_⟩
  obtain ⟨y, m, d, h⟩ := isD_ex h0 h1
  have hx : ∃ s, ∃ y m d : Nat, IsD n y m d ∧ s = dateT y m d := by
    obtain ⟨y1, y2, m1, m2, d1, d2⟩ := h.1
    refine ⟨_, y.toNat, m.toNat, d.toNat, ?_, rfl⟩
    rw [Int.toNat_of_nonneg (by omega), Int.toNat_of_nonneg (by omega), Int.toNat_of_nonneg (by omega)]
    exact h
  dsimp only
  rw [dif_pos hx]
  exact hx.choose_spec
def ssG (dy : Int → ByteArray) (t : Trm) : List ByteArray :=
  if t.kind = 2 then [hxB17 t.x, itB17 t.cur, dy t.day]
  else if t.kind = 3 then [hxB17 t.x, hxB17 t.y, cnB17 t.count, dy t.day, dy t.to, itB17 t.n, itB17 t.cur]
  else if t.kind = 6 then [hxB17 t.x]
  else if t.kind = 7 then [dy t.day, dy t.to]
  else if t.kind = 8 then [itB17 t.n, itB17 t.months]
  else []
def wdK (k : Int) : ByteArray := (kdG (k - 1).toNat).word
def WLs (dy : Int → ByteArray) (ts : List Trm) : Nat → List ByteArray
  | 0 => []
  | k + 1 => WLs dy ts k ++ [jnT (wdK (ts.getD k trm0).kind :: ssG dy (ts.getD k trm0) ++ ptT (fun j => (WLs dy ts k).getD j ⟨#[]⟩) (ts.getD k trm0) (ptN (ts.getD k trm0).kind))]
def WT (dy : Int → ByteArray) (ts : List Trm) (k : Nat) : ByteArray := (WLs dy ts (k + 1)).getD k ⟨#[]⟩
theorem WLs_len (dy : Int → ByteArray) (ts : List Trm) : ∀ k, (WLs dy ts k).length = k
  | 0 => rfl
  | k + 1 => by rw [WLs, List.length_append, WLs_len dy ts k]; rfl
theorem WLs_get (dy : Int → ByteArray) (ts : List Trm) {j : Nat} : ∀ {k : Nat}, j < k → (WLs dy ts k).getD j ⟨#[]⟩ = WT dy ts j
  | k + 1, h => by
    by_cases e : j = k
    · subst e; rfl
    · have := WLs_get dy ts (j := j) (k := k) (by omega)
      rw [← this, WLs, List.getD_eq_getElem?_getD, List.getElem?_append_left (by rw [WLs_len]; omega), ← List.getD_eq_getElem?_getD]
theorem WT_eq (dy : Int → ByteArray) (ts : List Trm) (k : Nat) (h : ∀ q < ptN (ts.getD k trm0).kind, 0 ≤ prt (ts.getD k trm0) q ∧ prt (ts.getD k trm0) q < (k : Int)) :
    WT dy ts k = jnT (wdK (ts.getD k trm0).kind :: ssG dy (ts.getD k trm0) ++ ptT (WT dy ts) (ts.getD k trm0) (ptN (ts.getD k trm0).kind)) := by
  have e : ptT (fun j => (WLs dy ts k).getD j ⟨#[]⟩) (ts.getD k trm0) (ptN (ts.getD k trm0).kind) = ptT (WT dy ts) (ts.getD k trm0) (ptN (ts.getD k trm0).kind) := by
    unfold ptT
    refine List.map_congr_left fun q hq => ?_
    obtain ⟨h0, h1⟩ := h q (List.mem_range.1 hq)
    exact WLs_get dy ts (by omega)
  rw [← e]
  unfold WT
  rw [WLs, List.getD_eq_getElem?_getD, List.getElem?_append_right (by rw [WLs_len]; exact Nat.le_refl _), WLs_len, Nat.sub_self]
  rfl
theorem jnT_sizeL (a : ByteArray) (l : List ByteArray) : (jnT (a :: l)).size = a.size + (l.map fun x => x.size + 1).sum := by
  rw [← jnT_len, List.map_cons, Lib.join_cons, List.length_append]
  have e : ∀ l : List ByteArray, (Lib.joinTail [32] (l.map (·.data.toList))).length = (l.map fun x => x.size + 1).sum := fun l => by
    induction l with
    | nil => rfl
    | cons x l ih =>
      have e1 : Lib.joinTail [32] ((x :: l).map (·.data.toList)) = ([32] ++ x.data.toList) ++ Lib.joinTail [32] (l.map (·.data.toList)) := by simp [Lib.joinTail]
      rw [e1, List.length_append, ih, List.map_cons, List.sum_cons]
      congr 1
  rw [e]
  rfl
theorem hexS_len (u : Nat) (h : splOk (u : Int) = true) : (hexS u).length ≤ 400 := by
  have hz : szI (u : Int) < 9218868437227405312 := of_decide_eq_true h
  have hlo := szI_lo (u : Int)
  by_cases h0 : szI (u : Int) = 0
  · unfold hexS
    rw [if_pos h0]
    split <;> simp
  · obtain ⟨m, hm⟩ : ∃ m, (magI (szI (u : Int))).toNat = m := ⟨_, rfl⟩
    have hmI : magI (szI (u : Int)) = (m : Int) ∧ 0 < m ∧ m < 9007199254740992 := by
      rw [← hm]; unfold magI; split <;> omega
    obtain ⟨E, hE⟩ : ∃ E, splE (u : Int) = E := ⟨_, rfl⟩
    have hEb : -1074 ≤ E ∧ E ≤ 971 := by
      rw [← hE]; unfold splE plcI; rw [h]; simp only [h0, ne_eq, not_false_eq_true, decide_true, Bool.and_true, if_true]; split <;> omega
    obtain ⟨r1, r2, r3⟩ := up_range hmI.2.1 hmI.2.2
    have hql := hexQ_len (trimH (m * 2 ^ upK m)) (E - upK m + 52) (trimH_len _) (by omega) (by omega)
    unfold hexS
    rw [if_neg h0, hm, hE]
    split <;> simp <;> omega
theorem fld2 {t : Trm} (h : fldB t = true) (hk : t.kind = 2) : finB t.x = true ∧ (1 ≤ t.cur ∧ t.cur ≤ 8) ∧ 0 ≤ t.day ∧ t.day ≤ 109572 := by
  unfold fldB at h
  rw [if_neg (by omega), if_pos hk] at h
  simp only [Bool.and_eq_true, decide_eq_true_eq] at h
  exact ⟨h.1.1.2, h.1.2, h.2⟩
theorem fld3 {t : Trm} (h : fldB t = true) (hk : t.kind = 3) : finB t.x = true ∧ finB t.y = true ∧ (1 ≤ t.count ∧ t.count ≤ 5) ∧ (0 ≤ t.day ∧ t.day ≤ 109572) ∧ (0 ≤ t.to ∧ t.to ≤ 109572) ∧ (1 ≤ t.n ∧ t.n ≤ 1200) ∧ 1 ≤ t.cur ∧ t.cur ≤ 8 := by
  unfold fldB at h
  rw [if_neg (by omega), if_neg (by omega), if_pos hk] at h
  simp only [Bool.and_eq_true, decide_eq_true_eq] at h
  obtain ⟨⟨⟨⟨⟨⟨⟨⟨_, h1⟩, h2⟩, h3⟩, h4⟩, h5⟩, _⟩, h6⟩, h7⟩ := h
  exact ⟨h1, h2, h3, h4, h5, h6, h7⟩
theorem fld6 {t : Trm} (h : fldB t = true) (hk : t.kind = 6) : finB t.x = true := by
  unfold fldB at h
  rw [if_neg (by omega), if_neg (by omega), if_neg (by omega), if_neg (by omega), if_neg (by omega), if_pos hk] at h
  simp only [Bool.and_eq_true] at h
  exact h.2
theorem fld7 {t : Trm} (h : fldB t = true) (hk : t.kind = 7) : (0 ≤ t.day ∧ t.day ≤ 109572) ∧ 0 ≤ t.to ∧ t.to ≤ 109572 := by
  unfold fldB at h
  rw [if_neg (by omega), if_neg (by omega), if_neg (by omega), if_neg (by omega), if_neg (by omega), if_neg (by omega), if_pos hk] at h
  simp only [Bool.and_eq_true, decide_eq_true_eq] at h
  exact ⟨h.1.2, h.2⟩
theorem fld8 {t : Trm} (h : fldB t = true) (hk : t.kind = 8) : (1 ≤ t.n ∧ t.n ≤ 4096) ∧ 1 ≤ t.months ∧ t.months ≤ 1200 := by
  unfold fldB at h
  rw [if_neg (by omega), if_neg (by omega), if_neg (by omega), if_neg (by omega), if_neg (by omega), if_neg (by omega), if_neg (by omega), if_pos hk] at h
  simp only [Bool.and_eq_true, decide_eq_true_eq] at h
  exact ⟨h.1.2, h.2⟩
theorem fld_rng {t : Trm} (h : fldB t = true) : 1 ≤ t.kind ∧ t.kind ≤ 8 := by
  by_cases hk : 1 ≤ t.kind ∧ t.kind ≤ 8
  · exact hk
  · unfold fldB at h
    rw [if_neg (by omega), if_neg (by omega), if_neg (by omega), if_neg (by omega), if_neg (by omega), if_neg (by omega), if_neg (by omega), if_neg (by omega)] at h
    cases h
theorem hx_size {u : Nat} (h : finB (u : Int) = true) : (hxB17 u).size ≤ 400 := by
  unfold hxB17
  rw [bs_size]
  exact hexS_len u h
theorem it_size {n : Int} (h0 : 0 ≤ n) (h1 : n ≤ 5000) : (itB17 n).size ≤ 4 := by
  show (bsA _).size ≤ 4
  rw [bs_size]
  exact dec_len 3 n.toNat (by omega)
theorem cn_size (n : Int) : (cnB17 n).size ≤ 6 := by
  unfold cnB17
  rcases (show (n - 1).toNat = 0 ∨ (n - 1).toNat = 1 ∨ (n - 1).toNat = 2 ∨ (n - 1).toNat = 3 ∨ (n - 1).toNat = 4 ∨ 5 ≤ (n - 1).toNat by omega) with h | h | h | h | h | h
  · rw [h]; decide
  · rw [h]; decide
  · rw [h]; decide
  · rw [h]; decide
  · rw [h]; decide
  · rw [List.getD_eq_getElem?_getD, List.getElem?_eq_none (by simpa [cnL17] using h)]; decide
theorem wd_size (k : Int) : (wdK k).size ≤ 6 := by
  unfold wdK kdG
  rcases (show (k - 1).toNat = 0 ∨ (k - 1).toNat = 1 ∨ (k - 1).toNat = 2 ∨ (k - 1).toNat = 3 ∨ (k - 1).toNat = 4 ∨ (k - 1).toNat = 5 ∨ (k - 1).toNat = 6 ∨ (k - 1).toNat = 7 ∨ 8 ≤ (k - 1).toNat by omega) with h | h | h | h | h | h | h | h | h
  · rw [h]; decide
  · rw [h]; decide
  · rw [h]; decide
  · rw [h]; decide
  · rw [h]; decide
  · rw [h]; decide
  · rw [h]; decide
  · rw [h]; decide
  · rw [List.getD_eq_getElem?_getD, List.getElem?_eq_none (by simpa [kdL] using h)]; decide
theorem dateT_size (y m d : Nat) : (dateT y m d).size = 10 := by
  unfold dateT
  simp only [ByteArray.size_append]; rfl
theorem dy_size {dy : Int → ByteArray} (hd : DyOk dy) {n : Int} (h0 : 0 ≤ n) (h1 : n ≤ 109572) : (dy n).size = 10 := by
  obtain ⟨y, m, d, _, e⟩ := hd n h0 h1
  rw [e, dateT_size]
theorem own_size {dy : Int → ByteArray} (hd : DyOk dy) (t : Trm) (hf : fldB t = true) : (jnT (wdK t.kind :: ssG dy t)).size ≤ 1000 := by
  have hw := wd_size t.kind
  obtain ⟨k1, k2⟩ := fld_rng hf
  rw [jnT_sizeL]
  unfold ssG
  by_cases e2 : t.kind = 2
  · obtain ⟨hx, hc, hdy⟩ := fld2 hf e2
    have := hx_size hx
    have := it_size (n := t.cur) (by omega) (by omega)
    have := dy_size hd hdy.1 hdy.2
    rw [if_pos e2]
    simp; omega
  rw [if_neg e2]
  by_cases e3 : t.kind = 3
  · obtain ⟨hx, hy, hc, h4, h5, h6, h7⟩ := fld3 hf e3
    have := hx_size hx
    have := hx_size hy
    have := cn_size t.count
    have := it_size (n := t.cur) (by omega) (by omega)
    have := it_size (n := t.n) (by omega) (by omega)
    have := dy_size hd h4.1 h4.2
    have := dy_size hd h5.1 h5.2
    rw [if_pos e3]
    simp; omega
  rw [if_neg e3]
  by_cases e6 : t.kind = 6
  · have := hx_size (fld6 hf e6)
    rw [if_pos e6]
    simp; omega
  rw [if_neg e6]
  by_cases e7 : t.kind = 7
  · obtain ⟨h4, h5⟩ := fld7 hf e7
    have := dy_size hd h4.1 h4.2
    have := dy_size hd h5.1 h5.2
    rw [if_pos e7]
    simp; omega
  rw [if_neg e7]
  by_cases e8 : t.kind = 8
  · obtain ⟨h4, h5⟩ := fld8 hf e8
    have := it_size (n := t.n) (by omega) (by omega)
    have := it_size (n := t.months) (by omega) (by omega)
    rw [if_pos e8]
    simp; omega
  rw [if_neg e8]
  simp; omega
theorem st_step {xs ys : List (Int × Int)} {k : Nat} {t : Trm} (h : stT xs k t = some ys) : fitT t = true ∧
    ((ptN t.kind = 0 ∧ ∃ d, ys = xs ++ [((k : Int), d)]) ∨ (ptN t.kind = 1 ∧ ∃ zs x d, xs = zs ++ [x] ∧ x.1 = t.a ∧ ys = zs ++ [((k : Int), d)]) ∨ (ptN t.kind = 2 ∧ ∃ zs x y d, xs = zs ++ [x, y] ∧ x.1 = t.a ∧ y.1 = t.b ∧ ys = zs ++ [((k : Int), d)])) := by
  unfold stT at h
  split at h
  · rename_i hf
    refine ⟨hf, ?_⟩
    have h2 := pt_le t.kind
    unfold jnL at h
    split at h
    · rename_i h0
      injection h with h
      exact .inl ⟨h0, _, h.symm⟩
    · split at h
      · rename_i h1
        split at h
        · cases h
        · rename_i hl
          split at h
          · rename_i he
            injection h with h
            obtain ⟨zs, x, rfl⟩ : ∃ zs x, xs = zs ++ [x] := ⟨xs.dropLast, xs.getLast (by intro e; rw [e] at hl; simp at hl), (List.dropLast_concat_getLast _).symm⟩
            refine .inr (.inl ⟨h1, zs, x, max 0 ((zs ++ [x]).getD ((zs ++ [x]).length - 1) (0, 0)).2 + 1, rfl, ?_, ?_⟩)
            · simpa using he
            · rw [← h]; simp
          · cases h
      · rename_i h0 h1
        split at h
        · cases h
        · rename_i hl
          split at h
          · rename_i he
            injection h with h
            obtain ⟨us, y, rfl⟩ : ∃ zs x, xs = zs ++ [x] := ⟨xs.dropLast, xs.getLast (by intro e; rw [e] at hl; simp at hl), (List.dropLast_concat_getLast _).symm⟩
            obtain ⟨zs, x, rfl⟩ : ∃ zs x, us = zs ++ [x] := ⟨us.dropLast, us.getLast (by intro e; rw [e] at hl; simp at hl), (List.dropLast_concat_getLast _).symm⟩
            refine .inr (.inr ⟨by omega, zs, x, y, max (max 0 ((zs ++ [x] ++ [y]).getD ((zs ++ [x] ++ [y]).length - 2) (0, 0)).2) ((zs ++ [x] ++ [y]).getD ((zs ++ [x] ++ [y]).length - 1) (0, 0)).2 + 1, by simp, ?_, ?_, ?_⟩)
            · have := he.1; simpa using this
            · have := he.2; simpa using this
            · rw [← h]; simp
          · cases h
  · cases h
def stS (W : Nat → ByteArray) (xs : List (Int × Int)) : Nat := (xs.map fun x => (W x.1.toNat).size + 1).sum
theorem stS_app (W : Nat → ByteArray) (xs ys : List (Int × Int)) : stS W (xs ++ ys) = stS W xs + stS W ys := by
  unfold stS; rw [List.map_append, List.sum_append]
structure TxO (dy : Int → ByteArray) (ts : List Trm) (k : Nat) : Prop where
  fit : fitT (ts.getD k trm0) = true
  pt : ∀ q < ptN (ts.getD k trm0).kind, 0 ≤ prt (ts.getD k trm0) q ∧ prt (ts.getD k trm0) q < (k : Int)
  sz : (WT dy ts k).size ≤ 1001 * (k + 1)
theorem stk_ok {dy : Int → ByteArray} (hd : DyOk dy) (ts : List Trm) (n : Nat) : ∀ k ≤ n, ∀ xs, mS ts k = some xs → stS (WT dy ts) xs ≤ 1001 * k ∧ (∀ x ∈ xs, 0 ≤ x.1 ∧ x.1 < (k : Int)) ∧ ∀ j < k, TxO dy ts j := by
  intro k
  induction k with
  | zero =>
    intro _ xs h
    injection h with h
    subst h
    exact ⟨Nat.zero_le _, (fun x hx => absurd hx List.not_mem_nil), fun j hj => absurd hj (Nat.not_lt_zero _)⟩
  | succ k ih =>
    intro hk ys h
    rw [mS] at h
    cases hx : mS ts k with
    | none => rw [hx] at h; cases h
    | some xs =>
      rw [hx] at h
      obtain ⟨g1, g2, g3⟩ := ih (by omega) xs hx
      obtain ⟨hf, hc⟩ := st_step (show stT xs k (ts.getD k trm0) = some ys from h)
      have hfl : fldB (ts.getD k trm0) = true := by unfold fitT at hf; simp only [Bool.and_eq_true] at hf; exact hf.1
      have ho := own_size hd (ts.getD k trm0) hfl
      have hW := WT_eq dy ts k
      have hone : stS (WT dy ts) [((k : Int), 0)] = (WT dy ts k).size + 1 := by simp [stS]
      have hon : ∀ d, stS (WT dy ts) [((k : Int), d)] = (WT dy ts k).size + 1 := fun d => by simp [stS]
      rcases hc with ⟨hp, d, rfl⟩ | ⟨hp, zs, x, d, rfl, hxa, rfl⟩ | ⟨hp, zs, x, y, d, rfl, hxa, hyb, rfl⟩
      · have hpt : ∀ q < ptN (ts.getD k trm0).kind, 0 ≤ prt (ts.getD k trm0) q ∧ prt (ts.getD k trm0) q < (k : Int) := fun q hq => by omega
        have hsz : (WT dy ts k).size ≤ 1000 := by
          rw [hW hpt, hp]
          have : ptT (WT dy ts) (ts.getD k trm0) 0 = [] := rfl
          rw [this, List.append_nil]; exact ho
        refine ⟨?_, fun z hz => ?_, fun j hj => ?_⟩
        · rw [stS_app, hon]; omega
        · rcases List.mem_append.1 hz with hz | hz
          · have := g2 z hz; omega
          · simp only [List.mem_singleton] at hz
            subst hz
            exact ⟨by dsimp only; omega, by dsimp only; omega⟩
        · by_cases e : j = k
          · subst e; exact ⟨hf, hpt, by omega⟩
          · exact g3 j (by omega)
      · have hxr := g2 x (by simp)
        have hpt : ∀ q < ptN (ts.getD k trm0).kind, 0 ≤ prt (ts.getD k trm0) q ∧ prt (ts.getD k trm0) q < (k : Int) := fun q hq => by
          obtain rfl : q = 0 := by omega
          show 0 ≤ (ts.getD k trm0).a ∧ (ts.getD k trm0).a < (k : Int)
          rw [← hxa]; exact hxr
        have hsz : (WT dy ts k).size ≤ 1000 + 1 + (WT dy ts x.1.toNat).size := by
          rw [hW hpt, hp]
          have e1 : ptT (WT dy ts) (ts.getD k trm0) 1 = [WT dy ts (ts.getD k trm0).a.toNat] := rfl
          rw [e1, jnT_size, ← hxa]; omega
        rw [stS_app] at g1
        have gx : stS (WT dy ts) [x] = (WT dy ts x.1.toNat).size + 1 := by simp [stS]
        rw [gx] at g1
        refine ⟨?_, fun z hz => ?_, fun j hj => ?_⟩
        · rw [stS_app, hon]; omega
        · rcases List.mem_append.1 hz with hz | hz
          · have := g2 z (List.mem_append_left _ hz); omega
          · simp only [List.mem_singleton] at hz
            subst hz
            exact ⟨by dsimp only; omega, by dsimp only; omega⟩
        · by_cases e : j = k
          · subst e; exact ⟨hf, hpt, by omega⟩
          · exact g3 j (by omega)
      · have hxr := g2 x (by simp)
        have hyr := g2 y (by simp)
        have hpt : ∀ q < ptN (ts.getD k trm0).kind, 0 ≤ prt (ts.getD k trm0) q ∧ prt (ts.getD k trm0) q < (k : Int) := fun q hq => by
          rcases (show q = 0 ∨ q = 1 by omega) with rfl | rfl
          · show 0 ≤ (ts.getD k trm0).a ∧ (ts.getD k trm0).a < (k : Int)
            rw [← hxa]; exact hxr
          · show 0 ≤ (ts.getD k trm0).b ∧ (ts.getD k trm0).b < (k : Int)
            rw [← hyb]; exact hyr
        have hsz : (WT dy ts k).size ≤ 1000 + 1 + (WT dy ts x.1.toNat).size + 1 + (WT dy ts y.1.toNat).size := by
          rw [hW hpt, hp]
          have e1 : wdK (ts.getD k trm0).kind :: ssG dy (ts.getD k trm0) ++ ptT (WT dy ts) (ts.getD k trm0) 2 = (wdK (ts.getD k trm0).kind :: (ssG dy (ts.getD k trm0) ++ [WT dy ts (ts.getD k trm0).a.toNat])) ++ [WT dy ts (ts.getD k trm0).b.toNat] := by
            have e0 : ptT (WT dy ts) (ts.getD k trm0) 2 = [WT dy ts (ts.getD k trm0).a.toNat, WT dy ts (ts.getD k trm0).b.toNat] := rfl
            rw [e0]; simp
          rw [e1, jnT_size, ← List.cons_append, jnT_size, ← hxa, ← hyb]; omega
        rw [stS_app] at g1
        have gx : stS (WT dy ts) [x, y] = (WT dy ts x.1.toNat).size + 1 + ((WT dy ts y.1.toNat).size + 1) := by simp [stS]
        rw [gx] at g1
        refine ⟨?_, fun z hz => ?_, fun j hj => ?_⟩
        · rw [stS_app, hon]; omega
        · rcases List.mem_append.1 hz with hz | hz
          · have := g2 z (List.mem_append_left _ hz); omega
          · simp only [List.mem_singleton] at hz
            subst hz
            exact ⟨by dsimp only; omega, by dsimp only; omega⟩
        · by_cases e : j = k
          · subst e; exact ⟨hf, hpt, by omega⟩
          · exact g3 j (by omega)
end Go.Proofs.YtiiajhomdpfafaaGreatDoor
namespace Go.Proofs.YtiiajhomdpfafaaGreatDoor
open Go.RowKit

def cntsV : Array Value := #[.string ⟨#[97, 99, 116, 51, 54, 48]⟩, .string ⟨#[97, 99, 116, 51, 54, 53]⟩, .string ⟨#[97, 99, 116, 97, 99, 116]⟩, .string ⟨#[98, 111, 110, 100]⟩, .string ⟨#[101, 117, 114, 111]⟩]
set_option maxRecDepth 20000 in
theorem counts_any (w : World) : Calls Tryz.prog 118 #[] w fun e w' => e = .returned (.slice (some ⟨w.heap.size, 0, none⟩) 5 5) ∧ w' = w.alloc (.cells cntsV 9) := by
  go_enter Tryz.func118, Tryz.ntmps118
  go_wp2_with fail
  go_ret
  exact ⟨rfl, rfl⟩
theorem cnts_cell (w : World) {n : Int} (h0 : 1 ≤ n) (h1 : n ≤ 5) : ∃ j : Nat, n - 1 = (j : Int) ∧ j < 5 ∧ (w.alloc (.cells cntsV 9)).cell? ⟨w.heap.size, j, none⟩ = some (.string (cnB17 n)) := by
  rcases (show n = 1 ∨ n = 2 ∨ n = 3 ∨ n = 4 ∨ n = 5 by omega) with rfl | rfl | rfl | rfl | rfl
  · exact ⟨0, by decide, by decide, (box_cell w _ _ 0).trans rfl⟩
  · exact ⟨1, by decide, by decide, (box_cell w _ _ 1).trans rfl⟩
  · exact ⟨2, by decide, by decide, (box_cell w _ _ 2).trans rfl⟩
  · exact ⟨3, by decide, by decide, (box_cell w _ _ 3).trans rfl⟩
  · exact ⟨4, by decide, by decide, (box_cell w _ _ 4).trans rfl⟩
set_option maxRecDepth 20000 in
theorem wcount_any (n : Int) (w : World) (h0 : 1 ≤ n) (h1 : n ≤ 5) : Calls Tryz.prog 79 #[.int .i64 n] w fun e w' => e = .returned (.string (cnB17 n)) ∧ Below w.heap.size w w' := by
  obtain ⟨j, hj, hj5, hc⟩ := cnts_cell w h0 h1
  have HW := hidD (al_bel w (.cells cntsV 9))
  have i1 : (0 : Int) ≤ (j : Int) := by omega
  have i2 : (j : Int) < 5 := by omega
  clear h0 h1 hj5
  generalize cnB17 n = s at *
  generalize hw : w.alloc (.cells cntsV 9) = w1 at *
  have HC := hidD hc
  have HWe := hidD hw
  clear hw hc
  go_enter Tryz.func79, Tryz.ntmps79
  go_wp2_with fail
  refine (counts_any w).mono ?_
  rintro e w2 ⟨rfl, hw2⟩
  rw [HWe.out] at hw2
  subst hw2
  have c0 := HC.out
  clear HC HWe
  go_wp2_with fail
  go_ret
  exact ⟨rfl, HW.out⟩
theorem itoC_any {n : Int} (h0 : 0 ≤ n) (h1 : n < 100000) {w : World} (h : Aw17 w) : WrC 83 n (itB17 n) w := by
  obtain ⟨m, rfl⟩ : ∃ m : Nat, n = (m : Int) := ⟨n.toNat, by omega⟩
  exact itoC17 (by omega) h
theorem dyC_any {dy : Int → ByteArray} (hd : DyOk dy) {n : Int} (h0 : 0 ≤ n) (h1 : n ≤ 109572) {w : World} (h : Aw17 w) : WrC 81 n (dy n) w := by
  obtain ⟨y, m, d, hI, e⟩ := hd n h0 h1
  rw [e]
  exact dayC17 hI h
theorem cnC_any {n : Int} (h0 : 1 ≤ n) (h1 : n ≤ 5) {w : World} : WrC 79 n (cnB17 n) w :=
  ⟨fun xs w => enterD Tryz.func79 (by kernel_rfl) rfl xs w, fun wx _ => wcount_any n wx h0 h1⟩
theorem wr_fields {dy : Int → ByteArray} (hd : DyOk dy) {t : Trm} {x : Nat} (h8 : x < 8) (hk : t.kind = (x : Int) + 1) (hu : TrU t) (hf : fldB t = true) {w : World} (h : Aw17 w) :
    (ssG dy t).length = (kdG x).ds.length ∧ ∀ j (hj : j < (kdG x).ds.length), WrD (kdG x).ds[j] ((psG x).getD j 0) t ((ssG dy t).getD j ⟨#[]⟩) w := by
  rcases (show x = 0 ∨ x = 1 ∨ x = 2 ∨ x = 3 ∨ x = 4 ∨ x = 5 ∨ x = 6 ∨ x = 7 by omega) with rfl | rfl | rfl | rfl | rfl | rfl | rfl | rfl
  · have e : ssG dy t = [] := by unfold ssG; rw [if_neg (by omega), if_neg (by omega), if_neg (by omega), if_neg (by omega), if_neg (by omega)]
    rw [e]
    exact ⟨rfl, fun j hj => absurd (show j < 0 from hj) (by omega)⟩
  · have e : ssG dy t = [hxB17 t.x, itB17 t.cur, dy t.day] := by unfold ssG; rw [if_pos (by omega)]
    obtain ⟨hx, hc, hdy⟩ := fld2 hf (by omega)
    rw [e]
    refine ⟨rfl, fun j hj => ?_⟩
    match j, hj with
    | 0, _ => exact hexC17 hu.x hx h
    | 1, _ => exact itoC_any (n := t.cur) (by omega) (by omega) h
    | 2, _ => exact dyC_any hd hdy.1 hdy.2 h
  · have e : ssG dy t = [hxB17 t.x, hxB17 t.y, cnB17 t.count, dy t.day, dy t.to, itB17 t.n, itB17 t.cur] := by unfold ssG; rw [if_neg (by omega), if_pos (by omega)]
    obtain ⟨hx, hy, hc, h4, h5, h6, h7⟩ := fld3 hf (by omega)
    rw [e]
    refine ⟨rfl, fun j hj => ?_⟩
    match j, hj with
    | 0, _ => exact hexC17 hu.x hx h
    | 1, _ => exact hexC17 hu.y hy h
    | 2, _ => exact cnC_any hc.1 hc.2
    | 3, _ => exact dyC_any hd h4.1 h4.2 h
    | 4, _ => exact dyC_any hd h5.1 h5.2 h
    | 5, _ => exact itoC_any (n := t.n) (by omega) (by omega) h
    | 6, _ => exact itoC_any (n := t.cur) (by omega) (by omega) h
  · have e : ssG dy t = [] := by unfold ssG; rw [if_neg (by omega), if_neg (by omega), if_neg (by omega), if_neg (by omega), if_neg (by omega)]
    rw [e]
    exact ⟨rfl, fun j hj => absurd (show j < 0 from hj) (by omega)⟩
  · have e : ssG dy t = [] := by unfold ssG; rw [if_neg (by omega), if_neg (by omega), if_neg (by omega), if_neg (by omega), if_neg (by omega)]
    rw [e]
    exact ⟨rfl, fun j hj => absurd (show j < 0 from hj) (by omega)⟩
  · have e : ssG dy t = [hxB17 t.x] := by unfold ssG; rw [if_neg (by omega), if_neg (by omega), if_pos (by omega)]
    have hx := fld6 hf (by omega)
    rw [e]
    refine ⟨rfl, fun j hj => ?_⟩
    match j, hj with
    | 0, _ => exact hexC17 hu.x hx h
  · have e : ssG dy t = [dy t.day, dy t.to] := by unfold ssG; rw [if_neg (by omega), if_neg (by omega), if_neg (by omega), if_pos (by omega)]
    obtain ⟨h4, h5⟩ := fld7 hf (by omega)
    rw [e]
    refine ⟨rfl, fun j hj => ?_⟩
    match j, hj with
    | 0, _ => exact dyC_any hd h4.1 h4.2 h
    | 1, _ => exact dyC_any hd h5.1 h5.2 h
  · have e : ssG dy t = [itB17 t.n, itB17 t.months] := by unfold ssG; rw [if_neg (by omega), if_neg (by omega), if_neg (by omega), if_neg (by omega), if_pos (by omega)]
    obtain ⟨h4, h5⟩ := fld8 hf (by omega)
    rw [e]
    refine ⟨rfl, fun j hj => ?_⟩
    match j, hj with
    | 0, _ => exact itoC_any (n := t.n) (by omega) (by omega) h
    | 1, _ => exact itoC_any (n := t.months) (by omega) (by omega) h
def ixK (t : Trm) : Nat := (t.kind - 1).toNat
theorem ptO_any {dy : Int → ByteArray} (hd : DyOk dy) {ts : List Trm} {k : Nat} (hk : k ≤ 2000) (hu : TrU (ts.getD k trm0)) (hx : TxO dy ts k) {w : World} (h : Aw17 w) :
    PtO ts (WT dy ts) w k (ixK (ts.getD k trm0)) (ptN (ts.getD k trm0).kind) (psG (ixK (ts.getD k trm0))) (ssG dy (ts.getD k trm0)) := by
  have hf : fldB (ts.getD k trm0) = true := by have := hx.fit; unfold fitT at this; simp only [Bool.and_eq_true] at this; exact this.1
  obtain ⟨k1, k2⟩ := fld_rng hf
  have hkd : (ts.getD k trm0).kind = (ixK (ts.getD k trm0) : Int) + 1 := by unfold ixK; omega
  have h8 : ixK (ts.getD k trm0) < 8 := by omega
  obtain ⟨e1, e2⟩ := wr_fields hd h8 hkd hu hf h
  refine ⟨h8, hkd, ps_len h8, e1, ds_len h8, fdI_G h8, e2, ?_, pt_le _, hx.pt, WT_eq dy ts k hx.pt, ?_⟩
  · rw [pt_kd h8, ← hkd]
  · rw [jnT_len]
    have := WT_eq dy ts k hx.pt
    have hs := hx.sz
    rw [this] at hs
    have : (jnT ((kdG (ixK (ts.getD k trm0))).word :: ssG dy (ts.getD k trm0) ++ ptT (WT dy ts) (ts.getD k trm0) (ptN (ts.getD k trm0).kind))).size ≤ 1001 * (k + 1) := hs
    omega
theorem txO_of {dy : Int → ByteArray} (hd : DyOk dy) {ts : List Trm} {D A : Int} (hm : MesR ts D 0 A) : ∀ k < ts.length, TxO dy ts k := by
  cases hm with
  | ok p d h1 h2 h3 => exact (stk_ok hd ts ts.length ts.length (Nat.le_refl _) _ h2).2.2
theorem dPrint_any {dy : Int → ByteArray} (hd : DyOk dy) {ts : List Trm} {D A : Int} (hm : MesR ts D 0 A) (n : Nat) (p0 : Option Addr) (b off c : Nat) (w : World) (hs : TSrc w p0 b off ts) (hn : ts.length = n) (hu : ∀ i < n, TrU (ts.getD i trm0)) (h : Aw17 w) (hg : n ≤ 1024 ∧ 1 ≤ n ∧ A = 0) :
    Calls Tryz.prog 11 #[.slice p0 n c] w fun e w' => e = .returned (.tuple #[.string (WT dy ts (n - 1)), .int .i64 0]) ∧ Below w.heap.size w w' := by
  obtain ⟨g1, g2, rfl⟩ := hg
  exact dPrint_go ts n p0 b off c D (WT dy ts) (fun k => ixK (ts.getD k trm0)) (fun k => ptN (ts.getD k trm0).kind) (fun k => psG (ixK (ts.getD k trm0))) (fun k => ssG dy (ts.getD k trm0)) w hs hn hu g1 g2 hm fun k hk => ptO_any hd (by omega) (hu k hk) (txO_of hd hm k (by omega)) h
end Go.Proofs.YtiiajhomdpfafaaGreatDoor
