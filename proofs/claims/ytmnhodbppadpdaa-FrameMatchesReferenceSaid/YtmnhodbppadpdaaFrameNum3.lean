/- The numbers of a segment table, read from words and written into words. Nothing of the program's text is named here. -/
import Derived.Test.YtmnhodbppadpdaaFrameNum2
namespace Go.Proofs.Ytmnhodbppadpdaa
set_option linter.unusedVariables false
set_option linter.unusedSimpArgs false

/-! ## Reading -/
theorem wordAt_ent {b : List Int} (hb : Bts b) (k : Nat) : wordAt b k = ent b (2 * k) + 4294967296 * ent b (2 * k + 1) := by
  unfold wordAt ent
  simp only [leF]
  rw [show 4 * (2 * k) = 8 * k by omega, show 4 * (2 * k + 1) = 8 * k + 4 by omega]
  simp only [Nat.add_assoc, Nat.reduceAdd, Nat.add_zero]
  generalize zat b (8 * k) = x0
  generalize zat b (8 * k + 1) = x1
  generalize zat b (8 * k + 2) = x2
  generalize zat b (8 * k + 3) = x3
  generalize zat b (8 * k + 4) = x4
  generalize zat b (8 * k + 5) = x5
  generalize zat b (8 * k + 6) = x6
  generalize zat b (8 * k + 7) = x7
  simp only [Int.reducePow]
  omega

theorem fld_lo {x : Int} (h : 0 ≤ x) : fld x 0 32 = x % 4294967296 := by
  obtain ⟨X, rfl⟩ := Int.eq_ofNat_of_zero_le h
  unfold fld fldN
  simp
theorem fld_hi {x : Int} (h : 0 ≤ x) (h2 : x < 18446744073709551616) : fld x 32 32 = x / 4294967296 := by
  obtain ⟨X, rfl⟩ := Int.eq_ofNat_of_zero_le h
  unfold fld fldN
  simp only [Int.toNat_natCast, show (32 : Int).toNat = 32 from rfl, Nat.reducePow]
  omega

/-- the number with index i of the table, taken from its word -/
theorem fld_ent {b : List Int} (hb : Bts b) (i : Nat) : fld (wordAt b (i / 2)) ((i : Int) % 2 * 32) 32 = ent b i := by
  have e := wordAt_ent hb (i / 2)
  have h0 := ent_bd hb (2 * (i / 2))
  have h1 := ent_bd hb (2 * (i / 2) + 1)
  have hw := wordAt_bd hb (i / 2)
  by_cases hi : i % 2 = 0
  · rw [show (i : Int) % 2 * 32 = 0 by omega, fld_lo hw.1, e]
    rw [show 2 * (i / 2) = i by omega] at h0 ⊢
    omega
  · rw [show (i : Int) % 2 * 32 = 32 by omega, fld_hi hw.1 hw.2, e]
    rw [show 2 * (i / 2) + 1 = i by omega] at h1 ⊢
    omega

/-! ## Writing -/
theorem two_halves {y : Int} (h0 : 0 ≤ y) (h : y < 18446744073709551616) : bytes8 y = put4 (y % 4294967296) ++ put4 (y / 4294967296) := by
  simp only [bytes8, List.range, List.range.loop, List.map_cons, List.map_nil, put4, byteOf, List.cons_append, List.nil_append, Int.reducePow]
  simp only [List.cons.injEq, and_true]
  refine ⟨?_, ?_, ?_, ?_, ?_, ?_, ?_, ?_⟩ <;> first | omega | trivial

theorem ins_lo {x v : Int} (h0 : 0 ≤ x) (h1 : x < 18446744073709551616) (h2 : 0 ≤ v) (h3 : v < 4294967296) : ins x 0 32 v % 4294967296 = v ∧ ins x 0 32 v / 4294967296 = x / 4294967296 := by
  obtain ⟨X, rfl⟩ := Int.eq_ofNat_of_zero_le h0
  obtain ⟨V, rfl⟩ := Int.eq_ofNat_of_zero_le h2
  have a1 := insN_lt X 0 32 V (by omega) (by omega)
  have a2 := fldN_ins_same X 0 32 V (by omega) (by omega)
  have a3 := fldN_ins_other X 0 32 V 32 32 (by omega) (by omega) (by omega)
  unfold ins
  simp only [Int.toNat_natCast, show (32 : Int).toNat = 32 from rfl, show (0 : Int).toNat = 0 from rfl]
  generalize insN X 0 32 V = Y at *
  unfold fldN at a2 a3
  simp only [Nat.reducePow, Nat.div_one] at a1 a2 a3
  omega

theorem ins_hi {x v : Int} (h0 : 0 ≤ x) (h1 : x < 18446744073709551616) (h2 : 0 ≤ v) (h3 : v < 4294967296) : ins x 32 32 v % 4294967296 = x % 4294967296 ∧ ins x 32 32 v / 4294967296 = v := by
  obtain ⟨X, rfl⟩ := Int.eq_ofNat_of_zero_le h0
  obtain ⟨V, rfl⟩ := Int.eq_ofNat_of_zero_le h2
  have a1 := insN_lt X 32 32 V (by omega) (by omega)
  have a2 := fldN_ins_same X 32 32 V (by omega) (by omega)
  have a3 := fldN_ins_other X 32 32 V 0 32 (by omega) (by omega) (by omega)
  unfold ins
  simp only [Int.toNat_natCast, show (32 : Int).toNat = 32 from rfl]
  generalize insN X 32 32 V = Y at *
  unfold fldN at a2 a3
  simp only [Nat.reducePow, Nat.div_one] at a1 a2 a3
  omega

theorem splice_mid (P M R Y : List Int) (o : Nat) (h : o + Y.length ≤ M.length) : splice (P ++ (M ++ R)) (P.length + o) Y = P ++ (splice M o Y ++ R) := by
  have l1 : (splice M o Y).length = M.length := splice_length h
  have hl : (P.length + o) + Y.length ≤ (P ++ (M ++ R)).length := by simp; omega
  apply ext_zat
  · rw [splice_length hl]; simp [l1]
  · intro i hi
    rw [splice_zat hl]
    by_cases c1 : i < P.length
    · rw [if_neg (by omega), zat_append_left _ _ _ c1, zat_append_left _ _ _ c1]
    · rw [zat_append_right P (M ++ R) i (by omega), zat_append_right P (splice M o Y ++ R) i (by omega)]
      by_cases c2 : i - P.length < M.length
      · rw [zat_append_left _ _ _ c2, zat_append_left _ _ _ (by omega), splice_zat h]
        by_cases c3 : o ≤ i - P.length ∧ i - P.length < o + Y.length
        · rw [if_pos (by omega), if_pos c3, show i - (P.length + o) = i - P.length - o by omega]
        · rw [if_neg (by omega), if_neg c3]
      · rw [if_neg (by omega), zat_append_right _ _ _ (by omega), zat_append_right _ _ _ (by omega), l1]

/-- a number stored into its word is its four bytes written over the table's -/
theorem bytesOf_setEnt {zs : List Int} (hz : Wds zs) (i : Nat) (v : Int) (hi : i / 2 < zs.length) (h2 : 0 ≤ v) (h3 : v < 4294967296) :
    bytesOf (zs.set (i / 2) (ins (zat zs (i / 2)) ((i : Int) % 2 * 32) 32 v)) = splice (bytesOf zs) (4 * i) (put4 v) := by
  have hx := hz.at (i / 2)
  generalize hj : i / 2 = j at *
  have e0 : zs = zs.take j ++ (zat zs j :: zs.drop (j + 1)) := by
    have e1 := take_succ_zat zs j hi
    conv => lhs; rw [← List.take_append_drop (j + 1) zs, e1]
    simp
  have e2 : ∀ y, zs.set j y = zs.take j ++ (y :: zs.drop (j + 1)) := by
    intro y
    conv => lhs; rw [e0]
    have hl : (zs.take j).length = j := by simp; omega
    rw [List.set_append_right _ _ (by omega), hl, Nat.sub_self]
    rfl
  have hl : (bytesOf (zs.take j)).length = 8 * j := by rw [bytesOf_length]; simp; omega
  have eb : ∀ y, bytesOf (zs.take j ++ (y :: zs.drop (j + 1))) = bytesOf (zs.take j) ++ (bytes8 y ++ bytesOf (zs.drop (j + 1))) := fun y => by rw [bytesOf_append, bytesOf_cons]
  rw [e2, eb]
  have eR : bytesOf zs = bytesOf (zs.take j) ++ (bytes8 (zat zs j) ++ bytesOf (zs.drop (j + 1))) := by
    conv => lhs; rw [e0]
    exact eb _
  rw [eR]
  generalize zat zs j = x at *
  by_cases hi2 : i % 2 = 0
  · have hi4 : 4 * i = (bytesOf (zs.take j)).length + 0 := by omega
    rw [hi4, splice_mid _ _ _ _ _ (by rw [bytes8_length, put4_length]; omega)]
    congr 2
    rw [show (i : Int) % 2 * 32 = 0 by omega]
    have hb := ins_bd x 0 32 v (by omega) (by omega) (by omega) hx.2
    have hs := ins_lo hx.1 hx.2 h2 h3
    rw [two_halves hb.1 hb.2, two_halves hx.1 hx.2, hs.1, hs.2]
    rfl
  · have hi4 : 4 * i = (bytesOf (zs.take j)).length + 4 := by omega
    rw [hi4, splice_mid _ _ _ _ _ (by rw [bytes8_length, put4_length]; omega)]
    congr 2
    rw [show (i : Int) % 2 * 32 = 32 by omega]
    have hb := ins_bd x 32 32 v (by omega) (by omega) (by omega) hx.2
    have hs := ins_hi hx.1 hx.2 h2 h3
    rw [two_halves hb.1 hb.2, two_halves hx.1 hx.2, hs.1, hs.2]
    simp [splice, put4]

theorem splice_zeros (P Y : List Int) (m n : Nat) (h : Y.length ≤ m) (hn : n = P.length) : splice (P ++ List.replicate m 0) n Y = (P ++ Y) ++ List.replicate (m - Y.length) 0 := by
  subst hn
  simp [splice, List.drop_append]

theorem bytesOf_zeros (m : Nat) : bytesOf (List.replicate m 0) = List.replicate (8 * m) 0 := by
  apply ext_zat
  · rw [bytesOf_length]; simp
  · intro i hi
    rw [bytesOf_length, List.length_replicate] at hi
    have := bytesOf_zat (List.replicate m 0) (i / 8) (i % 8) (by rw [List.length_replicate]; omega) (by omega)
    rw [show 8 * (i / 8) + i % 8 = i by omega] at this
    rw [this, zat_replicate, zat_replicate]
    simp [byteOf]

theorem wds_zeros (m : Nat) : Wds (List.replicate m 0) := by
  intro z hz
  have := List.eq_of_mem_replicate hz
  omega

/-- the table's bytes while its first k sizes have been stored -/
def partT (ls : List (List Int)) (k : Nat) : List Int := (put4 ((ls.length : Int) - 1) ++ lensL (ls.take k)) ++ List.replicate (8 * (ls.length / 2 + 1) - (4 + 4 * k)) 0

theorem partT_zero (ls : List (List Int)) : splice (List.replicate (8 * (ls.length / 2 + 1)) 0) 0 (put4 ((ls.length : Int) - 1)) = partT ls 0 := by
  have := splice_zeros [] (put4 ((ls.length : Int) - 1)) (8 * (ls.length / 2 + 1)) 0 (by rw [put4_length]; omega) rfl
  unfold partT
  simpa [lensL, put4_length] using this

theorem partT_step (ls : List (List Int)) (k : Nat) (hk : k < ls.length) : splice (partT ls k) (4 * (k + 1)) (put4 (seg ls k).length) = partT ls (k + 1) := by
  unfold partT
  rw [splice_zeros _ _ _ _ (by rw [put4_length]; omega) (by rw [List.length_append, put4_length, lensL_length, List.length_take]; omega)]
  rw [take_succ_seg ls k hk, lensL_append, lensL_one, put4_length, ← List.append_assoc]
  congr 2

theorem partT_end (ls : List (List Int)) : partT ls ls.length = headT ls := by
  unfold partT headT padL
  rw [List.take_length]
  congr 1
  by_cases h : ls.length % 2 = 0
  · rw [if_pos h, show 8 * (ls.length / 2 + 1) - (4 + 4 * ls.length) = 4 by omega]
    rfl
  · rw [if_neg h, show 8 * (ls.length / 2 + 1) - (4 + 4 * ls.length) = 0 by omega]
    rfl

theorem bodyL_flat (ls : List (List Int)) : bytesOf ls.flatten = bodyL ls := by
  induction ls with
  | nil => rfl
  | cons l r ih => rw [List.flatten_cons, bytesOf_append, ih]; simp [bodyL]

theorem flat_succ (ls : List (List Int)) (k : Nat) (hk : k < ls.length) : (ls.take (k + 1)).flatten = (ls.take k).flatten ++ seg ls k := by
  rw [take_succ_seg ls k hk, List.flatten_append]
  simp

theorem flat_wds {ls : List (List Int)} (h : Wd2 ls) : Wds ls.flatten := by
  intro z hz
  rw [List.mem_flatten] at hz
  obtain ⟨l, hl, hz⟩ := hz
  exact h l hl z hz

theorem flat_length (ls : List (List Int)) : ((ls.flatten).length : Int) = sizeI ls := by
  induction ls with
  | nil => rfl
  | cons l r ih => rw [List.flatten_cons, List.length_append]; simp only [sizeI]; omega

/-! ## The table that bytes begin with -/
def rdB (b : List Int) (i : Nat) (lim : Int) : Bool := decide (8 * (i / 2) + 8 ≤ b.length ∧ ent b i ≤ lim)
def cntN (b : List Int) : Nat := (cntF b).toNat
def tabP (b : List Int) : Prop := rdB b 0 511 = true ∧ (∀ k, k < cntN b → rdB b (k + 1) 536870911 = true) ∧ (cntN b % 2 = 0 → rdB b (cntN b + 1) 0 = true)
instance (b : List Int) : Decidable (tabP b) := by unfold tabP; infer_instance
def sizesF (b : List Int) : List Int := (List.range (cntN b)).map fun k => ent b (k + 1)
theorem sizesF_length (b : List Int) : (sizesF b).length = cntN b := by simp [sizesF]
theorem sizesF_zat (b : List Int) (k : Nat) (h : k < cntN b) : zat (sizesF b) k = ent b (k + 1) := by
  simp [sizesF, zat, List.getD_eq_getElem?_getD, h]
theorem cntN_eq {b : List Int} (hb : Bts b) : (cntN b : Int) = ent b 0 + 1 := by
  have := ent_bd hb 0
  unfold cntN cntF
  omega
theorem rdB_yes {b : List Int} {i : Nat} {lim : Int} (h : rdB b i lim = true) : 8 * (i / 2) + 8 ≤ b.length ∧ ent b i ≤ lim := of_decide_eq_true h
theorem rdB_no {b : List Int} {i : Nat} {lim : Int} (h : rdB b i lim = false) : ¬ (8 * (i / 2) + 8 ≤ b.length ∧ ent b i ≤ lim) := of_decide_eq_false h

/-- words of the first k of the sizes -/
def preN (zs : List Int) (k : Nat) : Nat := ((zs.take k).map Int.toNat).sum
theorem preN_zero (zs : List Int) : preN zs 0 = 0 := by simp [preN]
theorem preN_succ (zs : List Int) (k : Nat) (h : k < zs.length) : preN zs (k + 1) = preN zs k + (zat zs k).toNat := by
  unfold preN
  rw [take_succ_zat zs k h, List.map_append, List.sum_append]
  simp
theorem preN_le {zs : List Int} (m : Nat) (h : ∀ k, k < zs.length → zat zs k ≤ m) (k : Nat) (hk : k ≤ zs.length) : preN zs k ≤ m * k := by
  induction k with
  | zero => simp [preN]
  | succ k ih =>
    rw [preN_succ zs k (by omega)]
    have h1 := ih (by omega)
    have h2 := h k (by omega)
    rw [Nat.mul_succ]
    omega
theorem preN_mono {zs : List Int} (k : Nat) (hk : k ≤ zs.length) : preN zs k ≤ preN zs zs.length := by
  have : ∀ d, k + d ≤ zs.length → preN zs k ≤ preN zs (k + d) := by
    intro d
    induction d with
    | zero => intro _; exact Nat.le_refl _
    | succ d ih => intro h; rw [show k + (d + 1) = (k + d) + 1 by omega, preN_succ zs (k + d) (by omega)]; have := ih (by omega); omega
  have := this (zs.length - k) (by omega)
  rwa [show k + (zs.length - k) = zs.length by omega] at this
/-- the segments of the given sizes, cut from bytes -/
def cutL (b zs : List Int) : List (List Int) := (List.range zs.length).map fun k => wordsOf ((b.drop (8 * preN zs k)).take (8 * (zat zs k).toNat))
theorem cutL_length (b zs : List Int) : (cutL b zs).length = zs.length := by simp [cutL]
theorem cutL_seg (b zs : List Int) (k : Nat) (h : k < zs.length) : seg (cutL b zs) k = wordsOf ((b.drop (8 * preN zs k)).take (8 * (zat zs k).toNat)) := by
  simp [cutL, seg, List.getD_eq_getElem?_getD, h]

theorem at_pre {b : List Int} (hb : Bts b) (k : Nat) (h : k ≤ cntN b) : atF b k = tbl (cntN b) + 8 * (preN (sizesF b) k : Int) := by
  induction k with
  | zero =>
    have := ent_bd hb 0
    rw [atF, preN_zero, show cntF b = (cntN b : Int) by unfold cntN; unfold cntF; omega]
    simp
  | succ k ih =>
    have he := ent_bd hb (k + 1)
    rw [atF, ih (by omega), preN_succ _ _ (by rw [sizesF_length]; omega), sizesF_zat _ _ (by omega)]
    omega

theorem cntF_eq {b : List Int} (hb : Bts b) : cntF b = (cntN b : Int) := by
  have := ent_bd hb 0
  unfold cntN; unfold cntF; omega

/-- bytes are framed exactly if their table is well-formed and their length is that of the table and the segments -/
theorem ok_iff {b : List Int} (hb : Bts b) : okP b ↔ tabP b ∧ (b.length : Int) = tbl (cntN b) + 8 * (preN (sizesF b) (cntN b) : Int) := by
  have hc := cntF_eq hb
  have h0 := ent_bd hb 0
  have hce := cntN_eq hb
  have ht : (cntF b).toNat = cntN b := rfl
  have hend := at_pre hb (cntN b) (Nat.le_refl _)
  have hsl := sizesF_length b
  constructor
  · rintro ⟨⟨h1, h2, h3, h4⟩, h5, h6⟩
    rw [ht] at h4 h5 h6
    rw [hc] at h2 h3 h4
    have htb := h3
    unfold tbl at htb
    refine ⟨⟨decide_eq_true ⟨by omega, by omega⟩, fun k hk => decide_eq_true ⟨?_, ?_⟩, fun hp => decide_eq_true ⟨?_, ?_⟩⟩, by omega⟩
    · omega
    · have := (h5 k hk).1; omega
    · omega
    · have := h4 (by omega); omega
  · rintro ⟨⟨h1, h2, h3⟩, h4⟩
    have r0 := rdB_yes h1
    have hpos : 1 ≤ cntN b := by omega
    have rl := rdB_yes (h2 (cntN b - 1) (by omega))
    have hlast : cntN b - 1 + 1 = cntN b := by omega
    rw [hlast] at rl
    have htb : tbl (cntN b) ≤ b.length := by unfold tbl; omega
    refine ⟨⟨by omega, by rw [hc]; omega, by rw [hc]; exact htb, ?_⟩, ?_, ?_⟩
    · intro hp
      rw [ht]
      rw [hc] at hp
      have := rdB_yes (h3 (by omega))
      have := ent_bd hb (cntN b + 1)
      omega
    · intro k hk
      rw [ht] at hk
      have r := rdB_yes (h2 k hk)
      refine ⟨by omega, ?_⟩
      rw [at_pre hb (k + 1) (by omega), h4]
      have := preN_mono (zs := sizesF b) (k + 1) (by omega)
      rw [hsl] at this
      omega
    · rw [ht, hend, h4]

theorem tab_le {b : List Int} (hb : Bts b) (h : tabP b) : 1 ≤ cntN b ∧ cntN b ≤ 512 ∧ 8 * (cntN b / 2) + 8 ≤ b.length := by
  obtain ⟨h1, h2, h3⟩ := h
  have r0 := rdB_yes h1
  have hce := cntN_eq hb
  have h0 := ent_bd hb 0
  have rl := rdB_yes (h2 (cntN b - 1) (by omega))
  have hlast : cntN b - 1 + 1 = cntN b := by omega
  rw [hlast] at rl
  omega

theorem sizes_bd {b : List Int} (hb : Bts b) (h : tabP b) (k : Nat) : 0 ≤ zat (sizesF b) k ∧ zat (sizesF b) k ≤ 536870911 := by
  by_cases hk : k < cntN b
  · rw [sizesF_zat _ _ hk]
    have := (rdB_yes (h.2.1 k hk)).2
    have := ent_bd hb (k + 1)
    omega
  · rw [zat_out (by rw [sizesF_length]; omega)]
    omega

theorem parse_cut {b : List Int} (hb : Bts b) (h : okP b) : resF b = cutL (b.drop (8 * (cntN b / 2) + 8)) (sizesF b) := by
  have hok : okF b = true := decide_eq_true h
  unfold resF
  rw [if_pos hok]
  apply ext_seg
  · rw [parseL_length, cutL_length, sizesF_length]; rfl
  · intro k hk
    rw [parseL_length] at hk
    have hk2 : k < cntN b := hk
    rw [parseL_seg _ _ hk, cutL_seg _ _ _ (by rw [sizesF_length]; exact hk2), sizesF_zat _ _ hk2, List.drop_drop]
    unfold segF
    have e : (atF b k).toNat = 8 * (cntN b / 2) + 8 + 8 * preN (sizesF b) k := by
      rw [at_pre hb k (by omega)]
      unfold tbl
      omega
    rw [e]
end Go.Proofs.Ytmnhodbppadpdaa
