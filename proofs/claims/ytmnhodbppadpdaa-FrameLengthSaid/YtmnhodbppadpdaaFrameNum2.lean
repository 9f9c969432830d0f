/- Framed messages as lists of bytes: the two directions are inverse, and nothing is left over. Nothing of the program's text is named here. -/
import Derived.Test.YtmnhodbppadpdaaFrameNum
namespace Go.Proofs.Ytmnhodbppadpdaa
set_option linter.unusedVariables false
set_option linter.unusedSimpArgs false

theorem split_seg {ls : List (List Int)} {k : Nat} (h : k < ls.length) : ls = ls.take k ++ (seg ls k :: ls.drop (k + 1)) := by
  rw [seg, List.getD_eq_getElem?_getD, List.getElem?_eq_getElem h]
  simp

theorem ent_at (a c : List Int) (v : Int) (i : Nat) (h : 4 * i = a.length) (h0 : 0 ≤ v) (h1 : v < 4294967296) : ent (a ++ (put4 v ++ c)) i = v := by
  have e : ∀ j, j < 4 → zat (a ++ (put4 v ++ c)) (4 * i + j) = zat (put4 v) j := by
    intro j hj
    rw [zat_append_right _ _ _ (by omega), show 4 * i + j - a.length = j by omega, zat_append_left _ _ _ (by rw [put4_length]; exact hj)]
  have e0 := e 0 (by omega)
  have e1 := e 1 (by omega)
  have e2 := e 2 (by omega)
  have e3 := e 3 (by omega)
  unfold ent
  rw [e1, e2, e3, show 4 * i = 4 * i + 0 by omega, e0]
  simp only [put4, zat, List.getD_cons_zero, List.getD_cons_succ]
  omega

theorem put4_ent {b : List Int} (hb : Bts b) (i : Nat) : put4 (ent b i) = [zat b (4 * i), zat b (4 * i + 1), zat b (4 * i + 2), zat b (4 * i + 3)] := by
  have h0 := hb.at (4 * i)
  have h1 := hb.at (4 * i + 1)
  have h2 := hb.at (4 * i + 2)
  have h3 := hb.at (4 * i + 3)
  unfold ent put4
  generalize zat b (4 * i) = x0 at *
  generalize zat b (4 * i + 1) = x1 at *
  generalize zat b (4 * i + 2) = x2 at *
  generalize zat b (4 * i + 3) = x3 at *
  congr 1
  · omega
  · congr 1
    · omega
    · congr 1
      · omega
      · congr 1; omega

theorem take_succ4 (b : List Int) (k : Nat) (h : k + 4 ≤ b.length) : b.take (k + 4) = b.take k ++ [zat b k, zat b (k + 1), zat b (k + 2), zat b (k + 3)] := by
  rw [take_succ_zat b (k + 3) (by omega), take_succ_zat b (k + 2) (by omega), take_succ_zat b (k + 1) (by omega), take_succ_zat b k (by omega)]
  simp

theorem take_ent {b : List Int} (hb : Bts b) (i : Nat) (h : 4 * i + 4 ≤ b.length) : b.take (4 * i + 4) = b.take (4 * i) ++ put4 (ent b i) := by
  rw [put4_ent hb, take_succ4 b (4 * i) h]

/-! ## Reading what was written -/
structure MsgOK (ls : List (List Int)) : Prop where
  wds : Wd2 ls
  pos : 1 ≤ ls.length
  le : ls.length ≤ 512
  fits : ∀ j, (seg ls j).length ≤ 536870911

def headT (ls : List (List Int)) : List Int := put4 ((ls.length : Int) - 1) ++ lensL ls ++ padL ls.length
theorem serL_eq (ls : List (List Int)) : serL ls = headT ls ++ bodyL ls := by unfold serL headT; rfl
theorem headT_length (ls : List (List Int)) (h : 1 ≤ ls.length) : ((headT ls).length : Int) = tbl ls.length := by
  unfold headT tbl
  rw [List.length_append, List.length_append, put4_length, lensL_length, padL_length]
  split <;> omega

theorem ser_ent0 {ls : List (List Int)} (h : MsgOK ls) (c : List Int) : ent (headT ls ++ c) 0 = (ls.length : Int) - 1 := by
  have h1 := h.pos
  have h2 := h.le
  have := ent_at [] (lensL ls ++ padL ls.length ++ c) ((ls.length : Int) - 1) 0 rfl (by omega) (by omega)
  unfold headT
  simpa [List.append_assoc] using this

theorem ser_ent {ls : List (List Int)} (h : MsgOK ls) (c : List Int) (k : Nat) (hk : k < ls.length) : ent (headT ls ++ c) (k + 1) = (seg ls k).length := by
  have h3 := h.fits k
  have e : headT ls ++ c = (put4 ((ls.length : Int) - 1) ++ lensL (ls.take k)) ++ (put4 (seg ls k).length ++ (lensL (ls.drop (k + 1)) ++ (padL ls.length ++ c))) := by
    unfold headT
    have : lensL ls = lensL (ls.take k) ++ (put4 (seg ls k).length ++ lensL (ls.drop (k + 1))) := by
      conv => lhs; rw [split_seg hk]
      rw [lensL_append, show seg ls k :: ls.drop (k + 1) = [seg ls k] ++ ls.drop (k + 1) from rfl, lensL_append, lensL_one]
    rw [this]
    simp only [List.append_assoc]
  rw [e]
  apply ent_at
  · rw [List.length_append, put4_length, lensL_length, List.length_take]; omega
  · omega
  · omega

theorem ser_pad {ls : List (List Int)} (h : MsgOK ls) (c : List Int) (h2 : ls.length % 2 = 0) : ent (headT ls ++ c) (ls.length + 1) = 0 := by
  have e : headT ls ++ c = (put4 ((ls.length : Int) - 1) ++ lensL ls) ++ (put4 0 ++ c) := by
    unfold headT padL
    rw [if_pos h2]
    simp only [List.append_assoc]
  rw [e]
  apply ent_at
  · rw [List.length_append, put4_length, lensL_length]; omega
  · omega
  · omega

theorem ser_cnt {ls : List (List Int)} (h : MsgOK ls) (c : List Int) : cntF (headT ls ++ c) = ls.length := by
  unfold cntF
  rw [ser_ent0 h]
  omega

theorem ser_at {ls : List (List Int)} (h : MsgOK ls) (c : List Int) (k : Nat) (hk : k ≤ ls.length) : atF (headT ls ++ c) k = tbl ls.length + 8 * sizeI (ls.take k) := by
  induction k with
  | zero => rw [atF, ser_cnt h]; simp [sizeI]
  | succ k ih => rw [atF, ih (by omega), ser_ent h c k (by omega), sizeI_take ls k (by omega)]; omega

theorem sizeI_take_le (ls : List (List Int)) (k : Nat) : sizeI (ls.take k) ≤ sizeI ls := by
  conv => rhs; rw [← List.take_append_drop k ls]
  rw [sizeI_append]
  have := sizeI_nonneg (ls.drop k)
  omega

/-- bytes that begin with the table of a message are framed exactly if their length is the message's -/
theorem ok_head {ls : List (List Int)} (h : MsgOK ls) (c : List Int) : okF (headT ls ++ c) = decide (((headT ls ++ c).length : Int) = tbl ls.length + 8 * sizeI ls) := by
  have hc := ser_cnt h c
  have hl := headT_length ls h.pos
  have hp := h.pos
  have hle := h.le
  have htot : atF (headT ls ++ c) ls.length = tbl ls.length + 8 * sizeI ls := by rw [ser_at h c _ (Nat.le_refl _), List.take_length]
  have hb : 0 ≤ tbl ls.length ∧ 16 ≤ tbl ls.length + 8 := by unfold tbl; omega
  unfold okF
  by_cases he : ((headT ls ++ c).length : Int) = tbl ls.length + 8 * sizeI ls
  · rw [decide_eq_true he]
    apply decide_eq_true
    have hlen : (headT ls ++ c).length = (headT ls).length + c.length := List.length_append
    refine ⟨⟨by omega, by rw [hc]; omega, by rw [hc]; omega, ?_⟩, ?_, ?_⟩
    · intro h2
      rw [hc, Int.toNat_natCast]
      rw [hc] at h2
      exact ser_pad h c (by omega)
    · intro k hk
      rw [hc, Int.toNat_natCast] at hk
      have h3 := h.fits k
      refine ⟨by rw [ser_ent h c k hk]; omega, ?_⟩
      rw [ser_at h c (k + 1) (by omega), he]
      have := sizeI_take_le ls (k + 1)
      omega
    · rw [hc, Int.toNat_natCast, htot, he]
  · rw [decide_eq_false he]
    apply decide_eq_false
    rintro ⟨_, _, h3⟩
    rw [hc, Int.toNat_natCast, htot] at h3
    exact he h3.symm

theorem ser_seg {ls : List (List Int)} (h : MsgOK ls) (k : Nat) (hk : k < ls.length) : segF (serL ls) k = seg ls k := by
  unfold segF
  have hl := headT_length ls h.pos
  rw [serL_eq, ser_at h _ k (by omega), ser_ent h _ k hk, Int.toNat_natCast]
  have e : headT ls ++ bodyL ls = (headT ls ++ bodyL (ls.take k)) ++ (bytesOf (seg ls k) ++ bodyL (ls.drop (k + 1))) := by
    have : bodyL ls = bodyL (ls.take k) ++ (bytesOf (seg ls k) ++ bodyL (ls.drop (k + 1))) := by
      conv => lhs; rw [split_seg hk]
      rw [bodyL_append, show seg ls k :: ls.drop (k + 1) = [seg ls k] ++ ls.drop (k + 1) from rfl, bodyL_append, bodyL_one]
    rw [this]
    simp only [List.append_assoc]
  have hb := bodyL_length (ls.take k)
  have hn : (tbl ls.length + 8 * sizeI (ls.take k)).toNat = (headT ls ++ bodyL (ls.take k)).length := by rw [List.length_append]; omega
  rw [hn, e, List.drop_left, List.take_left' (by rw [bytesOf_length])]
  exact wordsOf_bytesOf _ (h.wds.at k)

theorem ok_ser {ls : List (List Int)} (h : MsgOK ls) : okF (serL ls) = true := by
  rw [serL_eq, ok_head h]
  apply decide_eq_true
  rw [← serL_eq]
  exact serL_length ls h.pos

theorem res_ser {ls : List (List Int)} (h : MsgOK ls) : resF (serL ls) = ls := by
  unfold resF
  rw [if_pos (ok_ser h)]
  have hc : (cntF (serL ls)).toNat = ls.length := by rw [serL_eq, ser_cnt h, Int.toNat_natCast]
  apply ext_seg
  · rw [parseL_length, hc]
  · intro i hi
    rw [parseL_length, hc] at hi
    rw [parseL_seg _ _ (by rw [hc]; exact hi), ser_seg h i hi]

theorem err_ser {ls : List (List Int)} (h : MsgOK ls) : errF (serL ls) = 0 := by unfold errF; rw [if_pos (ok_ser h)]

/-- what follows a message, or is missing of it -/
theorem ok_more {ls : List (List Int)} (h : MsgOK ls) (c : List Int) : okF (serL ls ++ c) = decide (c = []) := by
  have hs := serL_length ls h.pos
  rw [serL_eq, List.append_assoc, ok_head h, ← List.append_assoc, ← serL_eq, List.length_append]
  cases c with
  | nil => simp; omega
  | cons x r => simp; omega

theorem ok_cut {ls : List (List Int)} (h : MsgOK ls) (q : Nat) (hq : q < (serL ls).length) : okF ((serL ls).take q) = false := by
  have hs := serL_length ls h.pos
  have hl := headT_length ls h.pos
  have hlen : ((serL ls).take q).length = q := by rw [List.length_take]; omega
  by_cases h1 : (headT ls).length ≤ q
  · have e : (serL ls).take q = headT ls ++ (bodyL ls).take (q - (headT ls).length) := by
      rw [serL_eq, List.take_append, List.take_of_length_le h1]
    rw [e] at hlen ⊢
    rw [ok_head h]
    apply decide_eq_false
    rw [hlen]
    omega
  · unfold okF
    apply decide_eq_false
    rintro ⟨⟨h4, _, h5, _⟩, _⟩
    rw [hlen] at h4 h5
    have e : cntF ((serL ls).take q) = ls.length := by
      have e2 : ent ((serL ls).take q) 0 = ent (serL ls) 0 := by
        unfold ent
        rw [zat_take _ _ _ (by omega), zat_take _ _ _ (by omega), zat_take _ _ _ (by omega), zat_take _ _ _ (by omega)]
      unfold cntF
      rw [e2, serL_eq, ser_ent0 h]
      omega
    rw [e] at h5
    omega

/-! ## Writing what was read -/
theorem at_mono {b : List Int} (hb : Bts b) (k : Nat) : ∀ d, atF b k ≤ atF b (k + d)
  | 0 => Int.le_refl _
  | d + 1 => by
    have := at_mono hb k d
    have := ent_bd hb (k + d + 1)
    rw [show k + (d + 1) = (k + d) + 1 by omega, atF]
    omega

structure Good (b : List Int) (n : Nat) : Prop where
  bts : Bts b
  cnt : cntF b = n
  le : n ≤ 512
  pos : 1 ≤ n
  tab : tbl n ≤ b.length
  pad : n % 2 = 0 → ent b (n + 1) = 0
  step : ∀ k, k < n → ent b (k + 1) < 536870912 ∧ atF b (k + 1) ≤ b.length
  fin : atF b n = b.length

theorem good_of {b : List Int} (hb : Bts b) (h : okF b = true) : ∃ n, Good b n := by
  obtain ⟨⟨h1, h2, h3, h4⟩, h5, h6⟩ := of_decide_eq_true h
  have h0 := ent_bd hb 0
  have hc : cntF b = ((cntF b).toNat : Int) := by unfold cntF; omega
  refine ⟨(cntF b).toNat, hb, hc, by omega, by unfold cntF; omega, by rw [← hc]; exact h3, fun hp => h4 (by omega), h5, h6⟩

theorem Good.seg_length {b : List Int} {n : Nat} (h : Good b n) (k : Nat) (hk : k < n) : ((segF b k).length : Int) = ent b (k + 1) := by
  have h1 := h.step k hk
  have h2 := ent_bd h.bts (k + 1)
  have h3 := atF_le h.bts k
  have h4 : 0 ≤ tbl (cntF b) := by rw [h.cnt]; unfold tbl; omega
  have h5 := h1.2
  rw [atF] at h5
  unfold segF
  rw [wordsOf_length, List.length_take, List.length_drop]
  omega

theorem Good.seg_bytes {b : List Int} {n : Nat} (h : Good b n) (k : Nat) (hk : k < n) : bytesOf (segF b k) = (b.drop (atF b k).toNat).take (8 * (ent b (k + 1)).toNat) := by
  have h1 := h.step k hk
  have h2 := ent_bd h.bts (k + 1)
  have h3 := atF_le h.bts k
  have h4 : 0 ≤ tbl (cntF b) := by rw [h.cnt]; unfold tbl; omega
  have h5 := h1.2
  rw [atF] at h5
  unfold segF
  apply bytesOf_wordsOf
  · intro z hz
    exact h.bts z (List.mem_of_mem_drop (List.mem_of_mem_take hz))
  · rw [List.length_take, List.length_drop]
    omega

theorem Good.lens {b : List Int} {n : Nat} (h : Good b n) (k : Nat) (hk : k ≤ n) : b.take (4 + 4 * k) = put4 ((n : Int) - 1) ++ lensL ((List.range k).map (segF b)) := by
  have ht := h.tab
  unfold tbl at ht
  induction k with
  | zero =>
    have := take_ent h.bts 0 (by omega)
    have hc := h.cnt
    unfold cntF at hc
    rw [show ent b 0 = (n : Int) - 1 by omega] at this
    simpa [lensL] using this
  | succ k ih =>
    have e := take_ent h.bts (k + 1) (by omega)
    rw [show 4 + 4 * (k + 1) = 4 * (k + 1) + 4 by omega, e, show 4 * (k + 1) = 4 + 4 * k by omega, ih (by omega), List.range_succ, List.map_append, lensL_append, List.map_cons, List.map_nil, lensL_one, h.seg_length k (by omega), List.append_assoc]

theorem Good.head {b : List Int} {n : Nat} (h : Good b n) : b.take (tbl n).toNat = put4 ((n : Int) - 1) ++ lensL ((List.range n).map (segF b)) ++ padL n := by
  have ht := h.tab
  unfold tbl at ht
  have h1 := h.lens n (Nat.le_refl _)
  unfold padL
  by_cases h2 : n % 2 = 0
  · have e := take_ent h.bts (n + 1) (by omega)
    rw [if_pos h2, ← h1, ← h.pad h2, show 4 + 4 * n = 4 * (n + 1) by omega, ← e]
    congr 1
    unfold tbl
    omega
  · rw [if_neg h2, List.append_nil, ← h1]
    congr 1
    unfold tbl
    omega

theorem Good.body {b : List Int} {n : Nat} (h : Good b n) (k : Nat) (hk : k ≤ n) : b.take (atF b k).toNat = b.take (tbl n).toNat ++ bodyL ((List.range k).map (segF b)) := by
  induction k with
  | zero => rw [atF, h.cnt]; simp [bodyL]
  | succ k ih =>
    have h2 := ent_bd h.bts (k + 1)
    have h3 := atF_le h.bts k
    have h4 : 0 ≤ tbl (cntF b) := by rw [h.cnt]; unfold tbl; omega
    have e : (atF b (k + 1)).toNat = (atF b k).toNat + 8 * (ent b (k + 1)).toNat := by rw [atF]; omega
    rw [e, List.take_add, ih (by omega), List.range_succ, List.map_append, bodyL_append, List.map_cons, List.map_nil, bodyL_one, h.seg_bytes k (by omega), List.append_assoc]

theorem ser_res {b : List Int} (hb : Bts b) (h : okF b = true) : serL (resF b) = b := by
  obtain ⟨n, hg⟩ := good_of hb h
  have h1 := hg.body n (Nat.le_refl _)
  rw [hg.head, hg.fin, Int.toNat_natCast, List.take_length] at h1
  unfold resF
  rw [if_pos h]
  have hc : (cntF b).toNat = n := by rw [hg.cnt, Int.toNat_natCast]
  unfold serL
  rw [parseL_length, hc]
  unfold parseL
  rw [hc]
  exact h1.symm

theorem res_ok {b : List Int} (hb : Bts b) (h : okF b = true) : MsgOK (resF b) ∧ b.length % 8 = 0 := by
  obtain ⟨n, hg⟩ := good_of hb h
  have hc : (cntF b).toNat = n := by rw [hg.cnt, Int.toNat_natCast]
  have hl : (resF b).length = n := by unfold resF; rw [if_pos h, parseL_length, hc]
  have hm : MsgOK (resF b) := by
    refine ⟨?_, by rw [hl]; exact hg.pos, by rw [hl]; exact hg.le, ?_⟩
    · intro l hlm
      unfold resF at hlm
      rw [if_pos h] at hlm
      simp only [parseL, List.mem_map] at hlm
      obtain ⟨k, _, rfl⟩ := hlm
      unfold segF
      apply wordsOf_wds
      intro z hz
      exact hb z (List.mem_of_mem_drop (List.mem_of_mem_take hz))
    · intro j
      by_cases hj : j < n
      · have e : seg (resF b) j = segF b j := by unfold resF; rw [if_pos h, parseL_seg _ _ (by rw [hc]; exact hj)]
        have := hg.seg_length j hj
        have := (hg.step j hj).1
        rw [e]
        omega
      · rw [seg_out (by rw [hl]; omega)]; simp
  refine ⟨hm, ?_⟩
  have h1 := serL_length (resF b) hm.pos
  rw [ser_res hb h] at h1
  unfold tbl at h1
  omega

theorem res_no {b : List Int} (h : okF b = false) : resF b = [] := by unfold resF; rw [if_neg (by rw [h]; exact Bool.false_ne_true)]
theorem err_no {b : List Int} (h : okF b = false) : errF b = 1 := by unfold errF; rw [if_neg (by rw [h]; exact Bool.false_ne_true)]
theorem err_yes {b : List Int} (h : okF b = true) : errF b = 0 := by unfold errF; rw [if_pos h]
end Go.Proofs.Ytmnhodbppadpdaa
