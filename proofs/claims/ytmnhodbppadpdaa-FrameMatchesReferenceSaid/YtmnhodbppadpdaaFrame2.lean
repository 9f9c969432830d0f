/- Package frame: cutting bytes into segments. -/
import Derived.Test.YtmnhodbppadpdaaFrame
import Derived.OneCell
namespace Go.Proofs.Ytmnhodbppadpdaa
open Go.ChangeShapes Go.WideShapes Go.ChangeAt Go.RowKit
set_option linter.unusedVariables false
set_option linter.unusedSimpArgs false

/-! ## A message of the call's own whose segments are stored one by one -/
theorem GotS.apart {w : World} {base g n c : Nat} {ls : List (List Int)} (h : GotS w base (.slice (some ⟨g, 0, none⟩) n c) ls) {base' : Nat} {u : Value} {l : List Int} (hu : Got w base' 43 .u64 u l) : u.ownBlock ≠ some g := by
  obtain ⟨vs, h1, -⟩ := h
  intro he
  rcases hu.2 with ⟨rfl, _⟩ | ⟨g1, cap1, cur1, hv1, hg1, hh1, _⟩
  · simp [Value.ownBlock] at he
  · subst hv1
    simp [Value.ownBlock] at he
    subst he
    rcases h1.2 with ⟨h0, _⟩ | ⟨g2, cap2, cur2, hv2, hg2, hh2, _⟩
    · cases h0
    · injection hv2 with e1
      injection e1 with e1
      injection e1 with e1
      subst e1
      rw [hh1] at hh2
      injection hh2 with e2
      injection e2 with _ e3
      exact absurd e3 (by decide)

theorem GotS.made {w : World} {base g n : Nat} (h : w.ownsRow base 41 1 (.slice (some ⟨g, 0, none⟩) n n) n (madeCells (Value.slice none 0 0).cells (n * 1)).toList) :
    GotS w base (.slice (some ⟨g, 0, none⟩) n n) (List.replicate n []) := by
  have e : (madeCells (Value.slice none 0 0).cells (n * 1)).toList = List.replicate n (Value.slice none 0 0) := by
    rw [Nat.mul_one]
    exact toList_madeCells_one _ _
  rw [e] at h
  refine ⟨List.replicate n (Value.slice none 0 0), by rw [List.length_replicate]; exact h, fun j hj => ?_⟩
  rw [List.length_replicate] at hj
  refine ⟨.slice none 0 0, by simp [hj], ?_⟩
  have e2 : seg (List.replicate n ([] : List Int)) j = [] := by simp [seg, List.getD_eq_getElem?_getD, hj]
  rw [e2]
  exact Got.empty _ _ _ _

theorem GotS.len {w : World} {base g n c : Nat} {ls : List (List Int)} (h : GotS w base (.slice (some ⟨g, 0, none⟩) n c) ls) : n = ls.length := by
  obtain ⟨vs, h1, -⟩ := h
  rcases h1.2 with ⟨h0, _⟩ | ⟨g2, cap2, cur2, hv2, _⟩
  · cases h0
  · injection hv2 with _ e

theorem GotS.put {w : World} {base g n c : Nat} {ls : List (List Int)} (h : GotS w base (.slice (some ⟨g, 0, none⟩) n c) ls) {u : Value} {l : List Int} (hu : Got w base 43 .u64 u l) (i : Nat) :
    GotS (w.setCell ⟨g, i, none⟩ u) base (.slice (some ⟨g, 0, none⟩) n c) (ls.set i l) := by
  have hap : ∀ {y : Value} {m : List Int}, Got w base 43 .u64 y m → Got (w.setCell ⟨g, i, none⟩ u) base 43 .u64 y m := fun hy => ownsRow_setCell_other hy (h.apart hy) _
  obtain rfl := h.len
  obtain ⟨vs, h1, h2⟩ := h
  have hst := (World.ownsRow.stored h1 i u).1
  refine ⟨vs.set i u, ?_, fun j hj => ?_⟩
  · rw [List.length_set]; exact hst
  · rw [List.length_set] at hj
    obtain ⟨y, hy, hg⟩ := h2 j hj
    by_cases e : i = j
    · subst e
      have hlt : i < vs.length := by
        rcases Nat.lt_or_ge i vs.length with hlt | hge
        · exact hlt
        · rw [List.getElem?_eq_none hge] at hy; cases hy
      refine ⟨u, by simp [hlt], ?_⟩
      have e2 : seg (ls.set i l) i = l := by simp [seg, List.getD_eq_getElem?_getD, hj]
      rw [e2]
      exact hap hu
    · refine ⟨y, by rw [List.getElem?_set_ne e]; exact hy, ?_⟩
      have e2 : seg (ls.set i l) j = seg ls j := by simp [seg, List.getD_eq_getElem?_getD, List.getElem?_set_ne e]
      rw [e2]
      exact hap hg

theorem GotS.slot {w : World} {base g n c : Nat} {ls : List (List Int)} (h : GotS w base (.slice (some ⟨g, 0, none⟩) n c) ls) {i : Nat} (hi : i < ls.length) : ∃ y, w.cell? ⟨g, i, none⟩ = some y := by
  obtain rfl := h.len
  obtain ⟨vs, h1, h2⟩ := h
  obtain ⟨y, hy, -⟩ := h2 i hi
  exact ⟨y, by rw [World.ownsRow.cellAt h1 i (by omega)]; exact hy⟩
theorem GotS.thaw {w : World} {base g n c : Nat} {ls : List (List Int)} (h : GotS w base (.slice (some ⟨g, 0, none⟩) n c) ls) (i : Nat) : w.frozen? ⟨g, i, none⟩ = false := by
  obtain rfl := h.len
  obtain ⟨vs, h1, h2⟩ := h
  exact World.ownsRow.frozenAt h1 i
theorem GotS.far {w : World} {base : Nat} {v : Value} {ls : List (List Int)} (h : GotS w base v ls) {p : Addr} (hp : p.block < base) (u : Value) : GotS (w.setCell p u) base v ls := by
  obtain ⟨vs, h1, h2⟩ := h
  refine ⟨vs, ownsRow_setCell_below h1 hp u, fun j hj => ?_⟩
  obtain ⟨y, hy, hg⟩ := h2 j hj
  exact ⟨y, hy, hg.far hp u⟩

/-- the segments, the first k of them stored -/
def partS (ls : List (List Int)) (k : Nat) : List (List Int) := ls.take k ++ List.replicate (ls.length - k) []
theorem partS_zero (ls : List (List Int)) : partS ls 0 = List.replicate ls.length [] := by simp [partS]
theorem partS_all (ls : List (List Int)) : partS ls ls.length = ls := by simp [partS]
theorem partS_length (ls : List (List Int)) (k : Nat) (h : k ≤ ls.length) : (partS ls k).length = ls.length := by simp [partS]; omega
theorem partS_step (ls : List (List Int)) (k : Nat) (h : k < ls.length) : (partS ls k).set k (seg ls k) = partS ls (k + 1) := by
  unfold partS
  have hl : (ls.take k).length = k := by simp; omega
  rw [List.set_append_right _ _ (by omega), hl, Nat.sub_self, take_succ_seg ls k h, List.append_assoc]
  congr 1
  rw [show ls.length - k = (ls.length - (k + 1)) + 1 by omega, List.replicate_succ]
  rfl

theorem Words_at (A : Option Addr) (c n : Nat) (b : List Int) (w : World) (hr : Ri w .u8 A b) (hb : Bts b) (hn : n = b.length) (hm : n ≤ 140737488355328) (hc : n ≤ c) (hc2 : c ≤ 9223372036854775807) (h8 : n % 8 = 0) :
    Calls Try.prog 32 #[.slice A n c] w fun e w' => ∃ v, e = .returned (.tuple #[v, .bool true]) ∧ Got w' w.heap.size 43 .u64 v (wordsOf b) ∧ Below w.heap.size w w' := by
  subst hn
  exact Words_yes A c b w hr hb hm hc hc2 h8

section
attribute [local irreducible] preN cutL partS wordsOf

set_option maxRecDepth 100000 in
theorem cut_any (g o c n : Nat) (b zs : List Int) (B : Option Addr) (d : Nat) (w : World) (hr : Ri w .u8 (some ⟨g, o, none⟩) b) (hb : Bts b) (hn : n = b.length) (hm : n ≤ 140737488355328) (hc : n ≤ c) (hc2 : c ≤ 9223372036854775807)
    (hz : Ri w .i64 B zs) (hzb : ∀ k, 0 ≤ zat zs k ∧ zat zs k ≤ 536870911) (m : Nat) (hmz : m = zs.length) (hl : m ≤ 512) :
    Calls Try.prog 20 #[.slice (some ⟨g, o, none⟩) n c, .slice B m d] w fun e w' =>
      Below w.heap.size w w' ∧ ((n = 8 * preN zs m ∧ ∃ v, e = .returned v ∧ GotS w' w.heap.size v (cutL b zs)) ∨ (n ≠ 8 * preN zs m ∧ e = malE)) := by
  obtain ⟨i0, hi, hz0, hz1, hz2⟩ := info_parts slices_info
  have Hr := Lib.hid hr
  have Hb := Lib.hid hb
  have Hz := Lib.hid hz
  have Hzb := Lib.hid hzb
  have HN := Lib.hid hn
  have HM := Lib.hid hmz
  have HPL : Hid (∀ k, k ≤ m → preN zs k ≤ 536870911 * k) := Lib.hid (fun k hk => preN_le 536870911 (fun j _ => (Hzb.out j).2) k (by rw [← HM.out]; exact hk))
  have HPS : Hid (∀ k, k < m → (preN zs (k + 1) : Int) = (preN zs k : Int) + zat zs k) := Lib.hid (fun k hk => by
    rw [preN_succ zs k (by rw [← HM.out]; exact hk)]
    have := Hzb.out k
    omega)
  have HPM : Hid (∀ k, k ≤ m → preN zs k ≤ preN zs m) := Lib.hid (fun k hk => by rw [HM.out]; exact preN_mono k (by rw [← HM.out]; exact hk))
  have HCL : Hid ((cutL b zs).length = m) := Lib.hid (by rw [cutL_length, HM.out])
  have HCS : Hid (∀ k, k < m → seg (cutL b zs) k = wordsOf ((b.drop (8 * preN zs k)).take (8 * (zat zs k).toNat))) := Lib.hid (fun k hk => cutL_seg b zs k (by rw [← HM.out]; exact hk))
  clear hr hb hz hzb hn hmz
  go_enter Try.func20, Try.ntmps20
  go_wp2
  go_loop [5, 14] (fun t i => ∃ k : Nat, k ≤ m ∧ i = .int .i64 k ∧ t = .int .i64 (preN zs k)) (fun _ i => m - (intOf i).toNat)
  case atStart => exact ⟨0, by omega, rfl, by rw [preN_zero]; rfl⟩
  case round =>
    obtain ⟨k, hk, rfl, rfl⟩ := hrel
    by_cases hlt : k < m
    · obtain ⟨gz, oz, rfl, hcz⟩ := Hz.out.at (i := k) (by rw [← HM.out]; exact hlt)
      have hcell := hcz k (by rw [← HM.out]; exact hlt)
      have hzk := Hzb.out k
      have hpk := HPL.out k hk
      have HS := Lib.hid (HPS.out k hlt)
      have hl2 : (k : Int) < (m : Int) := by omega
      clear hcz
      go_wp2
      go_round
      case rel => exact ⟨k + 1, by omega, by go_num, by rw [HS.out]⟩
      case measure => simp [intOf]; omega
    · obtain rfl : k = m := by omega
      have hpk := HPL.out k hk
      by_cases hfit : n = 8 * preN zs k
      · have t1 : ((n : Int) == (preN zs k : Int) * 8) = true := by rw [beq_iff_eq]; omega
        have HFIT := Lib.hid hfit
        clear hfit
        go_wp2_with fail
        refine (require_yes _).mono ?_
        rintro e w' ⟨rfl, rfl⟩
        go_wp2_with (at_make; refine wpList_make_full _ rfl _ _ 23 rfl w.heap.size 41 i0 (.slice none 0 0) 1 Try.underlying23 hi hz0 hz1 .i64 .i64 _ _ k rfl rfl (by omega) (by omega) (by rw [hz2]; omega) (by unfold maxLen; omega) (Nat.le_refl _) ?_; intro w0 hown0 hgrow0)
        have hb0 : Below w.heap.size w w0 := (Below.refl _ _).grown hgrow0 (Nat.le_refl _) (by simp)
        have hg0 := GotS.made hown0
        have HG0 : Hid (GotS w0 w.heap.size (.slice (some ⟨w.heap.size, 0, none⟩) k k) (partS (cutL b zs) 0)) := Lib.hid (by rw [partS_zero, HCL.out]; exact hg0)
        have HB0 := Lib.hid hb0
        have HK := Lib.hid hk
        clear hg0 hb0 hown0 hgrow0 t1 hpk hk hlt
        go_loopw [0, 33] (fun v i wr => ∃ j o' c', j ≤ k ∧ i = .int .i64 (j : Nat) ∧ v = .slice (some ⟨g, o', none⟩) (n - 8 * preN zs j) c' ∧ Ri w .u8 (some ⟨g, o', none⟩) (b.drop (8 * preN zs j)) ∧ n - 8 * preN zs j ≤ c' ∧ c' ≤ 9223372036854775807 ∧
          GotS wr w.heap.size (.slice (some ⟨w.heap.size, 0, none⟩) k k) (partS (cutL b zs) j) ∧ Below w.heap.size w wr) (fun _ i _ => k - (intOf i).toNat)
        case atStart => exact ⟨0, o, c, by omega, rfl, by rw [preN_zero]; rfl, by rw [preN_zero]; exact Hr.out, by omega, hc2, HG0.out, HB0.out⟩
        case round =>
          obtain ⟨j, o', c', hj, rfl, rfl, hrj, hcj, hcm, hgj, hbj⟩ := hrel
          have HGJ := Lib.hid hgj
          have HBJ := Lib.hid hbj
          have HRJ := Lib.hid hrj
          have hszj := hbj.size
          clear HG0 HB0
          by_cases hlt : j < k
          · have hzr := Hz.out.below hbj (Nat.le_refl _)
            obtain ⟨gz, oz, rfl, hcz⟩ := hzr.at (i := j) (by rw [← HM.out]; exact hlt)
            have hcell := hcz j (by rw [← HM.out]; exact hlt)
            have hzk := Hzb.out j
            have hps := HPS.out j hlt
            have hpm := HPM.out (j + 1) (by omega)
            have hfit := HFIT.out
            have HSEG := Lib.hid (HCS.out j hlt)
            have HPT := Lib.hid (partS_step (cutL b zs) j (by rw [HCL.out]; exact hlt))
            obtain ⟨y, hslot⟩ := hgj.slot (i := j) (by rw [partS_length _ _ (by rw [HCL.out]; omega), HCL.out]; exact hlt)
            obtain ⟨s, hs⟩ := Int.eq_ofNat_of_zero_le hzk.1
            have HSN : Hid ((zat zs j).toNat = s) := Lib.hid (by rw [hs]; rfl)
            have HP1 : Hid (preN zs (j + 1) = preN zs j + s) := Lib.hid (by omega)
            have hP1 := HP1.out
            rw [hs] at hcell hzk
            clear hcz hzr hgj hbj hrj hps hs hslot
            have hl2 : (j : Int) < (k : Int) := by omega
            have hnm : n ≤ 140737488355328 := hm
            generalize hP : preN zs j = P at *
            have HPP := Lib.hid hP
            clear hP
            have hroom : 8 * s ≤ n - 8 * P := by omega
            have hs29 : s ≤ 536870911 := by omega
            have HLL : Hid (((b.drop (8 * P)).take (8 * s)).length = 8 * s) := Lib.hid (by rw [List.length_take, List.length_drop, ← HN.out]; omega)
            have HBT : Hid (Bts ((b.drop (8 * P)).take (8 * s))) := Lib.hid (fun z hz => Hb.out z (List.mem_of_mem_drop (List.mem_of_mem_take hz)))
            have HW := Lib.hid (Words_at (some ⟨g, o', none⟩) c' (s * 8) ((b.drop (8 * P)).take (8 * s)) wr ((HRJ.out.below HBJ.out (Nat.le_refl _)).take _) HBT.out (by rw [HLL.out, Nat.mul_comm]) (by omega) (by omega) hcm (by omega))
            have HR1 := Lib.hid hroom
            clear hfit hpm hP1
            go_wp2_with fail
            (with_reducible refine HW.out.mono ?_)
            rintro e w4 ⟨v4, rfl, hg4, hb4⟩
            obtain ⟨A4, c4, rfl, hq1, hq2, hq3⟩ := hg4.slice
            clear hq1 hq2 hq3
            have hsz4 := hb4.size
            have HG4 := Lib.hid (hg4.mono hszj)
            have HGS4 := Lib.hid (HGJ.out.below hb4 (Nat.le_refl _))
            have HB4 := Lib.hid (HBJ.out.trans (hb4.mono hszj))
            clear hg4 hb4
            obtain ⟨y, hslot⟩ := HGS4.out.slot (i := j) (by rw [partS_length _ _ (by rw [HCL.out]; omega), HCL.out]; exact hlt)
            have hthaw := HGS4.out.thaw j
            have HNEW : Hid (GotS (w4.setCell ⟨w.heap.size, j, none⟩ (.slice A4 (wordsOf ((b.drop (8 * P)).take (8 * s))).length c4)) w.heap.size (.slice (some ⟨w.heap.size, 0, none⟩) k k) (partS (cutL b zs) (j + 1))) := Lib.hid (by
              have h1 := HGS4.out.put HG4.out j
              have h2 := HPT.out
              rw [HSEG.out, HSN.out] at h2
              rw [h2] at h1
              exact h1)
            have HNB : Hid (Below w.heap.size w (w4.setCell ⟨w.heap.size, j, none⟩ (.slice A4 (wordsOf ((b.drop (8 * P)).take (8 * s))).length c4))) := Lib.hid (HB4.out.setCell (Nat.le_refl _) _)
            have HN1 : Hid (8 * preN zs (j + 1) = 8 * P + s * 8) := Lib.hid (by rw [HP1.out]; omega)
            by_cases hcap : c' = s * 8
            · have HRN : Hid (Ri w .u8 (some ⟨g, o', none⟩) (b.drop (8 * P + s * 8))) := Lib.hid (by
                rw [List.drop_eq_nil_of_le (by rw [← HN.out]; omega)]
                exact Ri.nil _ _ _)
              go_wp2_with fail
              go_roundw
              case rel => exact ⟨j + 1, o', s * 8 - s * 8, by omega, by go_num, by rw [HN1.out, Nat.sub_sub], by rw [HN1.out]; exact HRN.out, by rw [HN1.out]; omega, by omega, HNEW.out, HNB.out⟩
              case measure => simp [intOf]; omega
            · have HRN : Hid (Ri w .u8 (some ⟨g, o' + s * 8, none⟩) (b.drop (8 * P + s * 8))) := Lib.hid (by
                have := HRJ.out.drop (n := s * 8) rfl
                rw [List.drop_drop] at this
                exact this)
              go_wp2_with fail
              go_roundw
              case rel => exact ⟨j + 1, o' + s * 8, c' - s * 8, by omega, by go_num, by rw [HN1.out, Nat.sub_sub], by rw [HN1.out]; exact HRN.out, by rw [HN1.out]; omega, by omega, HNEW.out, HNB.out⟩
              case measure => simp [intOf]; omega
          · obtain rfl : j = k := by omega
            go_wp2
            go_ret
            have h2 := HGJ.out
            rw [show partS (cutL b zs) j = cutL b zs by have := partS_all (cutL b zs); rw [HCL.out] at this; exact this] at h2
            exact ⟨HBJ.out, .inl ⟨HFIT.out, _, rfl, h2⟩⟩
      · have t1 : ((n : Int) == (preN zs k : Int) * 8) = false := by rw [beq_eq_false_iff_ne]; omega
        go_wp2_with fail
        refine (require_no _).mono ?_
        rintro e w' ⟨rfl, rfl⟩
        unfold malE
        go_wp2
        exact ⟨rfl, Below.refl _ _, .inr ⟨hfit, rfl⟩⟩
end
end Go.Proofs.Ytmnhodbppadpdaa
