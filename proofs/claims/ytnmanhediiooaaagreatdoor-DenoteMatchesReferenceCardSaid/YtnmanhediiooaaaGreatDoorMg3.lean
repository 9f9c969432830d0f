/- The texts Ref11b, NodeZ, NodeK, Ref12, RegionT, Ref10c, Ref12v, Den2 (what is wanted of them), one after the other. -/
import Derived.Test.YtnmanhediiooaaaGreatDoorMg2
/- What the reference's Trim gives: the trimmed node in memory of its own. -/
namespace Go.Proofs.YtnmanhediiooaaaGreatDoor
open Go.ChangeShapes Go.WideShapes Go.ChangeAt Go.RowKit
set_option linter.unusedVariables false
set_option linter.unusedSimpArgs false
set_option maxRecDepth 100000
attribute [local simp] AllK KnowsV look Is

def GotU (base : Nat) (l : List Int) : Fact := fun v w => Got w base 5 .u8 v l
theorem stable_gotu (base : Nat) (l : List Int) : stable (GotU base l) := fun v w w' h hb => Got.below h hb (Nat.le_refl _)

theorem valid_kids11 {k e n : Int} {d : List Int} {ks : List Nd} (h : validN (.mk k e n d ks) = true) : (∀ y ∈ ks, validN y = true) ∧ (k = 1 → d.length % 8 = 0) := by
  simp only [validN, Bool.and_eq_true] at h
  obtain ⟨h1, h2⟩ := h
  refine ⟨fun y hy => ?_, fun hk => ?_⟩
  · obtain ⟨j, hj, rfl⟩ := List.getElem_of_mem hy
    rcases Bool.eq_false_or_eq_true (validN ks[j]) with h3 | h3
    · exact h3
    · have := validK_no k e ks j hj (by rw [h3]; rfl)
      rw [h1] at this
      cases this
  · unfold headB at h2
    rw [if_neg (by omega), if_pos hk, decide_eq_true_iff] at h2
    exact h2.2.2.1
theorem trim_eq (k e n : Int) (d : List Int) (ks : List Nd) : trimN (.mk k e n d ks) = .mk k e n (d.take (if k = 1 then 8 * wordsT d else d.length)) ((trimK ks).take (if k = 1 then ptrsT ks else ks.length)) := by
  simp only [trimN]
  split
  · rfl
  · rw [List.take_length, ← trimK_length, List.take_length]

set_option maxHeartbeats 8000000 in
set_option maxRecDepth 100000 in
theorem RefTrim11_node : ∀ (x : Nd) (A : Option Addr) (c : Nat) (B : Option Addr) (c2 : Nat) (w : World), NdR w A c B c2 x → sizeN x ≤ 1099511627776 → validN x = true →
    Calls Tryz.prog 21 #[.agg #[.int .i64 x.k, .int .i64 x.e, .int .i64 x.n, .slice A x.d.length c, .slice B x.ks.length c2]] w fun r w' => ∃ v, r = .returned v ∧ NodF w.heap.size (trimN x) v w' ∧ Below w.heap.size w w' := by
  refine Nd.ind ?_
  intro k e n d ks ih A c B c2 w hx hs hv
  simp only [Nd.k, Nd.e, Nd.n, Nd.d, Nd.ks]
  obtain ⟨i8, hi8, hy0, hy1, hy2⟩ := info_parts int8_info
  have HX := Lib.hid hx
  have HI := Lib.hid ih
  have HO := Lib.hid hx.open
  have HVK := Lib.hid (valid_kids11 hv).1
  have hso : sizeN (.mk k e n d ks) = 1 + d.length + sizeK ks := by simp only [sizeN]
  rw [hso] at hs
  have hkl := sizeK_length ks
  have hdl : d.length ≤ 1099511627776 := by omega
  have HD := Lib.hid hx.open.2.2.2.1
  have HBT := Lib.hid hx.open.2.2.2.2.1
  have HAN := Lib.hid hx.open.2.2.2.2.2.2.2.1
  have HWD := Lib.hid (fun w' (hb : Below w.heap.size w w') => RefWords11_any A c d w' (HD.out.below hb (Nat.le_refl _)) HBT.out hdl)
  have HPT := Lib.hid (fun w' (hb : Below w.heap.size w w') => RefPointers11_any B c2 ks w' (HX.out.kids.on hb (Nat.le_refl _)) (by omega))
  have hDK : ∃ D K : Nat, D ≤ d.length ∧ K ≤ ks.length ∧ trimN (.mk k e n d ks) = .mk k e n (d.take D) ((trimK ks).take K) ∧ ((k = 1 ∧ 8 * wordsT d = D ∧ ptrsT ks = K) ∨ (k ≠ 1 ∧ D = d.length ∧ K = ks.length)) := by
    by_cases h1 : k = 1
    · exact ⟨8 * wordsT d, ptrsT ks, wordsT_le d ((valid_kids11 hv).2 h1), ptrsT_le ks, by rw [trim_eq, if_pos h1, if_pos h1], .inl ⟨h1, rfl, rfl⟩⟩
    · exact ⟨d.length, ks.length, Nat.le_refl _, Nat.le_refl _, by rw [trim_eq, if_neg h1, if_neg h1], .inr ⟨h1, rfl, rfl⟩⟩
  obtain ⟨D, K, hDl, hKl, hT, hcase⟩ := hDK
  have HT := Lib.hid hT
  have HDL : Hid ((d.take D).length = D) := Lib.hid (by rw [List.length_take]; omega)
  have HKL : Hid (((trimK ks).take K).length = K) := Lib.hid (by rw [List.length_take, trimK_length]; omega)
  have hwb : (8 * wordsT d = D → wordsT d ≤ 1099511627776) := by omega
  clear hx ih hso hv hT
  generalize trimN (.mk k e n d ks) = tx at *
  go_enter Tryz.func21, Tryz.ntmps21
  have hb0 : ∀ o1 o2, Below w.heap.size w ((w.alloc o1).alloc o2) := fun o1 o2 => ((Below.refl _ _).alloc (Nat.le_refl _) _).alloc (by simp) _
  have HB0 := Lib.hid hb0
  clear hb0
  rcases hcase with ⟨h1, hDD, hPP⟩ | ⟨h1, hDD, hPP⟩
  have t1 : (k == 1) = true := by simpa using h1
  have hwb' := hwb hDD
  have EDD : Hid (8 * ((wordsT d : Nat) : Int) = ((D : Nat) : Int)) := Lib.hid (by omega)
  have EPP : Hid (((ptrsT ks : Nat) : Int) = ((K : Nat) : Int)) := Lib.hid (by omega)
  have H1 := Lib.hid h1
  clear h1 hDD hPP hwb
  go_wp2_with fail
  refine (HWD.out _ (HB0.out _ _)).mono ?_
  rintro r w' ⟨rfl, rfl⟩
  go_wp2_with fail
  refine (HPT.out _ (HB0.out _ _)).mono ?_
  rintro r w' ⟨rfl, rfl⟩
  go_wp2
  simp only [EDD.out, EPP.out]
  rotate_left
  have t1 : (k == 1) = false := by simpa using h1
  have EDD : Hid (((d.length : Nat) : Int) = ((D : Nat) : Int)) := Lib.hid (by omega)
  have EPP : Hid (((ks.length : Nat) : Int) = ((K : Nat) : Int)) := Lib.hid (by omega)
  have H1 := Lib.hid h1
  clear h1 hDD hPP hwb
  go_wp2
  simp only [EDD.out, EPP.out]
  all_goals
    refine abs_code10 (F := fun W => Blk W w.heap.size #[.int .i64 k, .int .i64 e, .int .i64 n, .slice A d.length c, .slice B ks.length c2] ∧ Blk W (w.heap.size + 1) #[.int .i64 0, .int .i64 0, .int .i64 0, .slice none 0 0, .slice none 0 0] ∧ Blk W (w.heap.size + 1 + 1) #[.int .i64 k, .int .i64 e, .int .i64 n, .slice none 0 0, .slice none 0 0] ∧ Below w.heap.size w W ∧ w.heap.size + 1 + 1 + 1 ≤ W.heap.size) ⟨?_, ?_, ?_, ?_, ?_⟩ ?_
    · exact ((Blk.fresh _ _ _).alloc _).alloc _
    · exact (Blk.new (by simp)).alloc _
    · exact Blk.new (by simp)
    · exact (HB0.out _ _).alloc (by simp; omega) _
    · simp
    rintro W ⟨hB1, hB2, hB3, hbw, hszW⟩
    have HW1 := Lib.hid hB1
    have HW2 := Lib.hid hB2
    have HW3 := Lib.hid hB3
    have HWB := Lib.hid hbw
    clear hB1 hB2 hB3 hbw
    go_loopw [6] (fun i wr => ∃ (j : Nat) (v : Value), j ≤ D ∧ i = .int .i64 j ∧ Blk wr w.heap.size #[.int .i64 k, .int .i64 e, .int .i64 n, .slice A d.length c, .slice B ks.length c2] ∧ Blk wr (w.heap.size + 1) #[.int .i64 0, .int .i64 0, .int .i64 0, .slice none 0 0, .slice none 0 0] ∧ Blk wr (w.heap.size + 1 + 1) #[.int .i64 k, .int .i64 e, .int .i64 n, v, .slice none 0 0] ∧ Got wr (w.heap.size + 1 + 1 + 1) 5 .u8 v (d.take j) ∧ Below w.heap.size w wr ∧ w.heap.size + 1 + 1 + 1 ≤ wr.heap.size) (fun i _ => D - (intOf i).toNat)
    case atStart => exact ⟨0, .slice none 0 0, by omega, rfl, HW1.out, HW2.out, HW3.out, Got.empty _ _ _ _, HWB.out, hszW⟩
    case round =>
      obtain ⟨j, v, hj, rfl, hB1, hB2, hB3, hg, hbr, hszr⟩ := hrel
      have HR := Lib.hid hbr
      have HC1 := Lib.hid hB1
      have HC2 := Lib.hid hB2
      have HC3 := Lib.hid hB3
      have HG := Lib.hid hg
      clear hbr hg hB2
      obtain ⟨x1, y1, z1⟩ := hB1
      obtain ⟨x3, y3, z3⟩ := hB3
      by_cases hlt : j < D
      · obtain ⟨b, off, rfl, hcd⟩ := (HD.out.below HR.out (Nat.le_refl _)).at (i := j) (by omega)
        have hcj := hcd j (by omega)
        have hblt : b < w.heap.size := by
          obtain ⟨b', off', hBe, hcd'⟩ := HD.out.at (i := j) (by omega)
          injection hBe with hBe
          injection hBe with hBe
          subst hBe
          exact World.block_lt_of_cell? w ⟨b, off' + j, none⟩ (hcd' j (by omega))
        have hzj := HBT.out.at j
        have hTK : d.take (j + 1) = d.take j ++ [zat d j] := take_succ_zat d j (by omega)
        have HTK := Lib.hid hTK
        have hln : (d.take j).length = j := by rw [List.length_take]; omega
        have HLN := Lib.hid hln
        have hkn : ∀ wc, Keeps (fun q => w.heap.size + 1 + 1 + 1 ≤ q) wr.drew wc → wc.cell? ⟨b, off + j, none⟩ = some (.int .u8 (zat d j)) := by
          intro wc hk
          have hb := hk.below (B := w.heap.size) (by show w.heap.size ≤ wr.heap.size; omega) (fun q hq => by omega)
          exact (hb.cell (p := ⟨b, _, none⟩) hblt).trans hcj
        have HKN := Lib.hid hkn
        have hD1 : ∀ wc, Keeps (fun q => w.heap.size + 1 + 1 + 1 ≤ q) wr.drew wc → Blk wc w.heap.size #[.int .i64 k, .int .i64 e, .int .i64 n, .slice (some ⟨b, off, none⟩) d.length c, .slice B ks.length c2] := fun wc hk => HC1.out.drew.keeps hk (by omega)
        have hD2 : ∀ wc, Keeps (fun q => w.heap.size + 1 + 1 + 1 ≤ q) wr.drew wc → Blk wc (w.heap.size + 1) #[.int .i64 0, .int .i64 0, .int .i64 0, .slice none 0 0, .slice none 0 0] := fun wc hk => HC2.out.drew.keeps hk (by omega)
        have hD3 : ∀ wc, Keeps (fun q => w.heap.size + 1 + 1 + 1 ≤ q) wr.drew wc → Blk wc (w.heap.size + 1 + 1) #[.int .i64 k, .int .i64 e, .int .i64 n, v, .slice none 0 0] := fun wc hk => HC3.out.drew.keeps hk (by omega)
        have HD1 := Lib.hid hD1
        have HD2 := Lib.hid hD2
        have HD3 := Lib.hid hD3
        clear hcd hcj hkn hD1 hD2 hD3 hTK hln
        generalize zat d j = z at *
        have hltD : (j : Int) < (D : Int) := by omega
        have hltL : (j : Int) < (d.length : Int) := by omega
        go_wp2_with fail
        clear x1 y1 z1 x3 y3 z3
        refine wp_region_a10 8 (fun q => w.heap.size + 1 + 1 + 1 ≤ q) (by kernel_rfl) (by kernel_rfl) ?_
        refine a_val_l (u := ?_) [5] (by kernel_rfl) rfl (by kernel_rfl) trivial (fun ρ wc hbc hcn hk => ?_) ?_; rotate_left
        · obtain ⟨hcn, -⟩ := hcn
          simp at hk
          go_simp
          rfl
        refine a_val (u := ?_) [38] (by kernel_rfl) rfl rfl (by kernel_rfl) trivial (fun ρ wc hbc hcn hk => ?_) ?_; rotate_left
        · obtain ⟨hcn, -⟩ := hcn
          simp at hk
          obtain ⟨x3, y3, z3⟩ := HD3.out wc (keeps_of hbc)
          go_simp
          rfl
        refine a_val_l (u := ?_) [1] (by kernel_rfl) rfl (by kernel_rfl) trivial (fun ρ wc hbc hcn hk => ?_) ?_; rotate_left
        · obtain ⟨hcn, -⟩ := hcn
          simp at hk
          go_simp
          rfl
        refine a_val_l (u := ?_) [40] (by kernel_rfl) rfl (by kernel_rfl) trivial (fun ρ wc hbc hcn hk => ?_) ?_; rotate_left
        · obtain ⟨hcn, -⟩ := hcn
          simp at hk
          obtain ⟨x1, y1, z1⟩ := HD1.out wc hbc
          go_simp
          rfl
        refine a_val_l (u := ?_) [6] (by kernel_rfl) rfl (by kernel_rfl) trivial (fun ρ wc hbc hcn hk => ?_) ?_; rotate_left
        · obtain ⟨hcn, -⟩ := hcn
          simp at hk
          go_simp
          rfl
        refine a_val_l (u := ?_) [41, 42] (by kernel_rfl) rfl (by kernel_rfl) trivial (fun ρ wc hbc hcn hk => ?_) ?_; rotate_left
        · obtain ⟨hcn, -⟩ := hcn
          simp at hk
          go_simp
          rfl
        refine a_val_l (u := ?_) [43] (by kernel_rfl) rfl (by kernel_rfl) trivial (fun ρ wc hbc hcn hk => ?_) ?_; rotate_left
        · obtain ⟨hcn, -⟩ := hcn
          simp at hk
          have hc0 := HKN.out wc hbc
          go_simp
          rfl
        refine a_new (T := DatF [z]) [44] (by kernel_rfl) rfl rfl (by kernel_rfl) trivial (stable_datf _) (fun ρ wc hbc hcn hk => ?_) ?_
        · obtain ⟨hcn, -⟩ := hcn
          simp at hk
          exact ⟨.slice (some ⟨wc.heap.size, 0, none⟩) 1 1, wc.alloc (.cells #[.int .u8 z] 5), by go_simp, ⟨_, _, rfl, Ri.lit wc .u8 [z] _, by simp, by unfold maxLen; simp, fun h => by cases h⟩, (Below.refl _ _).alloc (Nat.le_refl _) _⟩
        refine a_sp (T := GotU (w.heap.size + 1 + 1 + 1) (d.take j ++ [z])) [39, 45] rfl rfl (by kernel_rfl) trivial (stable_gotu _ _) (fun a wc hbc hcn hk => ?_) ?_
        · obtain ⟨h39, ⟨A5, c5, h45, hr5, hl5, hm5, hn5⟩, -⟩ := hk
          refine wpList_appN rfl (.tmp 39) (.tmp 45) 27 rfl Tryz.underlying27 hi8 hy0 hy1 hy2 h39 (HG.out.below (B := wr.heap.size) ⟨hbc.os, hbc.tape, hbc.output, hbc.size, hbc.block⟩ (Nat.le_refl _)) h45 hr5 hn5 (by rw [HLN.out]; unfold maxLen; simp; omega) (by rw [HLN.out]; simp; omega) (Nat.le_trans hszr hbc.size) ?_
          intro v' w' hg' hb'
          refine ⟨rfl, v', rfl, hg', ?_⟩
          rw [if_pos rfl]
          exact ⟨hb'.os, hb'.tape, hb'.output, hb'.size, fun q1 h1 h2 => hb'.block q1 (by omega)⟩
        refine a_val_l (u := ?_) [5] (by kernel_rfl) rfl (by kernel_rfl) trivial (fun ρ wc hbc hcn hk => ?_) ?_; rotate_left
        · obtain ⟨hcn, -⟩ := hcn
          simp at hk
          go_simp
          rfl
        refine a_end_lit 65 rfl (fun ff w7 hb7 hk => ?_)
        have hO2 : Got w7 (w.heap.size + 1 + 1 + 1) 5 .u8 (ff 46) (d.take j ++ [z]) := allN_at10d hk 46 (by decide) (by decide)
        simp [AllN] at hk
        simp only [frameL, hk, Nat.zero_add, Nat.reduceAdd]
        obtain ⟨B8, c8, hv8, -⟩ := hO2.slice
        rw [show (d.take j ++ [z]).length = j + 1 by rw [List.length_append, HLN.out]; rfl] at hv8
        have HO2 := Lib.hid hO2
        have HB7 := Lib.hid hb7
        have hs7 : wr.heap.size ≤ w7.heap.size := hb7.size
        clear hO2 hb7 hk
        rw [hv8] at HO2
        rw [hv8]
        clear hv8
        generalize ff 45 = v45
        obtain ⟨x3, y3, z3⟩ := HD3.out w7 HB7.out
        go_wp2
        go_roundw
        case rel =>
          refine ⟨j + 1, _, by omega, by go_num, (HD1.out w7 HB7.out).other (by show w.heap.size + 1 + 1 ≠ w.heap.size; omega) _, (HD2.out w7 HB7.out).other (by show w.heap.size + 1 + 1 ≠ w.heap.size + 1; omega) _, (HD3.out w7 HB7.out).set 3 (by simp) _, ?_, ?_, by simp; omega⟩
          · rw [HTK.out]
            exact Got.far (p := ⟨w.heap.size + 1 + 1, 3, none⟩) HO2.out (by show w.heap.size + 1 + 1 < w.heap.size + 1 + 1 + 1; omega) _
          · refine Below.setCell ?_ (by show w.heap.size ≤ w.heap.size + 1 + 1; omega) _
            exact (bel_drew HR.out).trans (HB7.out.below (B := w.heap.size) (by show w.heap.size ≤ wr.heap.size; omega) (fun q hq => by omega))
        case measure => simp [intOf]; omega
      · obtain rfl : j = D := by omega
        rename World => wo
        obtain ⟨A2, c3, he2, -⟩ := HG.out.slice
        rw [HDL.out] at he2
        subst he2
        go_wp2
        clear x1 y1 z1 x3 y3 z3
        go_loopw [7] (fun i wr => ∃ (q : Nat) (v : Value), q ≤ K ∧ i = .int .i64 q ∧ Blk wr w.heap.size #[.int .i64 k, .int .i64 e, .int .i64 n, .slice A d.length c, .slice B ks.length c2] ∧ Blk wr (w.heap.size + 1) #[.int .i64 0, .int .i64 0, .int .i64 0, .slice none 0 0, .slice none 0 0] ∧ Blk wr (w.heap.size + 1 + 1) #[.int .i64 k, .int .i64 e, .int .i64 n, .slice A2 j c3, v] ∧ OwnN wo.heap.size wr v ((trimK ks).take q) ∧ (∀ g, w.heap.size + 1 + 1 + 1 ≤ g → g < wo.heap.size → wr.heap[g]? = wo.heap[g]?) ∧ wo.heap.size ≤ wr.heap.size ∧ Below w.heap.size w wr) (fun i _ => K - (intOf i).toNat)
        case atStart => exact ⟨0, .slice none 0 0, by omega, rfl, HC1.out, HC2.out, HC3.out, OwnN.empty _ _, fun _ _ _ => rfl, Nat.le_refl _, HR.out⟩
        case round =>
          obtain ⟨q, v, hq, rfl, hB1, hB2, hB3, hown, hdat, hszr5, hbr⟩ := hrel
          have HR5 := Lib.hid hbr
          have HE1 := Lib.hid hB1
          have HE2 := Lib.hid hB2
          have HE3 := Lib.hid hB3
          have HOW := Lib.hid hown
          have HDA := Lib.hid hdat
          clear hbr hown hdat hB2
          obtain ⟨x1, y1, z1⟩ := hB1
          obtain ⟨x3, y3, z3⟩ := hB3
          by_cases hlt : q < K
          · have hltk : q < ks.length := by omega
            obtain ⟨b, off, Aa, ca, Ba, cb, rfl, k0, k1, k2, k3, k4, hsub⟩ := HX.out.kids.atIn HR5.out (Nat.le_refl _) hltk
            have hz := sizeN_kid (List.getElem_mem hltk)
            have HC := Lib.hid (fun w' (hb : Below wr.heap.size wr w') => HI.out ks[q] (List.getElem_mem hltk) Aa ca Ba cb w' (hsub.on (bel_on HR5.out hb) (Nat.le_refl _)) (by omega) (HVK.out _ (List.getElem_mem hltk)))
            have hblt : b < w.heap.size := by
              obtain ⟨b', off', _, _, _, _, hBe, h0, _⟩ := HX.out.kids.at hltk
              injection hBe with hBe
              injection hBe with hBe
              subst hBe
              exact World.block_lt_of_cell? w ⟨b, off' + q * 5, none⟩ h0
            have hkn : ∀ wc, Keeps (fun g => wo.heap.size ≤ g) wr.drew wc → wc.cell? ⟨b, off + q * 5, none⟩ = some (.int .i64 ks[q].k) ∧ wc.cell? ⟨b, off + q * 5 + 1, none⟩ = some (.int .i64 ks[q].e) ∧ wc.cell? ⟨b, off + q * 5 + 2, none⟩ = some (.int .i64 ks[q].n) ∧ wc.cell? ⟨b, off + q * 5 + 3, none⟩ = some (.slice Aa ks[q].d.length ca) ∧ wc.cell? ⟨b, off + q * 5 + 4, none⟩ = some (.slice Ba ks[q].ks.length cb) := by
              intro wc hk
              have hb := hk.below (B := w.heap.size) (by show w.heap.size ≤ wr.heap.size; omega) (fun g hg => by omega)
              exact ⟨(hb.cell (p := ⟨b, _, none⟩) hblt).trans k0, (hb.cell (p := ⟨b, _, none⟩) hblt).trans k1, (hb.cell (p := ⟨b, _, none⟩) hblt).trans k2, (hb.cell (p := ⟨b, _, none⟩) hblt).trans k3, (hb.cell (p := ⟨b, _, none⟩) hblt).trans k4⟩
            have HKN := Lib.hid hkn
            have hD1 : ∀ wc, Keeps (fun g => wo.heap.size ≤ g) wr.drew wc → Blk wc w.heap.size #[.int .i64 k, .int .i64 e, .int .i64 n, .slice A d.length c, .slice (some ⟨b, off, none⟩) ks.length c2] := fun wc hk => HE1.out.drew.keeps hk (by omega)
            have hD2 : ∀ wc, Keeps (fun g => wo.heap.size ≤ g) wr.drew wc → Blk wc (w.heap.size + 1) #[.int .i64 0, .int .i64 0, .int .i64 0, .slice none 0 0, .slice none 0 0] := fun wc hk => HE2.out.drew.keeps hk (by omega)
            have hD3 : ∀ wc, Keeps (fun g => wo.heap.size ≤ g) wr.drew wc → Blk wc (w.heap.size + 1 + 1) #[.int .i64 k, .int .i64 e, .int .i64 n, .slice A2 j c3, v] := fun wc hk => HE3.out.drew.keeps hk (by omega)
            have HD1 := Lib.hid hD1
            have HD2 := Lib.hid hD2
            have HD3 := Lib.hid hD3
            have hTK : (trimK ks).take (q + 1) = (trimK ks).take q ++ [trimN ks[q]] := by
              rw [List.take_succ_eq_append_getElem (by rw [trimK_length]; exact hltk), trimK_get ks q hltk]
            have HTK := Lib.hid hTK
            have hln : ((trimK ks).take q).length = q := by rw [List.length_take, trimK_length]; omega
            have HLN := Lib.hid hln
            have hltK : (q : Int) < (K : Int) := by omega
            have hltL : (q : Int) < (ks.length : Int) := by omega
            clear hkn hD1 hD2 hD3 hsub k0 k1 k2 k3 k4 hTK hln
            generalize trimN ks[q] = ky at *
            generalize ks[q] = kx at *
            go_wp2_with fail
            clear x1 y1 z1 x3 y3 z3
            refine wp_region_a11 9 (fun g => wo.heap.size ≤ g) (by kernel_rfl) (by kernel_rfl) ?_
            refine a_val_l (u := ?_) [5] (by kernel_rfl) rfl (by kernel_rfl) trivial (fun ρ wc hbc hcn hk => ?_) ?_; rotate_left
            · obtain ⟨hcn, -⟩ := hcn
              simp at hk
              go_simp
              rfl
            refine a_val (u := ?_) [53] (by kernel_rfl) rfl rfl (by kernel_rfl) trivial (fun ρ wc hbc hcn hk => ?_) ?_; rotate_left
            · obtain ⟨hcn, -⟩ := hcn
              simp at hk
              obtain ⟨x3, y3, z3⟩ := HD3.out wc (keeps_of hbc)
              go_simp
              rfl
            refine a_val_l (u := ?_) [1] (by kernel_rfl) rfl (by kernel_rfl) trivial (fun ρ wc hbc hcn hk => ?_) ?_; rotate_left
            · obtain ⟨hcn, -⟩ := hcn
              simp at hk
              go_simp
              rfl
            refine a_val_l (u := ?_) [55] (by kernel_rfl) rfl (by kernel_rfl) trivial (fun ρ wc hbc hcn hk => ?_) ?_; rotate_left
            · obtain ⟨hcn, -⟩ := hcn
              simp at hk
              obtain ⟨x1, y1, z1⟩ := HD1.out wc hbc
              go_simp
              rfl
            refine a_val_l (u := ?_) [7] (by kernel_rfl) rfl (by kernel_rfl) trivial (fun ρ wc hbc hcn hk => ?_) ?_; rotate_left
            · obtain ⟨hcn, -⟩ := hcn
              simp at hk
              go_simp
              rfl
            refine a_val_l (u := ?_) [56, 57] (by kernel_rfl) rfl (by kernel_rfl) trivial (fun ρ wc hbc hcn hk => ?_) ?_; rotate_left
            · obtain ⟨hcn, -⟩ := hcn
              simp at hk
              go_simp
              rfl
            refine a_val_l (u := ?_) [58] (by kernel_rfl) rfl (by kernel_rfl) trivial (fun ρ wc hbc hcn hk => ?_) ?_; rotate_left
            · obtain ⟨hcn, -⟩ := hcn
              simp at hk
              obtain ⟨k0, k1, k2, k3, k4⟩ := HKN.out wc hbc
              go_simp
              rfl
            refine a_call (T := NodF wr.heap.size ky) 21 [59] (by kernel_rfl) rfl rfl (by kernel_rfl) trivial (stable_nod _ _) (fun ρ wc hbc hcn hk => ?_) ?_
            · obtain ⟨hcn, hfn⟩ := hcn
              simp at hk
              refine ⟨_, by go_simp; rfl, ?_⟩
              refine (HC.out wc ⟨hbc.os, hbc.tape, hbc.output, hbc.size, hbc.block⟩).mono ?_
              rintro r w' ⟨v5, rfl, ⟨A5, c5, B5, c6, hi5, rfl, h5, h6⟩, hb5⟩
              exact ⟨_, rfl, ⟨A5, c5, B5, c6, hi5, rfl, h5, h6.wide hbc.size (Nat.le_refl _)⟩, hb5⟩
            refine a_new (T := OneF wr.heap.size ky) [60] (by kernel_rfl) rfl rfl (by kernel_rfl) trivial (stable_one _ _) (fun ρ wc hbc hcn hk => ?_) ?_
            · obtain ⟨hcn, hfn⟩ := hcn
              simp at hk
              obtain ⟨A5, c5, B5, c6, hi5, h4, h5, h6⟩ := hk
              refine ⟨.slice (some ⟨wc.heap.size, 0, none⟩) 1 1, wc.alloc (.cells (fiveC ky A5 c5 B5 c6).toArray 30), ?_, ⟨wc.heap.size, A5, c5, B5, c6, hi5, rfl, fun o ho => ?_, ?_, h6.below ((Below.refl _ _).alloc (Nat.le_refl _) _) h5⟩, (Below.refl _ _).alloc (Nat.le_refl _) _⟩
              · go_simp
                rfl
              · rw [blk_new]
                simp
              · simp; omega
            refine a_sp (T := OwnF wo.heap.size ((trimK ks).take q ++ [ky])) [54, 61] rfl rfl (by kernel_rfl) trivial (stable_ownF _ _) (fun a wc hbc hcn hk => ?_) ?_
            · obtain ⟨h20, h27, -⟩ := hk
              obtain ⟨qq, A5, c5, B5, c6, hi5, h4, h5, h6, h7⟩ := h27
              refine wpList_appO rfl (.tmp 54) (.tmp 61) 28 rfl Tryz.underlying28 h20 (HOW.out.below (N := wr.heap.size) ⟨hbc.os, hbc.tape, hbc.output, hbc.size, hbc.block⟩ (Nat.le_refl _)) h4 h5 hszr5 h6 (fun g hg => ?_) h7 (by rw [HLN.out]; omega) (Nat.le_trans hszr5 hbc.size) ?_
              · obtain ⟨vs, hv1, _⟩ := HOW.out
                exact (hv1.lt g hg).2
              · intro v' w' hown' hgr
                refine ⟨rfl, v', rfl, hown', ?_⟩
                rw [if_pos rfl]
                refine ⟨hgr.os, hgr.tape, hgr.output, hgr.size, fun q1 h1 h2 => hgr.block q1 h1 fun e => h2 ?_⟩
                obtain ⟨vs, hv1, _⟩ := HOW.out
                exact (hv1.lt q1 e.symm).1
            refine a_val_l (u := ?_) [5] (by kernel_rfl) rfl (by kernel_rfl) trivial (fun ρ wc hbc hcn hk => ?_) ?_; rotate_left
            · obtain ⟨hcn, -⟩ := hcn
              simp at hk
              go_simp
              rfl
            refine a_end_lit 65 rfl (fun ff w7 hb7 hk => ?_)
            have hO2 : OwnN wo.heap.size w7 (ff 62) ((trimK ks).take q ++ [ky]) := allN_at10d hk 62 (by decide) (by decide)
            simp [AllN] at hk
            simp only [frameL, hk, Nat.zero_add, Nat.reduceAdd]
            obtain ⟨B8, c8, hv8, -⟩ := hO2.slice
            rw [show ((trimK ks).take q ++ [ky]).length = q + 1 by rw [List.length_append, HLN.out]; rfl] at hv8
            have HO2 := Lib.hid hO2
            have HB7 := Lib.hid hb7
            have hs7 : wr.heap.size ≤ w7.heap.size := hb7.size
            clear hO2 hb7 hk
            rw [hv8] at HO2
            rw [hv8]
            clear hv8
            generalize ff 60 = v60
            generalize ff 61 = v61
            obtain ⟨x3, y3, z3⟩ := HD3.out w7 HB7.out
            go_wp2
            go_roundw
            case rel =>
              refine ⟨q + 1, _, by omega, by go_num, (HD1.out w7 HB7.out).other (by show w.heap.size + 1 + 1 ≠ w.heap.size; omega) _, (HD2.out w7 HB7.out).other (by show w.heap.size + 1 + 1 ≠ w.heap.size + 1; omega) _, (HD3.out w7 HB7.out).set 4 (by simp) _, ?_, fun g h1 h2 => ?_, by simp; omega, ?_⟩
              · refine OwnN.cast ?_ HTK.out.symm
                exact OwnN.far (p := ⟨w.heap.size + 1 + 1, 4, none⟩) HO2.out (by show w.heap.size + 1 + 1 < wo.heap.size; omega) _
              · rw [Below.heap_setCell _ _ _ _ (by show g ≠ w.heap.size + 1 + 1; omega), HB7.out.block g (by show g < wr.heap.size; omega) (by omega)]
                exact HDA.out g h1 h2
              · refine Below.setCell ?_ (by show w.heap.size ≤ w.heap.size + 1 + 1; omega) _
                exact (bel_drew HR5.out).trans (HB7.out.below (B := w.heap.size) (by show w.heap.size ≤ wr.heap.size; omega) (fun g hg => by omega))
            case measure => simp [intOf]; omega
          · obtain rfl : q = K := by omega
            obtain ⟨B9, c9, he9, -⟩ := HOW.out.slice
            have hlK : ((trimK ks).take q).length = q := HKL.out
            rw [hlK] at he9
            subst he9
            have hgd : Got wr (w.heap.size + 1 + 1 + 1) 5 .u8 (.slice A2 (d.take j).length c3) (d.take j) := got_agree (HG.out.cast (by rw [HDL.out]) rfl) fun g h1 h2 => HDA.out g h1 h2
            have hO := HO.out
            have HN := Lib.hid ((HOW.out.mono (base' := w.heap.size + 1 + 1 + 1) (by omega)).node hO.1 hO.2.1 hO.2.2.1 hgd (fun z hz => HBT.out z (List.mem_of_mem_take hz)))
            rw [← HT.out] at HN
            clear hgd hO
            obtain ⟨x2, y2, z2⟩ := HE2.out
            go_wp2
            refine abs_post (F := fun W => Blk W (w.heap.size + 1) #[.int .i64 k, .int .i64 e, .int .i64 n, .slice A2 j c3, .slice B9 q c9] ∧ NdO (w.heap.size + 1 + 1 + 1) W.heap.size W A2 c3 B9 c9 tx ∧ Below w.heap.size w W) ⟨?_, ?_, ?_⟩ ?_
            · exact ((((HE2.out.set 0 (by simp) _).set 1 (by simp) _).set 2 (by simp) _).set 3 (by simp) _).set 4 (by simp) _
            · have e5 : ∀ g, g ≠ w.heap.size + 1 → (((((wr.setCell ⟨w.heap.size + 1, 0, none⟩ (.int .i64 k)).setCell ⟨w.heap.size + 1, 1, none⟩ (.int .i64 e)).setCell ⟨w.heap.size + 1, 2, none⟩ (.int .i64 n)).setCell ⟨w.heap.size + 1, 3, none⟩ (.slice A2 j c3)).setCell ⟨w.heap.size + 1, 4, none⟩ (.slice B9 q c9)).heap[g]? = wr.heap[g]? := by
                intro g hg
                rw [Below.heap_setCell _ _ _ _ hg, Below.heap_setCell _ _ _ _ hg, Below.heap_setCell _ _ _ _ hg, Below.heap_setCell _ _ _ _ hg, Below.heap_setCell _ _ _ _ hg]
              simpa using HN.out.to fun g g1 _ => e5 g (by omega)
            · refine Below.setCell (Below.setCell (Below.setCell (Below.setCell (Below.setCell HR5.out ?_ _) ?_ _) ?_ _) ?_ _) ?_ _ <;> (show w.heap.size ≤ w.heap.size + 1; omega)
            rintro W5 ⟨B6, hN, hbw⟩
            have hve : Value.agg #[.int .i64 k, .int .i64 e, .int .i64 n, .slice A2 j c3, .slice B9 q c9] = .agg #[.int .i64 tx.k, .int .i64 tx.e, .int .i64 tx.n, .slice A2 tx.d.length c3, .slice B9 tx.ks.length c9] := by
              rw [HT.out]
              simp only [Nd.k, Nd.e, Nd.n, Nd.d, Nd.ks, HDL.out, HKL.out]
            exact bodyPost_ret (v := .agg #[.int .i64 k, .int .i64 e, .int .i64 n, .slice A2 j c3, .slice B9 q c9]) (by simp [results, Tryz.results21, go_sem, B6.cell]) rfl ⟨_, rfl, ⟨A2, c3, B9, c9, _, hve, Nat.le_refl _, hN.wide (by omega) (Nat.le_refl _)⟩, hbw⟩
end Go.Proofs.YtnmanhediiooaaaGreatDoor

/- What lies in memory although new variables of the type Node, whose first cell is still zero, are written: for statements that make a variable and what is stored into it in any order. -/
namespace Go.Proofs.YtnmanhediiooaaaGreatDoor
open Go.ChangeShapes Go.WideShapes Go.ChangeAt Go.RowKit
set_option linter.unusedVariables false
set_option linter.unusedSimpArgs false
set_option maxRecDepth 100000

theorem Ri.agree {w W : World} {k : IntKind} {A : Option Addr} {zs : List Int} (h : Ri w k A zs) {N : Nat} (hw : ∀ q, q < N → W.heap[q]? = w.heap[q]?) (hN : w.heap.size ≤ N) : Ri W k A zs := by
  rcases h with rfl | ⟨b, off, rfl, h⟩
  · exact .inl rfl
  · refine .inr ⟨b, off, rfl, fun j hj => ?_⟩
    have hlt : b < w.heap.size := World.block_lt_of_cell? w ⟨b, off + j, none⟩ (h j hj)
    rw [World.cell?_of_block (w := w) (hw b (by omega))]
    exact h j hj
theorem NdR.agree {w W : World} {A : Option Addr} {c : Nat} {B : Option Addr} {c2 : Nat} {x : Nd} (h : NdR w A c B c2 x) {N : Nat} (hw : ∀ q, q < N → W.heap[q]? = w.heap[q]?) (hN : w.heap.size ≤ N) : NdR W A c B c2 x := by
  induction h with
  | mk k e n d ks A c B c2 FA Fc FB Fc2 hk he hn hd hby hdl hc hA hkl hc2 hB hcell hsub ih =>
    refine .mk k e n d ks A c B c2 FA Fc FB Fc2 hk he hn (hd.agree hw hN) hby hdl hc hA hkl hc2 hB ?_ ih
    rcases hcell with h | ⟨b, off, hBe, hcs⟩
    · exact .inl h
    · refine .inr ⟨b, off, hBe, fun j x hj => ?_⟩
      obtain ⟨h0, h1, h2, h3, h4⟩ := hcs j x hj
      have hlt : b < w.heap.size := World.block_lt_of_cell? w ⟨b, off + j * 5, none⟩ h0
      have hc := fun o => World.cell?_of_block (w := w) (a := ⟨b, o, none⟩) (hw b (by omega))
      exact ⟨(hc _).trans h0, (hc _).trans h1, (hc _).trans h2, (hc _).trans h3, (hc _).trans h4⟩

/-- the blocks that are no new variable of the type Node (of those from B on, such with another first cell than zero) -/
def OkB (B : Nat) (w : World) (k : Nat) : Prop := k < w.heap.size ∧ (k < B ∨ w.cell? ⟨k, 0, none⟩ ≠ some (.int .i64 0))
/-- P holds in each world that agrees with w on these blocks -/
def Rob (B : Nat) (w : World) (P : World → Prop) : Prop := ∀ W : World, (∀ k, OkB B w k → W.heap[k]? = w.heap[k]?) → P W
theorem Rob.on {B : Nat} {w w' : World} {P : World → Prop} (h : Rob B w P) (hb : Below w.heap.size w w') : Rob B w' P := fun W hW => h W fun k hk => by
  have e := hb.block k hk.1
  refine (hW k ⟨Nat.lt_of_lt_of_le hk.1 hb.size, ?_⟩).trans e
  rw [World.cell?_of_block (w := w) (a := ⟨k, 0, none⟩) e]
  exact hk.2
/-- a store into such a variable -/
theorem Rob.to {B : Nat} {w W : World} {P : World → Prop} (h : Rob B w P) {b : Nat} (hB : B ≤ b) (hz : w.cell? ⟨b, 0, none⟩ = some (.int .i64 0)) (hW : ∀ k, k ≠ b → W.heap[k]? = w.heap[k]?) : P W := h W fun k hk => hW k fun e => by
  subst e
  rcases hk.2 with h1 | h1
  · omega
  · exact h1 hz
theorem Rob.and {B : Nat} {w : World} {P P2 : World → Prop} (h : Rob B w P) (h2 : Rob B w P2) : Rob B w fun W => P W ∧ P2 W := fun W hW => ⟨h W hW, h2 W hW⟩
end Go.Proofs.YtnmanhediiooaaaGreatDoor

/- Rows of the call's own of nodes that came in: 'append([]Node{}, a...)' as an operation that makes memory, and one node more. -/
namespace Go.Proofs.YtnmanhediiooaaaGreatDoor
open Go.ChangeShapes Go.WideShapes Go.ChangeAt Go.RowKit
set_option linter.unusedVariables false
set_option linter.unusedSimpArgs false
set_option maxRecDepth 100000

theorem OwnK.below {W0 w w' : World} {base : Nat} {v : Value} {ts : List Nd} (h : OwnK W0 w base v ts) {N : Nat} (hb : Below N w w') (hN : w.heap.size ≤ N) : OwnK W0 w' base v ts := by
  obtain ⟨vs, h1, h2⟩ := h
  exact ⟨vs, ownsRow_below h1 hb hN, h2⟩
theorem OwnK.far {W0 w : World} {base : Nat} {v : Value} {ts : List Nd} (h : OwnK W0 w base v ts) {p : Addr} (hp : p.block < base) (u : Value) : OwnK W0 (w.setCell p u) base v ts := by
  obtain ⟨vs, h1, h2⟩ := h
  exact ⟨vs, ownsRow_setCell_below h1 hp u, h2⟩
end Go.Proofs.YtnmanhediiooaaaGreatDoor

/- The traversal of the reference: Struct, given Value. -/
namespace Go.Proofs.YtnmanhediiooaaaGreatDoor
open Go.ChangeShapes Go.WideShapes Go.ChangeAt Go.RowKit
set_option linter.unusedVariables false
set_option linter.unusedSimpArgs false
set_option maxRecDepth 100000

/-- what Value does with r nested objects to go -/
def ValC (A : Option Addr) (c : Nat) (ls : List (List Int)) (D X O : Int) (r : Nat) : Prop := ∀ (m s a dep : Int) (w : World), Sg w A ls → 0 ≤ m → m ≤ 4611686018427387904 → 0 ≤ dep → dep ≤ 1000 → (D - dep + 1).toNat = r →
  Calls Tryz.prog 19 #[.slice A ls.length c, .agg #[.int .i64 D, .int .i64 X, .int .i64 O], .agg #[.int .i64 m], .int .i64 s, .int .i64 a, .int .i64 dep] w fun e w' => ∃ v, e = .returned (.tuple #[v, .agg #[.int .i64 (valV ls r m s a).m], .int .i64 (valV ls r m s a).e]) ∧ NodF w.heap.size (valV ls r m s a).n v w' ∧ Below w.heap.size w w'
theorem OwnN.blk {base : Nat} {w : World} {v : Value} {ts : List Nd} (h : OwnN base w v ts) : ∀ g, v.ownBlock = some g → base ≤ g ∧ g < w.heap.size := by
  obtain ⟨vs, h1, -⟩ := h
  exact h1.lt
theorem nod_zero (lo : Nat) (w : World) : NodF lo nd0 (.agg #[.int .i64 0, .int .i64 0, .int .i64 0, .slice none 0 0, .slice none 0 0]) w := ⟨none, 0, none, 0, 0, rfl, Nat.zero_le _, fun W _ => nd0_here W 0 (by decide)⟩
theorem sliceW {ls : List (List Int)} {A : Option Addr} {c : Nat} (hm : ls.length ≤ 40) (hf : ∀ j, (seg ls j).length ≤ 20000000) (s a n : Int) (w : World) (hs : Sg w A ls) :
    Calls Tryz.prog 40 #[.slice A ls.length c, .int .i64 s, .int .i64 a, .int .i64 n] w fun e w' => ∃ v b, e = .returned (.tuple #[v, .bool b]) ∧ Got w' w.heap.size 41 .u64 v (datW ls s a n) ∧ Below w.heap.size w w' := by
  cases h : inB ls s a n with
  | false =>
    refine (RefSlice_no A c ls s a n w hs (by omega) h).mono ?_
    rintro e w' ⟨rfl, rfl⟩
    refine ⟨_, _, rfl, ?_, Below.refl _ _⟩
    unfold datW
    rw [if_neg (by rw [h]; simp)]
    exact Got.empty _ _ _ _
  | true =>
    obtain ⟨h1, h2, h3, h4, h5⟩ := inB_iff.1 h
    obtain ⟨S, rfl⟩ := Int.eq_ofNat_of_zero_le h1
    obtain ⟨K, rfl⟩ := Int.eq_ofNat_of_zero_le h3
    obtain ⟨N, rfl⟩ := Int.eq_ofNat_of_zero_le h4
    have hl := hf S
    rw [Int.toNat_natCast] at h5
    refine (RefSlice_yes A c ls S K N w hs (by omega) (by omega) (by omega) (by omega) h).mono ?_
    rintro e w' ⟨v, rfl, h6, h7⟩
    refine ⟨_, _, rfl, ?_, h7⟩
    unfold datW
    rw [if_pos h]
    exact h6
theorem datW_wds {ls : List (List Int)} (hw : Wd2 ls) (s a n : Int) : Wds (datW ls s a n) := by
  unfold datW
  split
  · intro z hz
    exact (hw.at s.toNat) z (List.mem_of_mem_drop (List.mem_of_mem_take hz))
  · intro z hz; cases hz
theorem datW_length {ls : List (List Int)} (hf : ∀ j, (seg ls j).length ≤ 20000000) (s a n : Int) : (datW ls s a n).length ≤ 20000000 := by
  unfold datW
  split
  · unfold sliceL
    rw [List.length_take, List.length_drop]
    have := hf s.toNat
    omega
  · simp

set_option maxHeartbeats 8000000 in
set_option maxRecDepth 100000 in
theorem RefStruct12 (A : Option Addr) (c : Nat) (ls : List (List Int)) (D X O : Int) (r : Nat) (hV : ValC A c ls D X O r) (hw : Wd2 ls) (hm : ls.length ≤ 40) (hf : ∀ j, (seg ls j).length ≤ 20000000) (m : Int) (o : Ob) (dep : Int) (w : World) (hs : Sg w A ls) (hm0 : 0 ≤ m) (hm1 : m ≤ 4611686018427387904)
    (hd0 : 0 ≤ dep) (hd1 : dep ≤ 999) (hr : (D - dep).toNat = r) (ho1 : 0 ≤ o.at') (ho2 : o.at' ≤ 100000000000) (ho3 : 0 ≤ o.d) (ho4 : o.d ≤ 65535) (ho5 : 0 ≤ o.p) (ho6 : o.p ≤ 65535) :
    Calls Tryz.prog 39 #[.slice A ls.length c, .agg #[.int .i64 D, .int .i64 X, .int .i64 O], .agg #[.int .i64 m], .agg #[.int .i64 o.k, .int .i64 o.sg, .int .i64 o.at', .int .i64 o.d, .int .i64 o.p, .int .i64 o.el, .int .i64 o.n, .int .i64 o.cost], .int .i64 dep] w fun e w' => ∃ v, e = .returned (.tuple #[v, .agg #[.int .i64 (structV (valV ls r) ls m o).m], .int .i64 (structV (valV ls r) ls m o).e]) ∧ NodF w.heap.size (structV (valV ls r) ls m o).n v w' ∧ Below w.heap.size w w' := by
  have Hs := Lib.hid hs
  have HV := Lib.hid hV
  have HR : Hid ((D - (dep + 1) + 1).toNat = r) := Lib.hid (by omega)
  obtain ⟨P, hP⟩ := Int.eq_ofNat_of_zero_le ho5
  have hPl : P ≤ 65535 := by omega
  have HPE := Lib.hid hP
  obtain ⟨f, hfe⟩ : ∃ f : Int → Nat → Val, f = fun (m : Int) (i : Nat) => valV ls r m o.sg (o.at' + o.d + (i : Int)) := ⟨_, rfl⟩
  have HFE := Lib.hid hfe
  have HMB := Lib.hid (fun (i : Nat) => runK_ind (f := f) (m := m) (fun x => 0 ≤ x ∧ x ≤ m) ⟨hm0, Int.le_refl _⟩ i (fun m' i _ hh => by
    have h := valV_m hw hm hf r m' o.sg (o.at' + o.d + i) hh.1
    rw [hfe]
    show 0 ≤ (valV ls r m' o.sg (o.at' + o.d + i)).m ∧ (valV ls r m' o.sg (o.at' + o.d + i)).m ≤ m
    omega))
  have HSV : Hid (structV (valV ls r) ls m o = if (runK f m P).e ≠ 0 then errV (runK f m P).m (runK f m P).e else ⟨.mk 1 0 0 (bytesOf (datW ls o.sg o.at' o.d)) (runK f m P).ks, (runK f m P).m, 0⟩) := Lib.hid (by unfold structV; rw [hP, Int.toNat_natCast, hfe])
  have HSL := Lib.hid (fun w' hs' => sliceW (A := A) (c := c) hm hf o.sg o.at' o.d w' hs')
  have HDW := Lib.hid (datW_wds hw o.sg o.at' o.d)
  have HDL := Lib.hid (datW_length hf o.sg o.at' o.d)
  clear hs hV hfe hP hw hf
  generalize hsv : structV (valV ls r) ls m o = sv at *
  clear hsv
  generalize datW ls o.sg o.at' o.d = dw at *
  go_enter Tryz.func39, Tryz.ntmps39
  go_wp2_with fail
  refine abs_world (F := fun W => Blk W w.heap.size #[.int .i64 D, .int .i64 X, .int .i64 O] ∧ Blk W (w.heap.size + 1) #[.int .i64 m] ∧ Blk W (w.heap.size + 1 + 1) #[.int .i64 o.k, .int .i64 o.sg, .int .i64 o.at', .int .i64 o.d, .int .i64 o.p, .int .i64 o.el, .int .i64 o.n, .int .i64 o.cost] ∧ Blk W (w.heap.size + 1 + 1 + 1) #[.int .i64 0, .int .i64 0, .int .i64 0, .slice none 0 0, .slice none 0 0] ∧ Blk W (w.heap.size + 1 + 1 + 1 + 1) #[.int .i64 0] ∧ Blk W (w.heap.size + 1 + 1 + 1 + 1 + 1) #[.int .i64 1, .int .i64 0, .int .i64 0, .slice none 0 0, .slice none 0 0] ∧ Below w.heap.size w W ∧ W.heap.size = w.heap.size + 6) ⟨?_, ?_, ?_, ?_, ?_, ?_, ?_, ?_⟩ ?_
  · exact (((((Blk.fresh _ _ _).alloc _).alloc _).alloc _).alloc _).alloc _
  · exact ((((Blk.new (by simp)).alloc _).alloc _).alloc _).alloc _
  · exact (((Blk.new (by simp)).alloc _).alloc _).alloc _
  · exact ((Blk.new (by simp)).alloc _).alloc _
  · exact (Blk.new (by simp)).alloc _
  · exact Blk.new (by simp)
  · exact ((((((Below.refl _ _).alloc (Nat.le_refl _) _).alloc (by simp) _).alloc (by simp; omega) _).alloc (by simp; omega) _).alloc (by simp; omega) _).alloc (by simp; omega) _
  · simp
  rintro W ⟨h0, h1, h2, h3, h4, h5, hb, hsz⟩
  refine (HSL.out W (Hs.out.below hb (Nat.le_refl _))).mono ?_
  rintro e w1 ⟨v1, b1, rfl, hg1, hb1⟩
  obtain ⟨A3, c3, rfl, hcl3, hcm3, hri3, hcn3⟩ := hg1.full
  have K0 := Lib.hid (h0.below hb1)
  have K1 := Lib.hid (h1.below hb1)
  have K2 := Lib.hid (h2.below hb1)
  have K3 := Lib.hid (h3.below hb1)
  have K4 := Lib.hid (h4.below hb1)
  have K5 := Lib.hid (h5.below hb1)
  have HB := Lib.hid (bel_on hb hb1)
  have HBY := Lib.hid (RefBytes_any A3 c3 dw w1 hri3 HDW.out (by have := HDL.out; omega))
  have hsz1 : w.heap.size + 6 ≤ w1.heap.size := by have := hb1.size; omega
  clear h0 h1 h2 h3 h4 h5 hb hsz hb1 hg1 hcl3 hcm3 hri3 hcn3
  go_wp2_with fail
  refine HBY.out.mono ?_
  rintro e w2 ⟨v2, rfl, hg2, hb2⟩
  obtain ⟨A2, c2, rfl, hcl2, hcm2, hri2, hcn2⟩ := hg2.full
  have K0n := Lib.hid (K0.out.below hb2)
  have k1 := K1.out.below hb2
  have K2n := Lib.hid (K2.out.below hb2)
  have K3n := Lib.hid (K3.out.below hb2)
  have K4n := Lib.hid (K4.out.below hb2)
  have k5 := K5.out.below hb2
  have HBn := Lib.hid (bel_on HB.out hb2)
  have HDT := Lib.hid (hg2.mono (base' := w.heap.size + 6) hsz1)
  have hsz2 : w.heap.size + 6 ≤ w2.heap.size := by have := hb2.size; omega
  clear K0 K1 K2 K3 K4 K5 HB hb2 hg2 hcl2 hcm2 hri2 hcn2 HBY HDW
  have K0 := K0n
  have K1 := Lib.hid k1
  have K2 := K2n
  have K3 := K3n
  have K4 := K4n
  have K5 := Lib.hid k5
  have HB := HBn
  clear K0n K2n K3n K4n HBn
  obtain ⟨x1, y1, z1⟩ := k1
  obtain ⟨x5, y5, z5⟩ := k5
  generalize hdl : (bytesOf dw).length = dl at *
  have HDLE := Lib.hid hdl
  clear hdl
  go_wp2
  go_loopw [17] (fun i wr => ∃ (j : Nat) (v : Value), j ≤ P ∧ i = .int .i64 j ∧ (runK f m j).e = 0 ∧ Blk wr w.heap.size #[.int .i64 D, .int .i64 X, .int .i64 O] ∧ Blk wr (w.heap.size + 1 + 1) #[.int .i64 o.k, .int .i64 o.sg, .int .i64 o.at', .int .i64 o.d, .int .i64 o.p, .int .i64 o.el, .int .i64 o.n, .int .i64 o.cost] ∧ Blk wr (w.heap.size + 1 + 1 + 1) #[.int .i64 0, .int .i64 0, .int .i64 0, .slice none 0 0, .slice none 0 0] ∧ Blk wr (w.heap.size + 1 + 1 + 1 + 1) #[.int .i64 0] ∧ Blk wr (w.heap.size + 1 + 1 + 1 + 1 + 1) #[.int .i64 1, .int .i64 0, .int .i64 0, .slice A2 dl c2, v] ∧ Blk wr w2.heap.size #[.int .i64 (runK f m j).m] ∧ OwnN (w2.heap.size + 1) wr v (runK f m j).ks ∧ (∀ q, w.heap.size + 6 ≤ q → q < w2.heap.size → wr.heap[q]? = w2.heap[q]?) ∧ w2.heap.size + 1 ≤ wr.heap.size ∧ Below w.heap.size w wr) (fun i _ => P - (intOf i).toNat)
  case atStart =>
    refine ⟨0, .slice none 0 0, Nat.zero_le _, rfl, rfl, ?_, ?_, ?_, ?_, ?_, ?_, OwnN.empty _ _, ?_, ?_, ?_⟩
    · exact (K0.out.other (by simp; omega) _).alloc _
    · exact (K2.out.other (by simp; omega) _).alloc _
    · exact (K3.out.other (by simp; omega) _).alloc _
    · exact (K4.out.other (by simp) _).alloc _
    · exact (K5.out.set 3 (by simp) _).alloc _
    · exact Blk.new (by simp [World.setCell])
    · intro q h1 h2
      rw [Below.heap_alloc _ _ _ (by simp [World.setCell]; omega), Below.heap_setCell _ _ _ _ (by show q ≠ w.heap.size + 1 + 1 + 1 + 1 + 1; omega)]
    · simp [World.setCell]
    · exact (HB.out.setCell (by show w.heap.size ≤ w.heap.size + 1 + 1 + 1 + 1 + 1; omega) _).alloc (by have := HB.out.size; simp [World.setCell]; omega) _
  case round =>
    obtain ⟨j, v, hj, rfl, hej, h0, h2, h3, h4, h5, hq, hown, hdat, hszr, hbr⟩ := hrel
    clear K0 K1 K2 K3 K4 K5 HB x1 y1 z1 x5 y5 z5
    have K0 := Lib.hid h0
    have K2 := Lib.hid h2
    have K3 := Lib.hid h3
    have K4 := Lib.hid h4
    have K5 := Lib.hid h5
    have KQ := Lib.hid hq
    have HOW := Lib.hid hown
    have HDA := Lib.hid hdat
    have HB := Lib.hid hbr
    have HEJ := Lib.hid hej
    clear h3 h4 h5 hown hdat hbr hej
    obtain ⟨x0, y0, z0⟩ := h0
    obtain ⟨x2, y2, z2⟩ := h2
    obtain ⟨xq, yq, zq⟩ := hq
    have hmb := HMB.out j
    by_cases hlt : j < P
    · have hpi : (j : Int) < o.p := by rw [HPE.out]; omega
      generalize hrj : runK f m j = rj at *
      have HRJ := Lib.hid hrj
      clear hrj
      have HVJ := Lib.hid (HV.out rj.m o.sg (o.at' + o.d + j) (dep + 1) wr (Hs.out.below HB.out (Nat.le_refl _)) hmb.1 (by omega) (by omega) (by omega) HR.out)
      have HFJ : Hid (valV ls r rj.m o.sg (o.at' + o.d + j) = f rj.m j) := Lib.hid (by rw [HFE.out])
      rw [HFJ.out] at HVJ
      generalize hfj : f rj.m j = fj at *
      have HFQ := Lib.hid hfj
      clear HFJ hfj
      go_wp2_with fail
      refine HVJ.out.mono ?_
      rintro e w4 ⟨v4, rfl, ⟨Ak, ck, Bk, ek, hik, rfl, hhk, hok⟩, hb4⟩
      have hvb := (OwnN.blk HOW.out)
      have K0n := Lib.hid (K0.out.below hb4)
      have K2n := Lib.hid (K2.out.below hb4)
      have K3n := Lib.hid (K3.out.below hb4)
      have K4n := Lib.hid (K4.out.below hb4)
      have K5n := Lib.hid (K5.out.below hb4)
      have KQn := Lib.hid (KQ.out.below hb4)
      have HOWn := Lib.hid (HOW.out.below hb4 (Nat.le_refl _))
      have HDAn : Hid (∀ q, w.heap.size + 6 ≤ q → q < w2.heap.size → w4.heap[q]? = w2.heap[q]?) := Lib.hid (fun q h1 h2 => (hb4.block q (by omega)).trans (HDA.out q h1 h2))
      have HBn := Lib.hid (bel_on HB.out hb4)
      have hsz4 := hb4.size
      have HNK := Lib.hid hok
      clear K0 K2 K3 K4 K5 KQ HOW HDA HB hb4 hok x0 y0 z0 x2 y2 z2 xq yq zq HVJ
      have K0 := K0n
      have K2 := K2n
      have K3 := K3n
      have K4 := K4n
      have K5 := K5n
      have KQ := KQn
      have HOW := HOWn
      have HDA := HDAn
      have HB := HBn
      clear K0n K2n K3n K4n K5n KQn HOWn HDAn HBn
      by_cases hfe : fj.e = 0
      · have HFE0 := Lib.hid hfe
        have t20 : (fj.e != 0) = false := by rw [hfe]; rfl
        clear hfe
        have yq := (KQ.out.alloc (.cells #[.int .i64 fj.n.k, .int .i64 fj.n.e, .int .i64 fj.n.n, .slice Ak fj.n.d.length ck, .slice Bk fj.n.ks.length ek] 30)).cell
        have yf := (KQ.out.alloc (.cells #[.int .i64 fj.n.k, .int .i64 fj.n.e, .int .i64 fj.n.n, .slice Ak fj.n.d.length ck, .slice Bk fj.n.ks.length ek] 30)).free
        have zq := ((KQ.out.alloc (.cells #[.int .i64 fj.n.k, .int .i64 fj.n.e, .int .i64 fj.n.n, .slice Ak fj.n.d.length ck, .slice Bk fj.n.ks.length ek] 30)).alloc (.cells #[.int .i64 fj.m] 55)).cell
        have zf := ((KQ.out.alloc (.cells #[.int .i64 fj.n.k, .int .i64 fj.n.e, .int .i64 fj.n.n, .slice Ak fj.n.d.length ck, .slice Bk fj.n.ks.length ek] 30)).alloc (.cells #[.int .i64 fj.m] 55)).free
        have z5 := ((K5.out.alloc (.cells #[.int .i64 fj.n.k, .int .i64 fj.n.e, .int .i64 fj.n.n, .slice Ak fj.n.d.length ck, .slice Bk fj.n.ks.length ek] 30)).alloc (.cells #[.int .i64 fj.m] 55)).cell
        go_wp2_with (at_builtin; refine hold_it ?_)
        refine Lib.hid ?_
        refine abs_list (F := fun W => Blk W w.heap.size #[.int .i64 D, .int .i64 X, .int .i64 O] ∧ Blk W (w.heap.size + 1 + 1) #[.int .i64 o.k, .int .i64 o.sg, .int .i64 o.at', .int .i64 o.d, .int .i64 o.p, .int .i64 o.el, .int .i64 o.n, .int .i64 o.cost] ∧ Blk W (w.heap.size + 1 + 1 + 1) #[.int .i64 0, .int .i64 0, .int .i64 0, .slice none 0 0, .slice none 0 0] ∧ Blk W (w.heap.size + 1 + 1 + 1 + 1) #[.int .i64 0] ∧ Blk W (w.heap.size + 1 + 1 + 1 + 1 + 1) #[.int .i64 1, .int .i64 0, .int .i64 0, .slice A2 dl c2, v] ∧ Blk W w2.heap.size #[.int .i64 fj.m] ∧ OwnN (w2.heap.size + 1) W v rj.ks ∧ (∀ q, w.heap.size + 6 ≤ q → q < w2.heap.size → W.heap[q]? = w2.heap[q]?) ∧ Blk W (w4.heap.size + 1 + 1) #[.int .i64 fj.n.k, .int .i64 fj.n.e, .int .i64 fj.n.n, .slice Ak fj.n.d.length ck, .slice Bk fj.n.ks.length ek] ∧ NdO wr.heap.size hik W Ak ck Bk ek fj.n ∧ Below w.heap.size w W ∧ W.heap.size = w4.heap.size + 1 + 1 + 1) ⟨?_, ?_, ?_, ?_, ?_, ?_, ?_, ?_, ?_, ?_, ?_, ?_⟩ ?_
        · exact (((K0.out.alloc _).alloc _).other (by simp; omega) _).alloc _
        · exact (((K2.out.alloc _).alloc _).other (by simp; omega) _).alloc _
        · exact (((K3.out.alloc _).alloc _).other (by simp; omega) _).alloc _
        · exact (((K4.out.alloc _).alloc _).other (by simp; omega) _).alloc _
        · exact (((K5.out.alloc _).alloc _).other (by simp; omega) _).alloc _
        · exact (((KQ.out.alloc _).alloc _).set 0 (by simp) _).alloc _
        · exact OwnN.below (OwnN.far (p := ⟨w2.heap.size, 0, none⟩) (OwnN.below HOW.out (((Below.refl _ _).alloc (Nat.le_refl _) _).alloc (by simp) _) (Nat.le_refl _)) (by show w2.heap.size < w2.heap.size + 1; omega) _) ((Below.refl _ _).alloc (Nat.le_refl _) _) (Nat.le_refl _)
        · intro q h1 h2
          rw [Below.heap_alloc _ _ _ (by simp [World.setCell]; omega), Below.heap_setCell _ _ _ _ (by show q ≠ w2.heap.size; omega), Below.heap_alloc _ _ _ (by simp; omega), Below.heap_alloc _ _ _ (by omega)]
          exact HDA.out q h1 h2
        · exact Blk.new (by simp [World.setCell])
        · refine HNK.out.to fun q h1 h2 => ?_
          rw [Below.heap_alloc _ _ _ (by simp [World.setCell]; omega), Below.heap_setCell _ _ _ _ (by show q ≠ w2.heap.size; omega), Below.heap_alloc _ _ _ (by simp; omega), Below.heap_alloc _ _ _ (by omega)]
        · have := HB.out.size
          exact (((HB.out.alloc HB.out.size _).alloc (by simp; omega) _).setCell (by show w.heap.size ≤ w2.heap.size; omega) _).alloc (by simp [World.setCell]; omega) _
        · simp [World.setCell]
        clear K0 K2 K3 K4 K5 KQ HOW HDA HB HNK yq yf zq zf z5
        rintro W ⟨h0, h2, h3, h4, h5, hq, hown, hdat, h9, hnk, hbw, hsW⟩
        have hjl : rj.ks.length = j := by rw [← HRJ.out]; exact runK_length (by rw [HRJ.out]; exact HEJ.out)
        refine wpList_appO rfl (.tmp 69) (.tmp 71) 28 rfl Tryz.underlying28 rfl hown rfl (fun o ho => by rw [h9.cell]; simp [fiveC]) (lo := wr.heap.size) (hi := hik) hszr (by omega) (fun g hg => (hvb g hg).2) hnk (by omega) (by omega) ?_
        intro v' w' hown' hgr
        obtain ⟨B9, c9, rfl, -⟩ := hown'.slice
        have hl9 : (rj.ks ++ [fj.n]).length = j + 1 := by rw [List.length_append, hjl]; rfl
        rw [hl9] at hown'
        rw [hl9]
        have hb' : Below (w2.heap.size + 1) W w' := (Below.refl _ _).grown hgr (by omega) (fun g hg => (OwnN.blk hown g hg).1)
        have hszb := hb'.size
        have K0 := Lib.hid (h0.belowN hb' (by omega))
        have K2 := Lib.hid (h2.belowN hb' (by omega))
        have K3 := Lib.hid (h3.belowN hb' (by omega))
        have K4 := Lib.hid (h4.belowN hb' (by omega))
        have k5 := h5.belowN hb' (by omega)
        have K5 := Lib.hid k5
        have KQ := Lib.hid (hq.belowN hb' (by omega))
        have HOW := Lib.hid hown'
        have HDA : Hid (∀ q, w.heap.size + 6 ≤ q → q < w2.heap.size → w'.heap[q]? = w2.heap[q]?) := Lib.hid (fun q g1 g2 => (hb'.block q (by omega)).trans (hdat q g1 g2))
        have HB := Lib.hid (hbw.trans (hb'.mono (by omega)))
        clear h0 h2 h3 h4 h5 hq hown hdat h9 hnk hbw hgr hb' hown'
        obtain ⟨x5, y5, z5⟩ := k5
        have HRS : Hid (runK f m (j + 1) = ⟨rj.ks ++ [fj.n], fj.m, 0⟩) := Lib.hid (by
          rw [runK_ok (by rw [HRJ.out]; exact HEJ.out) (by rw [HRJ.out, HFQ.out]; exact HFE0.out), HRJ.out, HFQ.out])
        go_wp2
        go_roundw
        case rel =>
          refine ⟨j + 1, .slice B9 (j + 1) c9, by omega, by go_num, by rw [HRS.out], ?_, ?_, ?_, ?_, ?_, ?_, ?_, ?_, ?_, ?_⟩
          · exact K0.out.other (by simp; omega) _
          · exact K2.out.other (by simp; omega) _
          · exact K3.out.other (by simp; omega) _
          · exact K4.out.other (by simp) _
          · exact K5.out.set 4 (by simp) _
          · rw [HRS.out]; exact KQ.out.other (by simp; omega) _
          · rw [HRS.out]; exact OwnN.far HOW.out (by show w.heap.size + 1 + 1 + 1 + 1 + 1 < w2.heap.size + 1; omega) _
          · intro q h1 h2
            rw [Below.heap_setCell _ _ _ _ (by show q ≠ w.heap.size + 1 + 1 + 1 + 1 + 1; omega)]
            exact HDA.out q h1 h2
          · simp [World.setCell]; omega
          · exact HB.out.setCell (by show w.heap.size ≤ w.heap.size + 1 + 1 + 1 + 1 + 1; omega) _
        case measure => simp [intOf]; omega
      · have HFE0 := Lib.hid hfe
        have t20 : (fj.e != 0) = true := bne_iff_ne.2 hfe
        clear hfe
        go_wp2
        have k3 := (K3.out.alloc (.cells #[.int .i64 fj.n.k, .int .i64 fj.n.e, .int .i64 fj.n.n, .slice Ak fj.n.d.length ck, .slice Bk fj.n.ks.length ek] 30)).alloc (.cells #[.int .i64 fj.m] 55)
        have k4 := (K4.out.alloc (.cells #[.int .i64 fj.n.k, .int .i64 fj.n.e, .int .i64 fj.n.n, .slice Ak fj.n.d.length ck, .slice Bk fj.n.ks.length ek] 30)).alloc (.cells #[.int .i64 fj.m] 55)
        have k9 := Blk.fresh (w4.alloc (.cells #[.int .i64 fj.n.k, .int .i64 fj.n.e, .int .i64 fj.n.n, .slice Ak fj.n.d.length ck, .slice Bk fj.n.ks.length ek] 30)) #[.int .i64 fj.m] 55
        rw [World.size_alloc] at k9
        have hz4 := HB.out.size
        have hbv := (HB.out.alloc HB.out.size (.cells #[.int .i64 fj.n.k, .int .i64 fj.n.e, .int .i64 fj.n.n, .slice Ak fj.n.d.length ck, .slice Bk fj.n.ks.length ek] 30)).alloc (by simp; omega) (.cells #[.int .i64 fj.m] 55)
        generalize (w4.alloc (.cells #[.int .i64 fj.n.k, .int .i64 fj.n.e, .int .i64 fj.n.n, .slice Ak fj.n.d.length ck, .slice Bk fj.n.ks.length ek] 30)).alloc (.cells #[.int .i64 fj.m] 55) = V at k3 k4 k9 hbv ⊢
        have K3 := Lib.hid k3
        have K4 := Lib.hid k4
        have HBV := Lib.hid hbv
        clear hbv
        obtain ⟨x3, y3, z3⟩ := k3
        obtain ⟨x4, y4, z4⟩ := k4
        obtain ⟨x9, y9, z9⟩ := k9
        go_region
        go_wp2
        have HSE : Hid (sv = errV fj.m fj.e) := Lib.hid (by
          have h1 : runK f m (j + 1) = ⟨[], fj.m, fj.e⟩ := by
            rw [runK_no (by rw [HRJ.out]; exact HEJ.out) (by rw [HRJ.out, HFQ.out]; exact HFE0.out), HRJ.out, HFQ.out]
          have h2 : runK f m P = ⟨[], fj.m, fj.e⟩ := by
            rw [runK_keep (i := j + 1) (by rw [h1]; exact HFE0.out) (by omega), h1]
          rw [HSV.out, h2, if_pos HFE0.out])
        refine abs_post (F := fun W => Blk W (w.heap.size + 1 + 1 + 1) #[.int .i64 0, .int .i64 0, .int .i64 0, .slice none 0 0, .slice none 0 0] ∧ Blk W (w.heap.size + 1 + 1 + 1 + 1) #[.int .i64 fj.m] ∧ Below w.heap.size w W) ⟨?_, ?_, ?_⟩ ?_
        · exact ((((((K3.out.set 0 (by simp) _).set 1 (by simp) _).set 2 (by simp) _).set 3 (by simp) _).set 4 (by simp) _).other (by simp) _).drew
        · exact ((((((K4.out.other (by simp) _).other (by simp) _).other (by simp) _).other (by simp) _).other (by simp) _).set 0 (by simp) _).drew
        · refine bel_drew (Below.setCell (Below.setCell (Below.setCell (Below.setCell (Below.setCell (Below.setCell HBV.out ?_ _) ?_ _) ?_ _) ?_ _) ?_ _) ?_ _) <;> (simp; omega)
        rintro W5 ⟨B6, B7, hbw⟩
        exact bodyPost_ret (v := .tuple #[.agg #[.int .i64 0, .int .i64 0, .int .i64 0, .slice none 0 0, .slice none 0 0], .agg #[.int .i64 fj.m], .int .i64 fj.e]) (by simp [results, Tryz.results39, go_sem, B6.cell, B7.cell]) rfl ⟨_, by rw [HSE.out]; rfl, by rw [HSE.out]; exact nod_zero _ _, hbw⟩
    · have hPj : P = j := by omega
      have hpi : ¬ (j : Int) < o.p := by rw [HPE.out]; omega
      have hpe : (o.p : Int) = j := by rw [HPE.out, hPj]
      have HPJ := Lib.hid hPj
      clear hPj hpe
      have hjl := runK_length HEJ.out
      obtain ⟨B9, c9, rfl, hl9, hm9, hn9⟩ := HOW.out.slice
      have hgd : Got wr (w.heap.size + 6) 5 .u8 (.slice A2 (bytesOf dw).length c2) (bytesOf dw) := got_agree (HDT.out.cast (by rw [HDLE.out]) rfl) fun g h1 h2 => HDA.out g h1 h2
      have HN := Lib.hid ((HOW.out.mono (base' := w.heap.size + 6) (by omega)).node (k := 1) (e := 0) (n := 0) (by decide) (by decide) (by decide) hgd (bytesOf_bts dw))
      have HSE : Hid (sv = ⟨.mk 1 0 0 (bytesOf dw) (runK f m j).ks, (runK f m j).m, 0⟩) := Lib.hid (by
        rw [HSV.out, HPJ.out, if_neg (by rw [HEJ.out]; simp)])
      clear hgd
      obtain ⟨x5, y5, z5⟩ := K5.out
      obtain ⟨x3, y3, z3⟩ := K3.out
      obtain ⟨x4, y4, z4⟩ := K4.out
      rw [hjl] at x5
      go_wp2
      go_region
      go_wp2
      refine abs_post (F := fun W => Blk W (w.heap.size + 1 + 1 + 1) #[.int .i64 1, .int .i64 0, .int .i64 0, .slice A2 dl c2, .slice B9 j c9] ∧ Blk W (w.heap.size + 1 + 1 + 1 + 1) #[.int .i64 (runK f m j).m] ∧ NdO (w.heap.size + 6) W.heap.size W A2 c2 B9 c9 (.mk 1 0 0 (bytesOf dw) (runK f m j).ks) ∧ Below w.heap.size w W) ⟨?_, ?_, ?_, ?_⟩ ?_
      · exact ((((((K3.out.set 0 (by simp) _).set 1 (by simp) _).set 2 (by simp) _).set 3 (by simp) _).set 4 (by simp) _).other (by simp) _).drew
      · exact ((((((K4.out.other (by simp) _).other (by simp) _).other (by simp) _).other (by simp) _).other (by simp) _).set 0 (by simp) _).drew
      · refine (HN.out.to fun q q1 _ => ?_).wide (Nat.le_refl _) (by simp [World.setCell, World.drew])
        show (((((((wr.setCell _ _).setCell _ _).setCell _ _).setCell _ _).setCell _ _).setCell _ _).drew).heap[q]? = wr.heap[q]?
        rw [show ∀ W : World, W.drew.heap = W.heap from fun _ => rfl, Below.heap_setCell _ _ _ _ (by simp; omega), Below.heap_setCell _ _ _ _ (by simp; omega), Below.heap_setCell _ _ _ _ (by simp; omega), Below.heap_setCell _ _ _ _ (by simp; omega), Below.heap_setCell _ _ _ _ (by simp; omega), Below.heap_setCell _ _ _ _ (by simp; omega)]
      · refine bel_drew (Below.setCell (Below.setCell (Below.setCell (Below.setCell (Below.setCell (Below.setCell HB.out ?_ _) ?_ _) ?_ _) ?_ _) ?_ _) ?_ _) <;> (simp; omega)
      rintro W5 ⟨B6, B7, hN, hbw⟩
      have hve : Value.agg #[.int .i64 1, .int .i64 0, .int .i64 0, .slice A2 dl c2, .slice B9 j c9] = .agg #[.int .i64 (Nd.mk 1 0 0 (bytesOf dw) (runK f m j).ks).k, .int .i64 (Nd.mk 1 0 0 (bytesOf dw) (runK f m j).ks).e, .int .i64 (Nd.mk 1 0 0 (bytesOf dw) (runK f m j).ks).n, .slice A2 (Nd.mk 1 0 0 (bytesOf dw) (runK f m j).ks).d.length c2, .slice B9 (Nd.mk 1 0 0 (bytesOf dw) (runK f m j).ks).ks.length c9] := by
        simp only [Nd.k, Nd.e, Nd.n, Nd.d, Nd.ks, HDLE.out, hjl]
      exact bodyPost_ret (v := .tuple #[.agg #[.int .i64 1, .int .i64 0, .int .i64 0, .slice A2 dl c2, .slice B9 j c9], .agg #[.int .i64 (runK f m j).m], .int .i64 0]) (by simp [results, Tryz.results39, go_sem, B6.cell, B7.cell]) rfl ⟨_, by rw [HSE.out], by rw [HSE.out]; exact ⟨A2, c2, B9, c9, _, hve, Nat.le_refl _, hN.wide (by omega) (Nat.le_refl _)⟩, hbw⟩
end Go.Proofs.YtnmanhediiooaaaGreatDoor

/- A statement whose order of evaluation is open and that ends in several stores, one after the other ('a, b, c = f(..)'): the operations l (the first late of them come before every store; those behind them, the results' parts, may come between the stores, and neither read memory nor write it), then the stores and one last operation (ts). One walk: l in the order of the text, then ts. -/
namespace Go.Proofs.YtnmanhediiooaaaGreatDoor
open Go.RowKit
set_option linter.unusedVariables false
set_option linter.unusedSimpArgs false
set_option maxRecDepth 100000

/-- does operation i come before every store? (late: the numbers of those that need not) -/
def isA (late : List Nat) (i : Nat) : Bool := !late.contains i
def free (U : Fact) : Prop := ∀ v w w', U v w → U v w'
theorem free_is (u : Value) : free (Is u) := fun _ _ _ h => h
theorem free_any : free Any := fun _ _ _ h => h

/-- an operation that neither reads memory nor writes it, with a known result -/
def PureOK (P : Program) (ops : Array Oper) (G : List (Tmp × Fact)) (a0 : Act) (o : Oper) (T : Fact) : Prop :=
  o.guard = none ∧ ∃ u, T = Is u ∧ ∀ a w, (∀ s ∈ o.looksAt ops, Knows G a0 a w s) → (execOp a.eval o).run P w = .ok (.value u) w

def ChainT (P : Program) (ops : Array Oper) (late : List Nat) (a0 : Act) (w0 : World) (E : Act → World → Prop) : List Oper → Nat → List (Tmp × Fact) → List (Tmp × Fact) → Prop
  | [], _, F, _ => ∀ a w, Below w0.heap.size w0 w → a.defers = a0.defers → a.tmps.size = a0.tmps.size → (∀ s, s < a0.tmps.size → Knows F a0 a w s) → E a w
  | o :: r, i, F, G => ∃ d T U, o.dst = some d ∧ stable T ∧ free U ∧ (∀ v w, T v w → U v w) ∧ (if isA late i = true then StepOK P ops F a0 w0 o T else PureOK P ops G a0 o T) ∧ ChainT P ops late a0 w0 E r (i + 1) ((d, T) :: F) ((d, U) :: G)

structure FactsT (P : Program) (ops : Array Oper) (l : List Oper) (late : List Nat) (a0 : Act) (w0 : World) (Ts Us : List Fact) (i : Nat) : Prop where
  len : Ts.length = i
  len2 : Us.length = i
  st : ∀ (j : Nat) (T : Fact), Ts[j]? = some T → stable T
  fr : ∀ (j : Nat) (U : Fact), Us[j]? = some U → free U
  weak : ∀ (j : Nat) (T U : Fact), Ts[j]? = some T → Us[j]? = some U → ∀ v w, T v w → U v w
  step : ∀ (j : Nat) (o : Oper) (T : Fact), l[j]? = some o → Ts[j]? = some T → if isA late j = true then StepOK P ops (factsTo l Ts j) a0 w0 o T else PureOK P ops (factsTo l Us j) a0 o T

theorem chainT_facts {P : Program} {ops : Array Oper} {a0 : Act} {w0 : World} {E : Act → World → Prop} {l : List Oper} {late : List Nat} :
    ∀ (r : List Oper) (i : Nat) (Ts Us : List Fact), l.drop i = r → i ≤ l.length → ChainT P ops late a0 w0 E r i (factsTo l Ts i) (factsTo l Us i) → FactsT P ops l late a0 w0 Ts Us i →
      ∃ Ts Us : List Fact, FactsT P ops l late a0 w0 Ts Us l.length ∧ ChainT P ops late a0 w0 E [] l.length (factsTo l Ts l.length) (factsTo l Us l.length) := by
  intro r
  induction r with
  | nil =>
    intro i Ts Us hd hi hc hF
    have : i = l.length := by
      have := congrArg List.length hd
      simp at this
      omega
    subst this
    exact ⟨Ts, Us, hF, hc⟩
  | cons o r ih =>
    intro i Ts Us hd hi hc hF
    obtain ⟨d, T, U, hdst, hs1, hs2, hw, hstep, hrest⟩ := hc
    have hlt : i < l.length := by
      have := congrArg List.length hd
      simp at this
      omega
    have hli : l[i]? = some o := by
      have := congrArg (fun x => x[0]?) hd
      simpa using this
    have hdi : dstAt l i = some d := by simp [dstAt, hli, hdst]
    have fT := factsTo_app (l := l) (T := T) hF.len
    have fU := factsTo_app (l := l) (T := U) hF.len2
    have gT : (Ts ++ [T])[i]? = some T := by rw [List.getElem?_append_right (by have := hF.len; omega)]; simp [hF.len]
    have gU : (Us ++ [U])[i]? = some U := by rw [List.getElem?_append_right (by have := hF.len2; omega)]; simp [hF.len2]
    refine ih (i + 1) (Ts ++ [T]) (Us ++ [U]) (by rw [← List.drop_drop, hd]; rfl) (by omega) ?_ ⟨by simp [hF.len], by simp [hF.len2], ?_, ?_, ?_, ?_⟩
    · have e1 : factsTo l (Ts ++ [T]) (i + 1) = (d, T) :: factsTo l Ts i := by rw [factsTo, hdi, gT, fT i (Nat.le_refl _)]
      have e2 : factsTo l (Us ++ [U]) (i + 1) = (d, U) :: factsTo l Us i := by rw [factsTo, hdi, gU, fU i (Nat.le_refl _)]
      rw [e1, e2]
      exact hrest
    · intro j V hV
      rcases get_app hF.len hV with ⟨_, h⟩ | ⟨_, rfl⟩
      · exact hF.st j V h
      · exact hs1
    · intro j V hV
      rcases get_app hF.len2 hV with ⟨_, h⟩ | ⟨_, rfl⟩
      · exact hF.fr j V h
      · exact hs2
    · intro j V V' hV hV'
      rcases get_app hF.len hV with ⟨h0, h⟩ | ⟨rfl, rfl⟩
      · rcases get_app hF.len2 hV' with ⟨_, h'⟩ | ⟨h1, _⟩
        · exact hF.weak j V V' h h'
        · omega
      · rcases get_app hF.len2 hV' with ⟨h1, _⟩ | ⟨_, rfl⟩
        · omega
        · exact hw
    · intro j o' V ho' hV
      rcases get_app hF.len hV with ⟨h0, h⟩ | ⟨rfl, rfl⟩
      · rw [fT j (by omega), fU j (by omega)]
        exact hF.step j o' V ho' h
      · rw [hli] at ho'
        injection ho' with ho'
        subst ho'
        rw [fT j (Nat.le_refl _), fU j (Nat.le_refl _)]
        exact hstep

def storeOf (o : Oper) : Option (Tmp × Tmp) := match o.op with
  | .store _ (.tmp p) (.tmp v) => some (p, v)
  | _ => none

def chainTB (n : Nat) (late : List Nat) (l ts : List Oper) : Bool :=
  (List.range l.length).all (fun i => match l[i]? with
    | none => true
    | some o =>
      (match o.dst with
       | none => false
       | some d => decide (d < n)) &&
      (List.range l.length).all (fun j => j == i || dstAt l j != o.dst) &&
      o.after.all (fun e => !Region.binds .any e || decide (e.on < i)) &&
      (o.looksAt (l ++ ts).toArray).all (fun s => decide (s < n) && (List.range l.length).all fun j => dstAt l j != some s || (o.after.any (fun e => Region.binds .any e && e.on == j) && (isA late i || isA late j)))) &&
  (List.range ts.length).all (fun k => match ts[k]? with
    | none => true
    | some o =>
      o.guard.isNone &&
      o.after.all (fun e => !Region.binds .any e || decide (e.on < l.length + k)) &&
      (List.range l.length).all (fun j => (!isA late j && decide (k + 1 < ts.length)) || o.after.any (fun e => Region.binds .any e && e.on == j)) &&
      (k == 0 || o.after.any (fun e => Region.binds .any e && e.on == l.length + k - 1)) &&
      (k + 1 == ts.length || (o.dst.isNone && match storeOf o with
        | none => false
        | some (p, v) => decide (p < n) && decide (v < n) && (List.range l.length).all fun j => (dstAt l j != some p && dstAt l j != some v) || o.after.any (fun e => Region.binds .any e && e.on == j))))

theorem chainTB_at {n : Nat} {late : List Nat} {l ts : List Oper} (h : chainTB n late l ts = true) {i : Nat} {o : Oper} (ho : l[i]? = some o) :
    (∃ d, o.dst = some d ∧ d < n) ∧ (∀ j, j < l.length → j ≠ i → dstAt l j ≠ o.dst) ∧ (∀ e ∈ o.after, Region.binds .any e = true → e.on < i) ∧
    (∀ s ∈ o.looksAt (l ++ ts).toArray, s < n ∧ ∀ j, j < l.length → dstAt l j = some s → (∃ e ∈ o.after, Region.binds .any e = true ∧ e.on = j) ∧ (isA late i = true ∨ isA late j = true)) := by
  have hlt : i < l.length := by
    rcases Nat.lt_or_ge i l.length with h1 | h1
    · exact h1
    · rw [List.getElem?_eq_none h1] at ho; cases ho
  unfold chainTB at h
  rw [Bool.and_eq_true, List.all_eq_true] at h
  have h1 := h.1 i (List.mem_range.2 hlt)
  rw [ho] at h1
  simp only [Bool.and_eq_true, List.all_eq_true, List.mem_range, Bool.or_eq_true, beq_iff_eq, bne_iff_ne, Bool.not_eq_true', decide_eq_true_eq, Array.all_eq_true_iff_forall_mem, Array.any_eq_true'] at h1
  obtain ⟨⟨⟨h2, h3⟩, h4⟩, h5⟩ := h1
  refine ⟨?_, fun j hj hne => ?_, fun e he hb => ?_, fun s hs => ⟨(h5 s hs).1, fun j hj hd => ?_⟩⟩
  · cases hd : o.dst with
    | none => rw [hd] at h2; cases h2
    | some d => rw [hd] at h2; exact ⟨d, rfl, by simpa using h2⟩
  · rcases h3 j hj with h | h
    · exact absurd h hne
    · exact h
  · rcases h4 e he with h | h
    · rw [h] at hb; cases hb
    · exact h
  · rcases (h5 s hs).2 j hj with h | ⟨⟨e, he, hb⟩, h2⟩
    · exact absurd hd h
    · exact ⟨⟨e, he, hb⟩, h2⟩

theorem chainTB_tail {n : Nat} {late : List Nat} {l ts : List Oper} (h : chainTB n late l ts = true) {k : Nat} {o : Oper} (ho : ts[k]? = some o) :
    o.guard = none ∧ (∀ e ∈ o.after, Region.binds .any e = true → e.on < l.length + k) ∧
    (∀ j, j < l.length → (isA late j = true ∨ k + 1 = ts.length) → ∃ e ∈ o.after, Region.binds .any e = true ∧ e.on = j) ∧
    (0 < k → ∃ e ∈ o.after, Region.binds .any e = true ∧ e.on = l.length + k - 1) ∧
    (k + 1 ≠ ts.length → o.dst = none ∧ ∃ t p v, o.op = .store t (.tmp p) (.tmp v) ∧ ∀ j, j < l.length → dstAt l j = some p ∨ dstAt l j = some v → ∃ e ∈ o.after, Region.binds .any e = true ∧ e.on = j) := by
  have hlt : k < ts.length := by
    rcases Nat.lt_or_ge k ts.length with h1 | h1
    · exact h1
    · rw [List.getElem?_eq_none h1] at ho; cases ho
  unfold chainTB at h
  rw [Bool.and_eq_true] at h
  have h1 := (List.all_eq_true.1 h.2) k (List.mem_range.2 hlt)
  rw [ho] at h1
  simp only [Bool.and_eq_true, List.all_eq_true, List.mem_range, Bool.or_eq_true, beq_iff_eq, bne_iff_ne, Bool.not_eq_true', decide_eq_true_eq, Array.all_eq_true_iff_forall_mem, Array.any_eq_true', Option.isNone_iff_eq_none] at h1
  obtain ⟨⟨⟨⟨h2, h3⟩, h4⟩, h5⟩, h6⟩ := h1
  refine ⟨h2, fun e he hb => ?_, fun j hj hor => ?_, fun hk => ?_, fun hne => ?_⟩
  · rcases h3 e he with h | h
    · rw [h] at hb; cases hb
    · exact h
  · rcases h4 j hj with ⟨h7, h8⟩ | ⟨e, he, hb⟩
    · rcases hor with h | h
      · rw [h7] at h; cases h
      · omega
    · exact ⟨e, he, hb⟩
  · rcases h5 with h | ⟨e, he, hb⟩
    · omega
    · exact ⟨e, he, hb⟩
  · rcases h6 with h | ⟨h7, h8⟩
    · exact absurd h hne
    · refine ⟨h7, ?_⟩
      unfold storeOf at h8
      split at h8
      · cases h8
      · rename_i p v hst
        split at hst
        · rename_i t p' v' hop
          injection hst with hst
          injection hst with e1 e2
          subst e1 e2
          simp only [Bool.and_eq_true, List.all_eq_true, List.mem_range, Bool.or_eq_true, beq_iff_eq, bne_iff_ne, decide_eq_true_eq, Array.any_eq_true'] at h8
          refine ⟨t, p', v', hop, fun j hj hd => ?_⟩
          rcases h8.2 j hj with h | ⟨e, he, hb⟩
          · rcases hd with hd | hd
            · exact absurd hd h.1
            · exact absurd hd h.2
          · exact ⟨e, he, hb⟩
        · cases hst
/-- the frames agree but for the results that are not there yet -/
structure Ph2 (l ts : List Oper) (late : List Nat) (b a : Act) (listed : Array Bool) (k : Nat) : Prop where
  size : listed.size = l.length + ts.length
  kle : k ≤ ts.length
  la : ∀ j, j < l.length → isA late j = true ∨ k = ts.length → listed.getD j false = true
  ldone : ∀ q, q < k → listed.getD (l.length + q) false = true
  lopen : ∀ q, k ≤ q → q < ts.length → listed.getD (l.length + q) true = false
  agree : ∀ s : Tmp, (∀ j, j < l.length → listed.getD j false = false → dstAt l j ≠ some s) → a.tmps.getD s undef = b.tmps.getD s undef
  defers : a.defers = b.defers
  tmps : a.tmps.size = b.tmps.size

theorem act_ext {a b : Act} (h1 : a.defers = b.defers) (h2 : a.tmps.size = b.tmps.size) (h3 : ∀ s, a.tmps.getD s undef = b.tmps.getD s undef) : a = b := by
  obtain ⟨ta, da⟩ := a
  obtain ⟨tb, db⟩ := b
  simp only at h1 h2
  subst h1
  congr 1
  apply Array.ext h2
  intro i hi hi'
  have := h3 i
  simpa [hi, hi'] using this

theorem eval_tmp (a : Act) (s : Tmp) : a.eval (.tmp s) = a.tmps.getD s undef := rfl

theorem drop_cons {α : Type} {l : List α} {k : Nat} {x : α} (h : l[k]? = some x) : l.drop k = x :: l.drop (k + 1) := by
  obtain ⟨hk, rfl⟩ := List.getElem?_eq_some_iff.1 h
  exact List.drop_eq_getElem_cons hk

theorem ph2_any {P : Program} {l ts : List Oper} {late : List Nat} {Q : Exit → Act → World → Prop} {b : Act} (hB : chainTB b.tmps.size late l ts = true)
    (hE : ∀ j o, l[j]? = some o → isA late j = false → o.guard = none ∧ ∃ d, o.dst = some d ∧ ∀ (a : Act) (w : World), (∀ s ∈ o.looksAt (l ++ ts).toArray, a.tmps.getD s undef = b.tmps.getD s undef) → (execOp a.eval o).run P w = .ok (.value (b.tmps.getD d undef)) w) :
    ∀ (fuel : Nat) (listed : Array Bool) (a : Act) (w : World) (k : Nat), Ph2 l ts late b a listed k → (∃ n, n ≤ fuel ∧ n = (List.range (l.length + ts.length)).countP (fun j => !listed.getD j true)) → wpList P (l ++ ts).toArray (OnlyN fun a w => Q .normal a w) (ts.drop k) b w → wpAny P .any (l ++ ts).toArray Q fuel listed a w := by
  have hgl : ∀ j, j < l.length → (l ++ ts).toArray[j]? = l[j]? := fun j hj => by rw [List.getElem?_toArray, List.getElem?_append_left hj]
  have hgt : ∀ q, (l ++ ts).toArray[l.length + q]? = ts[q]? := fun q => by
    rw [List.getElem?_toArray, List.getElem?_append_right (by omega)]; congr 1; omega
  have hff : ∀ {listed : Array Bool} {j : Nat}, j < listed.size → (listed.getD j true = false ↔ listed.getD j false = false) := by
    intro listed j hj
    simp [hj]
  have hdec : ∀ {listed : Array Bool} {i : Nat} {n f : Nat}, listed.size = l.length + ts.length → i < l.length + ts.length → listed.getD i true = false → n = (List.range (l.length + ts.length)).countP (fun j => !listed.getD j true) → n ≤ f + 1 → ∃ m, m ≤ f ∧ m = (List.range (l.length + ts.length)).countP (fun j => !(listed.setIfInBounds i true).getD j true) := by
    intro listed i n f hsz hi hu hn hf
    refine ⟨_, ?_, rfl⟩
    have hlt : (List.range (l.length + ts.length)).countP (fun j => !(listed.setIfInBounds i true).getD j true) < (List.range (l.length + ts.length)).countP (fun j => !listed.getD j true) := by
      refine countP_lt (i := i) (fun x _ hx => ?_) (List.mem_range.2 hi) (by simp [hu]) ?_
      · by_cases e : i = x
        · subst e; simp [hu]
        · rw [getD_set_ne true e] at hx; exact hx
      · have : i < listed.size := by omega
        simp [this]
    omega
  have hallEnd : ∀ (listed : Array Bool) (a : Act) (w : World), Ph2 l ts late b a listed ts.length → wpList P (l ++ ts).toArray (OnlyN fun a w => Q .normal a w) (ts.drop ts.length) b w → Region.ready .any (l ++ ts).toArray listed = [] ∧ Q .normal a w := by
    intro listed a w hP hw
    have hall : ∀ j, j < l.length + ts.length → listed.getD j false = true := by
      intro j hj
      by_cases h1 : j < l.length
      · exact hP.la j h1 (.inr rfl)
      · have := hP.ldone (j - l.length) (by omega)
        rwa [show l.length + (j - l.length) = j by omega] at this
    refine ⟨?_, ?_⟩
    · rw [List.eq_nil_iff_forall_not_mem]
      intro j hj
      obtain ⟨hu, o, ho, _⟩ := mem_ready.1 hj
      have hjl : j < l.length + ts.length := by
        rcases Nat.lt_or_ge j (l.length + ts.length) with h1 | h1
        · exact h1
        · rw [List.getElem?_toArray, List.getElem?_eq_none (by simpa using h1)] at ho; cases ho
      exact absurd (hall j hjl) (by rw [getD_ff hu]; simp)
    · have he : a = b := act_ext hP.defers hP.tmps fun s => hP.agree s fun j hj hn => by
        rw [hall j (by omega)] at hn; cases hn
      subst he
      rw [List.drop_length] at hw
      exact hw.2
  intro fuel
  induction fuel with
  | zero =>
    intro listed a w k hP hn hw
    obtain ⟨n, hn0, hn⟩ := hn
    have hk : k = ts.length := by
      refine Classical.byContradiction fun hne => ?_
      have hlt : k < ts.length := by have := hP.kle; omega
      have : 0 < (List.range (l.length + ts.length)).countP (fun j => !listed.getD j true) := List.countP_pos_iff.2 ⟨l.length + k, List.mem_range.2 (by omega), by simp [hP.lopen k (Nat.le_refl _) hlt]⟩
      omega
    subst hk
    exact hallEnd listed a w hP hw
  | succ fuel ih =>
    intro listed a w k hP hn hw
    obtain ⟨n, hn0, hn⟩ := hn
    by_cases hk : k = ts.length
    · subst hk
      obtain ⟨h1, h2⟩ := hallEnd listed a w hP hw
      exact ⟨fun _ => h2, fun i hi => by rw [h1] at hi; cases hi⟩
    have hkl : k < ts.length := by have := hP.kle; omega
    have hok : ts[k]? = some ts[k] := List.getElem?_eq_getElem hkl
    refine ⟨fun hr => ?_, fun i hi => ?_⟩
    · exfalso
      have hall : ∀ j, j < l.length → listed.getD j false = true := by
        intro j
        induction j using Nat.strongRecOn with
        | _ j ihj =>
          intro hj
          cases hb : listed.getD j false with
          | true => rfl
          | false =>
            exfalso
            have hj' : l[j]? = some l[j] := List.getElem?_eq_getElem hj
            have hc := chainTB_at hB hj'
            have hm : j ∈ Region.ready .any (l ++ ts).toArray listed := by
              rw [mem_ready]
              refine ⟨(hff (by rw [hP.size]; omega)).2 hb, l[j], by rw [hgl j hj, hj'], fun e he hbi => ihj e.on (hc.2.2.1 e he hbi) (Nat.lt_trans (hc.2.2.1 e he hbi) hj)⟩
            rw [hr] at hm
            cases hm
      have hm : l.length + k ∈ Region.ready .any (l ++ ts).toArray listed := by
        rw [mem_ready]
        refine ⟨hP.lopen k (Nat.le_refl _) hkl, ts[k], by rw [hgt k, hok], fun e he hb => ?_⟩
        have hlt := (chainTB_tail hB hok).2.1 e he hb
        by_cases h1 : e.on < l.length
        · exact hall _ h1
        · have := hP.ldone (e.on - l.length) (by omega)
          rwa [show l.length + (e.on - l.length) = e.on by omega] at this
      rw [hr] at hm
      cases hm
    · obtain ⟨hu, o, ho, hedges⟩ := mem_ready.1 hi
      have hisz : i < l.length + ts.length := by
        rcases Nat.lt_or_ge i (l.length + ts.length) with h1 | h1
        · exact h1
        · rw [List.getElem?_toArray, List.getElem?_eq_none (by simpa using h1)] at ho; cases ho
      by_cases hil : i < l.length
      · -- a result's part
        have hol : l[i]? = some o := by rw [← hgl i hil]; exact ho
        have hei : isA late i = false := by
          refine Bool.eq_false_iff.2 fun h => ?_
          have := hP.la i hil (.inl h)
          rw [getD_ff hu] at this
          cases this
        obtain ⟨hg, d, hd, hrun⟩ := hE i o hol hei
        obtain ⟨⟨d', hd', hdm⟩, hdis, hbe, hlook⟩ := chainTB_at hB hol
        rw [hd] at hd'
        injection hd' with hd'
        subst hd'
        have hdi : dstAt l i = some d := by simp [dstAt, hol, hd]
        have hds : d < a.tmps.size := by rw [hP.tmps]; exact hdm
        have hlooks : ∀ s ∈ o.looksAt (l ++ ts).toArray, a.tmps.getD s undef = b.tmps.getD s undef := fun s hs => hP.agree s fun j hj hnl hdj => by
          obtain ⟨-, h2⟩ := (hlook s hs).2 j hj hdj
          have := hP.la j hj (.inl (h2.resolve_left (by rw [hei]; simp)))
          rw [hnl] at this
          cases this
        refine wpOp_noWay ho (K := fun a' w' => a' = a.put o.dst (b.tmps.getD d undef) ∧ w' = w) ?_ ?_
        · rintro a' w' ⟨rfl, rfl⟩
          refine ih _ _ _ k ⟨by simpa using hP.size, hP.kle, fun j hj hor => getD_set_true (hP.la j hj hor), fun q hq => getD_set_true (hP.ldone q hq), fun q h1 h2 => by rw [getD_set_ne true (by omega)]; exact hP.lopen q h1 h2, fun s hs => ?_, by rw [hd]; exact hP.defers, by rw [hd]; simp [Act.put, hP.tmps]⟩ (hdec hP.size hisz hu hn hn0) hw
          rw [hd]
          by_cases e : d = s
          · subst e
            rw [getD_put_same hds]
          · rw [getD_put_ne e]
            refine hP.agree s fun j hj hnl hdj => ?_
            by_cases hji : j = i
            · subst hji
              rw [hdi] at hdj
              injection hdj with hdj
              exact e hdj
            · exact hs j hj (by rw [getD_set_ne false (fun h => hji h.symm)]; exact hnl) hdj
        · have hwn : Region.wanted o (yielded (l ++ ts).toArray a.tmps) = true := by unfold Region.wanted; rw [hg]
          rw [if_pos hwn]
          unfold Oper.wp
          rw [hrun a w hlooks]
          exact ⟨rfl, rfl⟩
      · -- the next of the stores
        obtain ⟨q, rfl⟩ : ∃ q, i = l.length + q := ⟨i - l.length, by omega⟩
        have hql : q < ts.length := by omega
        have hqk : k ≤ q := by
          refine Nat.le_of_not_lt fun h => ?_
          have := hP.ldone q h
          rw [getD_ff hu] at this
          cases this
        rw [hgt q] at ho
        obtain ⟨hg, hbe, hbl, hprev, hst⟩ := chainTB_tail hB ho
        obtain rfl : q = k := by
          refine Classical.byContradiction fun hne => ?_
          obtain ⟨e, he, hb, hon⟩ := hprev (by omega)
          have h1 := hedges e he hb
          have h2 := hP.lopen (q - 1) (by omega) (by omega)
          rw [hon, show l.length + q - 1 = l.length + (q - 1) by omega, getD_ff h2] at h1
          cases h1
        have hwn : ∀ a : Act, Region.wanted o (yielded (l ++ ts).toArray a.tmps) = true := fun a => by unfold Region.wanted; rw [hg]
        rw [drop_cons ho] at hw
        have hwl : o.wp P b w (wpList P (l ++ ts).toArray (OnlyN fun a w => Q .normal a w) (ts.drop (q + 1))) (OnlyN fun a w => Q .normal a w) := by
          unfold wpList at hw
          rw [if_pos (hwn b)] at hw
          rcases hw with hw | ⟨_, a', w', he, _⟩
          · exact hw
          · cases he
        have hgo : (l ++ ts).toArray[l.length + q]? = some o := by rw [hgt q]; exact ho
        by_cases hlast : q + 1 = ts.length
        · -- the last one: all else is there
          have hall : ∀ j, j < l.length → listed.getD j false = true := fun j hj => by
            obtain ⟨e, he, hb, hon⟩ := hbl j hj (.inr hlast)
            rw [← hon]; exact hedges e he hb
          have hab : a = b := act_ext hP.defers hP.tmps fun s => hP.agree s fun j hj hn => by rw [hall j hj] at hn; cases hn
          subst hab
          refine wpOp_noWay hgo (K := wpList P (l ++ ts).toArray (OnlyN fun a w => Q .normal a w) (ts.drop (q + 1))) (fun a' w' hw' => ?_) ?_
          · rw [hlast, List.drop_length] at hw'
            have hempty : Region.ready .any (l ++ ts).toArray (listed.setIfInBounds (l.length + q) true) = [] := by
              rw [List.eq_nil_iff_forall_not_mem]
              intro j hj
              obtain ⟨hu', o', ho', _⟩ := mem_ready.1 hj
              have hjl : j < l.length + ts.length := by
                rcases Nat.lt_or_ge j (l.length + ts.length) with h1 | h1
                · exact h1
                · rw [List.getElem?_toArray, List.getElem?_eq_none (by simpa using h1)] at ho'; cases ho'
              have hu2 := getD_ff hu'
              by_cases h1 : j < l.length
              · rw [getD_set_ne false (by omega), hall j h1] at hu2; cases hu2
              · by_cases h2 : j = l.length + q
                · subst h2
                  have : l.length + q < listed.size := by rw [hP.size]; omega
                  simp [this] at hu'
                · have := hP.ldone (j - l.length) (by omega)
                  rw [show l.length + (j - l.length) = j by omega] at this
                  rw [getD_set_ne false (fun h => h2 h.symm), this] at hu2
                  cases hu2
            cases fuel with
            | zero => exact ⟨hempty, hw'.2⟩
            | succ f => exact ⟨fun _ => hw'.2, fun i hi => by rw [hempty] at hi; cases hi⟩
          · rw [if_pos (hwn a)]
            unfold Oper.wp at hwl ⊢
            generalize (execOp a.eval o).run P w = r at *
            cases r with
            | ok n w' =>
              cases n <;> simp only [Oper.upon] at hwl ⊢ <;>
                first
                  | exact hwl
                  | exact Calls.mono hwl (fun e w'' he => by
                      cases e with
                      | returned v => exact he
                      | panicked c => exact absurd he.1 (by simp)
                      | outgrown => obtain ⟨_, _, h', _⟩ := he; cases h')
                  | exact hwl.elim
            | halt x w' =>
              cases x <;> simp only [Oper.upon] at hwl ⊢ <;>
                first
                  | exact hwl.elim
                  | exact absurd hwl.1 (by simp)
        · obtain ⟨hdn, t, p, v, hop, hdat⟩ := hst hlast
          have hpv : ∀ s, (s = p ∨ s = v) → a.tmps.getD s undef = b.tmps.getD s undef := fun s hs => hP.agree s fun j hj hnl hdj => by
            obtain ⟨e, he, hb, hon⟩ := hdat j hj (by rcases hs with rfl | rfl; exact .inl hdj; exact .inr hdj)
            have := hedges e he hb
            rw [hon, hnl] at this
            cases this
          have hex : execOp a.eval o = execOp b.eval o := by
            unfold execOp
            rw [hop]
            simp only [eval_tmp, hpv p (.inl rfl), hpv v (.inr rfl)]
          refine wpOp_noWay hgo (K := fun a' w' => a' = a ∧ wpList P (l ++ ts).toArray (OnlyN fun a w => Q .normal a w) (ts.drop (q + 1)) b w') ?_ ?_
          · rintro a' w' ⟨rfl, hw'⟩
            refine ih _ _ _ (q + 1) ⟨by simpa using hP.size, by omega, fun j hj hor => ?_, fun r hr => ?_, fun r h1 h2 => ?_, fun s hs => hP.agree s fun j hj hnl => hs j hj (by rw [getD_set_ne false (by omega)]; exact hnl), hP.defers, hP.tmps⟩ (hdec hP.size hisz hu hn hn0) hw'
            · rcases hor with h | h
              · exact getD_set_true (hP.la j hj (.inl h))
              · exact absurd h hlast
            · by_cases e : r = q
              · subst e
                have : l.length + r < listed.size := by rw [hP.size]; omega
                simp [this]
              · exact getD_set_true (hP.ldone r (by omega))
            · rw [getD_set_ne true (by omega)]; exact hP.lopen r (by omega) h2
          · rw [if_pos (hwn a)]
            unfold Oper.wp at hwl ⊢
            rw [hex]
            have hsk : ∀ n w', (execOp b.eval o).run P w = .ok n w' → n = .skip := by
              intro n w' h
              unfold execOp at h
              rw [hop] at h
              simp only [Sem.run_bind, Sem.run_pure] at h
              cases hr : (Instr.storeAt t (b.eval (.tmp p)) (b.eval (.tmp v))).run P w with
              | ok x w2 => rw [hr] at h; simp at h; exact h.1.symm
              | halt x w2 => rw [hr] at h; simp at h
            generalize hrr : (execOp b.eval o).run P w = r at *
            cases r with
            | ok n w' =>
              obtain rfl := hsk n w' rfl
              simp only [Oper.upon, hdn] at hwl ⊢
              exact ⟨rfl, hwl⟩
            | halt x w' =>
              cases x <;> simp only [Oper.upon] at hwl ⊢ <;>
                first
                  | exact hwl.elim
                  | exact absurd hwl.1 (by simp)
/-- is the result of slot s still to come? -/
def Pend (l : List Oper) (listed : Array Bool) (s : Nat) : Prop := ∃ j, j < l.length ∧ listed.getD j false = false ∧ dstAt l j = some s
/-- the frame with the results that are not there yet -/
noncomputable def fillB (l : List Oper) (listed : Array Bool) (u : Nat → Value) (a : Act) : Act :=
  { a with tmps := Array.ofFn fun s : Fin a.tmps.size => open Classical in if h : Pend l listed s.1 then u (Classical.choose h) else a.tmps.getD s.1 undef }
theorem fillB_yes {l : List Oper} {listed : Array Bool} {u : Nat → Value} {a : Act} {j d : Nat} (hj : j < l.length) (hn : listed.getD j false = false) (hd : dstAt l j = some d) (hs : d < a.tmps.size) (hu : ∀ j', j' < l.length → dstAt l j' = some d → j' = j) : (fillB l listed u a).tmps.getD d undef = u j := by
  have h : Pend l listed d := ⟨j, hj, hn, hd⟩
  have hc := Classical.choose_spec h
  have he : Classical.choose h = j := hu _ hc.1 hc.2.2
  unfold fillB
  rw [Array.getD_eq_getD_getElem?, Array.getElem?_ofFn, dif_pos hs, Option.getD_some]
  refine (dif_pos h).trans ?_
  rw [he]
theorem fillB_no {l : List Oper} {listed : Array Bool} {u : Nat → Value} {a : Act} {s : Nat} (h : ∀ j, j < l.length → listed.getD j false = false → dstAt l j ≠ some s) : (fillB l listed u a).tmps.getD s undef = a.tmps.getD s undef := by
  have hn : ¬ Pend l listed s := fun ⟨j, h1, h2, h3⟩ => h j h1 h2 h3
  by_cases hs : s < a.tmps.size
  · simp [fillB, hs, hn]
  · simp [fillB, hs]

theorem inv1_any {P : Program} {l ts : List Oper} {late : List Nat} {Ts Us : List Fact} {a0 : Act} {w0 : World} {Q : Exit → Act → World → Prop} (hts : 0 < ts.length) (hB : chainTB a0.tmps.size late l ts = true)
    (hF : FactsT P (l ++ ts).toArray l late a0 w0 Ts Us l.length)
    (hend : ChainT P (l ++ ts).toArray late a0 w0 (fun a w => wpList P (l ++ ts).toArray (OnlyN fun a w => Q .normal a w) ts a w) [] l.length (factsTo l Ts l.length) (factsTo l Us l.length)) :
    ∀ (fuel : Nat) (listed : Array Bool) (a : Act) (w : World), listed.size = l.length + ts.length → (∀ q, q < ts.length → listed.getD (l.length + q) true = false) → (∃ n, n ≤ fuel ∧ n = (List.range (l.length + ts.length)).countP (fun j => !listed.getD j true)) → Inv l Ts a0 w0 listed a w → wpAny P .any (l ++ ts).toArray Q fuel listed a w := by
  have hgl : ∀ j, j < l.length → (l ++ ts).toArray[j]? = l[j]? := fun j hj => by rw [List.getElem?_toArray, List.getElem?_append_left hj]
  have hgt : ∀ q, (l ++ ts).toArray[l.length + q]? = ts[q]? := fun q => by
    rw [List.getElem?_toArray, List.getElem?_append_right (by omega)]; congr 1; omega
  have hl1 := hF.len
  have hl2 := hF.len2
  have hpure : ∀ j o, l[j]? = some o → isA late j = false → o.guard = none ∧ ∃ u, Ts[j]? = some (Is u) ∧ ∀ a w, (∀ s ∈ o.looksAt (l ++ ts).toArray, Knows (factsTo l Us j) a0 a w s) → (execOp a.eval o).run P w = .ok (.value u) w := by
    intro j o ho hj
    have hjl : j < l.length := (List.getElem?_eq_some_iff.1 ho).1
    have hT : Ts[j]? = some (Ts[j]'(by omega)) := List.getElem?_eq_getElem (by omega)
    have h := hF.step j o _ ho hT
    rw [if_neg (by rw [hj]; simp)] at h
    obtain ⟨hg, u, hu, hr⟩ := h
    exact ⟨hg, u, by rw [hT, hu], hr⟩
  intro fuel
  induction fuel with
  | zero =>
    intro listed a w hsz hop hn hI
    exfalso
    obtain ⟨n, hn0, hn⟩ := hn
    have : 0 < (List.range (l.length + ts.length)).countP (fun j => !listed.getD j true) := List.countP_pos_iff.2 ⟨l.length + 0, List.mem_range.2 (by omega), by simp only [hop 0 hts]; rfl⟩
    omega
  | succ fuel ih =>
    intro listed a w hsz hop hn hI
    have hff : ∀ {j : Nat}, j < listed.size → (listed.getD j true = false ↔ listed.getD j false = false) := by
      intro j hj
      simp [hj]
    refine ⟨fun hr => ?_, fun i hi => ?_⟩
    · exfalso
      have hall : ∀ j, j < l.length → listed.getD j false = true := by
        intro j
        induction j using Nat.strongRecOn with
        | _ j ihj =>
          intro hj
          cases hb : listed.getD j false with
          | true => rfl
          | false =>
            exfalso
            have hj' : l[j]? = some l[j] := List.getElem?_eq_getElem hj
            have hc := chainTB_at hB hj'
            have hm : j ∈ Region.ready .any (l ++ ts).toArray listed := by
              rw [mem_ready]
              exact ⟨(hff (by rw [hsz]; omega)).2 hb, l[j], by rw [hgl j hj, hj'], fun e he hbi => ihj e.on (hc.2.2.1 e he hbi) (Nat.lt_trans (hc.2.2.1 e he hbi) hj)⟩
            rw [hr] at hm
            cases hm
      have hok : ts[0]? = some ts[0] := List.getElem?_eq_getElem hts
      have hm : l.length + 0 ∈ Region.ready .any (l ++ ts).toArray listed := by
        rw [mem_ready]
        exact ⟨hop 0 hts, ts[0], by rw [hgt 0, hok], fun e he hb => hall _ (by have := (chainTB_tail hB hok).2.1 e he hb; omega)⟩
      rw [hr] at hm
      cases hm
    · obtain ⟨hu, o, ho, hedges⟩ := mem_ready.1 hi
      have hisz : i < l.length + ts.length := by
        rcases Nat.lt_or_ge i (l.length + ts.length) with h1 | h1
        · exact h1
        · rw [List.getElem?_toArray, List.getElem?_eq_none (by simpa using h1)] at ho; cases ho
      by_cases hil : i < l.length
      · have hol : l[i]? = some o := by rw [← hgl i hil]; exact ho
        obtain ⟨⟨d, hd, hdm⟩, hdis, hbe, hlook⟩ := chainTB_at hB hol
        have hdi : dstAt l i = some d := by simp [dstAt, hol, hd]
        have hTi : Ts[i]? = some (Ts[i]'(by omega)) := List.getElem?_eq_getElem (by omega)
        have hK : ∀ (F : List Fact), F.length = l.length → (∀ (j : Nat) (d : Tmp) (V : Fact), listed.getD j false = true → dstAt l j = some d → F[j]? = some V → V (a.tmps.getD d undef) w) → ∀ s ∈ o.looksAt (l ++ ts).toArray, Knows (factsTo l F i) a0 a w s := by
          intro F hlF hdone s hs
          unfold Knows
          cases hl : look (factsTo l F i) s with
          | some V =>
            obtain ⟨j, hj, hdj, hVj⟩ := mem_factsTo (look_some hl)
            obtain ⟨⟨e, he, hb, rfl⟩, -⟩ := (hlook s hs).2 j (by omega) hdj
            exact hdone _ s V (hedges e he hb) hdj hVj
          | none =>
            refine hI.rest s fun j hj hdj => ?_
            have hjl := dst_lt hdj
            obtain ⟨⟨e, he, hb, rfl⟩, -⟩ := (hlook s hs).2 j hjl hdj
            have hlt := hbe e he hb
            have hV : F[e.on]? = some (F[e.on]'(by omega)) := List.getElem?_eq_getElem (by omega)
            obtain ⟨V, hV'⟩ := look_mem ⟨_, factsTo_mem (i := i) hlt hdj hV, rfl⟩
            rw [hV'] at hl
            cases hl
        have hS : if Region.wanted o (yielded (l ++ ts).toArray a.tmps) then o.wp P a w (After (Ts[i]'(by omega)) a o.dst w) NoWay else (Ts[i]'(by omega)) undef w := by
          by_cases he : isA late i = true
          · have h := hF.step i o _ hol hTi
            rw [if_pos he] at h
            exact h a w hI.below (hK Ts hl1 fun j d V h1 h2 h3 => hI.done j d V h1 h2 h3)
          · obtain ⟨hg, u, hTu, hrun⟩ := hpure i o hol (Bool.eq_false_iff.2 he)
            rw [hTi] at hTu
            injection hTu with hTu
            have hwn : Region.wanted o (yielded (l ++ ts).toArray a.tmps) = true := by unfold Region.wanted; rw [hg]
            rw [if_pos hwn]
            have hr := hrun a w (hK Us hl2 fun j d V h1 h2 h3 => by
              have hjl := dst_lt h2
              have hT : Ts[j]? = some (Ts[j]'(by omega)) := List.getElem?_eq_getElem (by omega)
              exact hF.weak j _ V hT h3 _ _ (hI.done j d _ h1 h2 hT))
            unfold Oper.wp
            rw [hr]
            exact ⟨u, rfl, by rw [hTu]; rfl, Below.refl _ _⟩
        refine wpOp_noWay ho (K := After (Ts[i]'(by omega)) a o.dst w) ?_ ?_
        · rintro a' w' ⟨v, rfl, hT, hbel⟩
          have hds : d < a.tmps.size := by rw [hI.size]; exact hdm
          refine ih _ _ _ (by simpa using hsz) (fun q hq => by rw [getD_set_ne true (by omega)]; exact hop q hq) ?_ ⟨hI.below.trans (hbel.mono hI.below.size), ?_, ?_, ?_, ?_⟩
          · obtain ⟨n, hn0, hn⟩ := hn
            refine ⟨_, ?_, rfl⟩
            have hlt : (List.range (l.length + ts.length)).countP (fun j => !(listed.setIfInBounds i true).getD j true) < (List.range (l.length + ts.length)).countP (fun j => !listed.getD j true) := by
              refine countP_lt (i := i) (fun x _ hx => ?_) (List.mem_range.2 hisz) (by simp [hu]) ?_
              · by_cases e : i = x
                · subst e; simp [hu]
                · rw [getD_set_ne true e] at hx; exact hx
              · have : i < listed.size := by omega
                simp [this]
            omega
          · rw [hd]; exact hI.defers
          · rw [hd]; simp [Act.put, hI.size]
          · intro j d' T hj hdj hTj
            rw [hd]
            rcases getD_set_cases hj with rfl | hj2
            · rw [hdi] at hdj
              injection hdj with hdj
              subst hdj
              rw [hTi] at hTj
              injection hTj with hTj
              subst hTj
              rw [getD_put_same hds]
              exact hT
            · have hne : d ≠ d' := by
                rintro rfl
                have hji : j ≠ i := by
                  rintro rfl
                  rw [getD_ff hu] at hj2
                  cases hj2
                exact hdis j (dst_lt hdj) hji (by rw [hdj, hd])
              rw [getD_put_ne hne]
              exact hF.st j T hTj _ _ _ (hI.done j d' T hj2 hdj hTj) hbel
          · intro s hs
            have hne : d ≠ s := by
              rintro rfl
              refine hs i ?_ hdi
              have : i < listed.size := by omega
              simp [this]
            rw [hd, getD_put_ne hne]
            refine hI.rest s fun j hj hdj => hs j (getD_set_true hj) hdj
        · by_cases hw : Region.wanted o (yielded (l ++ ts).toArray a.tmps) = true
          · rw [if_pos hw] at hS ⊢
            exact hS
          · rw [if_neg hw] at hS ⊢
            exact ⟨undef, rfl, hS, Below.refl _ _⟩
      · -- the first store: the other results are put in, and the second half begins
        obtain ⟨q, rfl⟩ : ∃ q, i = l.length + q := ⟨i - l.length, by omega⟩
        have hql : q < ts.length := by omega
        rw [hgt q] at ho
        obtain ⟨hg, hbe, hbl, hprev, hst⟩ := chainTB_tail hB ho
        obtain rfl : q = 0 := by
          refine Classical.byContradiction fun hne => ?_
          obtain ⟨e, he, hb, hon⟩ := hprev (by omega)
          have h1 := hedges e he hb
          have h2 := hop (q - 1) (by omega)
          rw [hon, show l.length + q - 1 = l.length + (q - 1) by omega, getD_ff h2] at h1
          cases h1
        have hA : ∀ j, j < l.length → isA late j = true → listed.getD j false = true := fun j hj hje => by
          obtain ⟨e, he, hb, hon⟩ := hbl j hj (.inl hje)
          rw [← hon]; exact hedges e he hb
        have hdu : ∀ j j' d, j < l.length → j' < l.length → dstAt l j = some d → dstAt l j' = some d → j' = j := fun j j' d hj hj' h h' => by
          refine Classical.byContradiction fun hne => ?_
          have hj2 : l[j]? = some l[j] := List.getElem?_eq_getElem hj
          have hd2 : l[j].dst = some d := by simpa [dstAt, hj2] using h
          exact (chainTB_at hB hj2).2.1 j' hj' hne (by rw [h', hd2])
        obtain ⟨u, hu2⟩ : ∃ u : Nat → Value, ∀ j, j < l.length → isA late j = false → Ts[j]? = some (Is (u j)) := by
          have hex : ∀ j, ∃ u, j < l.length → isA late j = false → Ts[j]? = some (Is u) := fun j => by
            by_cases h : j < l.length ∧ isA late j = false
            · obtain ⟨-, u, hu, -⟩ := hpure j _ (List.getElem?_eq_getElem h.1) h.2
              exact ⟨u, fun _ _ => hu⟩
            · exact ⟨undef, fun h1 h2 => absurd ⟨h1, h2⟩ h⟩
          exact ⟨fun j => Classical.choose (hex j), fun j h1 h2 => Classical.choose_spec (hex j) h1 h2⟩
        have hbs : (fillB l listed u a).tmps.size = a.tmps.size := by simp [fillB]
        have hbd : ∀ j d, j < l.length → isA late j = false → dstAt l j = some d → (fillB l listed u a).tmps.getD d undef = u j := fun j d hj he hd => by
          have hj2 : l[j]? = some l[j] := List.getElem?_eq_getElem hj
          obtain ⟨⟨d', hd', hdm⟩, -⟩ := chainTB_at hB hj2
          have hdd : d' = d := by
            have : dstAt l j = some d' := by simp [dstAt, hj2, hd']
            rw [hd] at this
            injection this with this
            exact this.symm
          subst hdd
          cases hn : listed.getD j false with
          | false => exact fillB_yes hj hn hd (by rw [hI.size]; exact hdm) (fun j' hj' h' => hdu j j' _ hj hj' hd h')
          | true =>
            rw [fillB_no (fun j' hj' hn' h' => by
              obtain rfl := hdu j j' _ hj hj' hd h'
              rw [hn] at hn'; cases hn')]
            exact hI.done j _ _ hn hd (hu2 j hj he)
        have hba : ∀ s, (∀ j, j < l.length → dstAt l j = some s → isA late j = true) → (fillB l listed u a).tmps.getD s undef = a.tmps.getD s undef := fun s hs => fillB_no fun j hj hn hd => by
          rw [hA j hj (hs j hj hd)] at hn; cases hn
        have hph : Ph2 l ts late (fillB l listed u a) a listed 0 := ⟨hsz, Nat.zero_le _, fun j hj hor => by
          rcases hor with h | h
          · exact hA j hj h
          · omega, fun q hq => by omega, fun q _ hq => hop q hq, fun s hs => (fillB_no hs).symm, rfl, hbs.symm⟩
        have hwl := hend (fillB l listed u a) w hI.below hI.defers (by rw [hbs]; exact hI.size) fun s hs => by
          unfold Knows
          cases hl : look (factsTo l Ts l.length) s with
          | some T =>
            obtain ⟨j, hj, hd, hT⟩ := mem_factsTo (look_some hl)
            by_cases he : isA late j = false
            · rw [hbd j s hj he hd]
              rw [hu2 j hj he] at hT
              injection hT with hT
              subst hT
              rfl
            · have he' : isA late j = true := by simpa using he
              rw [hba s (fun j' hj' hd' => by obtain rfl := hdu j j' _ hj hj' hd hd'; exact he')]
              exact hI.done j s T (hA j hj he') hd hT
          | none =>
            have hnd : ∀ j, j < l.length → dstAt l j ≠ some s := fun j hj hd => by
              have hT : Ts[j]? = some (Ts[j]'(by omega)) := List.getElem?_eq_getElem (by omega)
              obtain ⟨T, hT'⟩ := look_mem ⟨_, factsTo_mem (i := l.length) hj hd hT, rfl⟩
              rw [hT'] at hl
              cases hl
            rw [fillB_no (fun j hj _ => hnd j hj)]
            exact hI.rest s fun j _ hd => hnd j (dst_lt hd) hd
        refine (ph2_any (by rw [hbs, hI.size]; exact hB) ?_ (fuel + 1) listed a w 0 hph hn (by simpa using hwl)).2 _ hi
        intro j o ho hj
        have hjl : j < l.length := (List.getElem?_eq_some_iff.1 ho).1
        obtain ⟨hg, u', hTu, hrun⟩ := hpure j o ho hj
        obtain ⟨⟨d, hd, hdm⟩, hdis, hbe, hlook⟩ := chainTB_at hB ho
        have hdj : dstAt l j = some d := by simp [dstAt, ho, hd]
        refine ⟨hg, d, hd, fun a' w' hag => ?_⟩
        have huu : u' = u j := by
          have h2 := hu2 j hjl hj
          rw [hTu] at h2
          injection h2 with h2
          have h3 : Is u' u' w := rfl
          rw [h2] at h3
          exact h3
        rw [hbd j d hjl hj hdj, ← huu]
        refine hrun a' w' fun s hs => ?_
        have hsA : ∀ j', j' < l.length → dstAt l j' = some s → isA late j' = true := fun j' hj' hd' => by
          obtain ⟨-, h2⟩ := (hlook s hs).2 j' hj' hd'
          exact h2.resolve_left (by rw [hj]; simp)
        have hsv : a'.tmps.getD s undef = a.tmps.getD s undef := by rw [hag s hs, hba s hsA]
        unfold Knows
        rw [hsv]
        cases hl : look (factsTo l Us j) s with
        | some V =>
          obtain ⟨j', hj', hd', hV⟩ := mem_factsTo (look_some hl)
          have hT : Ts[j']? = some (Ts[j']'(by omega)) := List.getElem?_eq_getElem (by omega)
          exact hF.fr j' V hV _ w w' (hF.weak j' _ V hT hV _ _ (hI.done j' s _ (hA j' (by omega) (hsA j' (by omega) hd')) hd' hT))
        | none =>
          refine hI.rest s fun j' hj' hd' => ?_
          have hjl' := dst_lt hd'
          obtain ⟨⟨e, he, hb, rfl⟩, -⟩ := (hlook s hs).2 j' hjl' hd'
          have hlt := hbe e he hb
          have hV : Us[e.on]? = some (Us[e.on]'(by omega)) := List.getElem?_eq_getElem (by omega)
          obtain ⟨V, hV'⟩ := look_mem ⟨_, factsTo_mem (i := j) hlt hd' hV, rfl⟩
          rw [hV'] at hl
          cases hl

/-- the rule -/
theorem wp_region_t {P : Program} {id : Nat} {ops : Array Oper} (l ts : List Oper) (late : List Nat) {Q : Exit → Act → World → Prop} {a : Act} {w : World} (hops : ops = (l ++ ts).toArray) (hts : 0 < ts.length) (hm : P.follows .mixedOrders = true) (hB : chainTB a.tmps.size late l ts = true)
    (h : ChainT P (l ++ ts).toArray late a w.drew (fun a w => wpList P (l ++ ts).toArray (OnlyN fun a w => Q .normal a w) ts a w) l 0 [] []) : (Code.region id ops true).wp P Q a w := by
  subst hops
  obtain ⟨Ts, Us, hF, hend⟩ := chainT_facts (l := l) l 0 [] [] rfl (Nat.zero_le _) h ⟨rfl, rfl, fun j T hT => by simp at hT, fun j T hT => by simp at hT, fun j T U hT => by simp at hT, fun j o T _ hT => by simp at hT⟩
  refine wp_region_any hm ?_
  have hff : ∀ j b, j < l.length + ts.length → (Array.replicate (l ++ ts).toArray.size false).getD j b = false := by
    intro j b hlt
    simp [hlt]
  refine inv1_any hts hB hF hend _ _ _ _ (by simp) (fun q hq => hff _ _ (by omega)) ⟨_, ?_, rfl⟩ ⟨Below.refl _ _, rfl, rfl, ?_, fun s _ => rfl⟩
  · refine Nat.le_trans List.countP_le_length ?_
    simp
  · intro j d T hj
    exfalso
    have h0 : (Array.replicate (l ++ ts).toArray.size false).getD j false = false := by
      simp only [Array.getD_eq_getD_getElem?, Array.getElem?_replicate]
      split <;> rfl
    rw [h0] at hj
    cases hj

/-! ## The steps -/
section
variable {P : Program} {ops : Array Oper} {late : List Nat} {a0 : Act} {w0 : World} {E : Act → World → Prop} {o : Oper} {r : List Oper} {i : Nat} {F G : List (Tmp × Fact)} {d : Tmp}

/-- an operation that leaves a known value -/
theorem t_val {u : Value} (L : List Tmp) (hi : isA late i = true) (hd : o.dst = some d) (hL : (L.all fun s => (o.looksAt ops).contains s) = true) (hg : GuardOK ops F a0 o)
    (h : ∀ ρ w, Below w0.heap.size w0 w → Plain ρ → AllK F a0 w ρ L → (execOp ρ o).run P w = .ok (.value u) w) (hr : ChainT P ops late a0 w0 E r (i + 1) ((d, Is u) :: F) ((d, Is u) :: G)) : ChainT P ops late a0 w0 E (o :: r) i F G := by
  refine ⟨d, Is u, Is u, hd, stable_is u, free_is u, fun _ _ h => h, ?_, hr⟩
  rw [if_pos (hi)]
  intro a w hb hk
  rw [if_pos (wanted_of hg hk)]
  unfold Oper.wp
  rw [h a.eval w hb (plain_eval a) (allK_of hk hL)]
  exact ⟨u, rfl, rfl, Below.refl _ _⟩
/-- one that makes memory; U: what lasts behind the stores, too -/
theorem t_new {T : Fact} (U : Fact) (L : List Tmp) (hi : isA late i = true) (hd : o.dst = some d) (hL : (L.all fun s => (o.looksAt ops).contains s) = true) (hg : GuardOK ops F a0 o) (hs : stable T) (hf : free U) (hTU : ∀ v w, T v w → U v w)
    (h : ∀ ρ w, Below w0.heap.size w0 w → Plain ρ → AllK F a0 w ρ L → ∃ v w', (execOp ρ o).run P w = .ok (.value v) w' ∧ T v w' ∧ Below w.heap.size w w') (hr : ChainT P ops late a0 w0 E r (i + 1) ((d, T) :: F) ((d, U) :: G)) : ChainT P ops late a0 w0 E (o :: r) i F G := by
  refine ⟨d, T, U, hd, hs, hf, hTU, ?_, hr⟩
  rw [if_pos (hi)]
  intro a w hb hk
  rw [if_pos (wanted_of hg hk)]
  obtain ⟨v, w', h1, h2, h3⟩ := h a.eval w hb (plain_eval a) (allK_of hk hL)
  unfold Oper.wp
  rw [h1]
  exact ⟨v, rfl, h2, h3⟩
/-- a call -/
theorem t_call {T : Fact} (U : Fact) (f : FuncId) (L : List Tmp) (hi : isA late i = true) (hd : o.dst = some d) (hL : (L.all fun s => (o.looksAt ops).contains s) = true) (hg : GuardOK ops F a0 o) (hs : stable T) (hf : free U) (hTU : ∀ v w, T v w → U v w)
    (h : ∀ ρ w, Below w0.heap.size w0 w → Plain ρ → AllK F a0 w ρ L → ∃ args, (execOp ρ o).run P w = .ok (.enter f args) w ∧ Calls P f args w fun e w' => ∃ v, e = .returned v ∧ T v w' ∧ Below w.heap.size w w') (hr : ChainT P ops late a0 w0 E r (i + 1) ((d, T) :: F) ((d, U) :: G)) : ChainT P ops late a0 w0 E (o :: r) i F G := by
  refine ⟨d, T, U, hd, hs, hf, hTU, ?_, hr⟩
  rw [if_pos (hi)]
  intro a w hb hk
  rw [if_pos (wanted_of hg hk)]
  obtain ⟨args, h1, h2⟩ := h a.eval w hb (plain_eval a) (allK_of hk hL)
  unfold Oper.wp
  rw [h1]
  refine h2.mono fun e w' ⟨v, he, hT, hbel⟩ => ?_
  subst he
  exact ⟨v, rfl, hT, hbel⟩
/-- a part of a result, which neither reads memory nor writes it -/
theorem t_pure {u : Value} (L : List Tmp) (hi : isA late i = false) (hd : o.dst = some d) (hL : (L.all fun s => (o.looksAt ops).contains s) = true) (hg : o.guard = none)
    (h : ∀ ρ w, Plain ρ → AllK G a0 w ρ L → (execOp ρ o).run P w = .ok (.value u) w) (hr : ChainT P ops late a0 w0 E r (i + 1) ((d, Is u) :: F) ((d, Is u) :: G)) : ChainT P ops late a0 w0 E (o :: r) i F G := by
  refine ⟨d, Is u, Is u, hd, stable_is u, free_is u, fun _ _ h => h, ?_, hr⟩
  rw [if_neg (by rw [hi]; exact Bool.false_ne_true)]
  exact ⟨hg, u, rfl, fun a w hk => h a.eval w (plain_eval a) (allK_of hk hL)⟩
/-- the end: the frame slot by slot -/
theorem t_end_lit (n : Nat) (hn : a0.tmps.size = n)
    (h : ∀ (f : Tmp → Value) (w : World), Below w0.heap.size w0 w → AllN (fun s => KnowsV F a0 w s (f s)) n 0 → E { tmps := (frameL f n 0).toArray, defers := a0.defers } w) : ChainT P ops late a0 w0 E [] i F G := by
  intro a w hb hd hs hk
  have e : a = { tmps := (frameL (fun s => a.tmps.getD s undef) n 0).toArray, defers := a0.defers } := by
    obtain ⟨tm, df⟩ := a
    simp only at hd hs
    subst hd
    congr 1
    apply Array.ext'
    apply List.ext_getElem?
    intro j
    by_cases hj : j < n
    · rw [show ((frameL (fun s => tm.getD s undef) n 0).toArray.toList) = frameL (fun s => tm.getD s undef) n 0 from rfl, frameL_get _ _ _ _ hj]
      have : j < tm.size := by omega
      simp [this]
    · rw [show ((frameL (fun s => tm.getD s undef) n 0).toArray.toList) = frameL (fun s => tm.getD s undef) n 0 from rfl]
      rw [List.getElem?_eq_none (by simp; omega), List.getElem?_eq_none (by rw [frameL_length]; omega)]
  rw [e]
  exact h _ w hb (allN_of n 0 fun j _ hj => hk j (by rw [hn]; omega))
end
theorem wp_region_t12_3 {P : Program} {id : Nat} {o0 o1 o2 o3 o4 o5 o6 o7 o8 o9 o10 o11 t0 t1 t2 : Oper} (late : List Nat) {Q : Exit → Act → World → Prop} {a : Act} {w : World} (hm : P.follows .mixedOrders = true) (hB : chainTB a.tmps.size late [o0, o1, o2, o3, o4, o5, o6, o7, o8, o9, o10, o11] [t0, t1, t2] = true)
    (h : ChainT P #[o0, o1, o2, o3, o4, o5, o6, o7, o8, o9, o10, o11, t0, t1, t2] late a w.drew (fun a w => wpList P #[o0, o1, o2, o3, o4, o5, o6, o7, o8, o9, o10, o11, t0, t1, t2] (OnlyN fun a w => Q .normal a w) [t0, t1, t2] a w) [o0, o1, o2, o3, o4, o5, o6, o7, o8, o9, o10, o11] 0 [] []) : (Code.region id #[o0, o1, o2, o3, o4, o5, o6, o7, o8, o9, o10, o11, t0, t1, t2] true).wp P Q a w :=
  wp_region_t [o0, o1, o2, o3, o4, o5, o6, o7, o8, o9, o10, o11] [t0, t1, t2] late rfl (by simp) hm hB h
theorem wp_region_t15_2 {P : Program} {id : Nat} {o0 o1 o2 o3 o4 o5 o6 o7 o8 o9 o10 o11 o12 o13 o14 t0 t1 : Oper} (late : List Nat) {Q : Exit → Act → World → Prop} {a : Act} {w : World} (hm : P.follows .mixedOrders = true) (hB : chainTB a.tmps.size late [o0, o1, o2, o3, o4, o5, o6, o7, o8, o9, o10, o11, o12, o13, o14] [t0, t1] = true)
    (h : ChainT P #[o0, o1, o2, o3, o4, o5, o6, o7, o8, o9, o10, o11, o12, o13, o14, t0, t1] late a w.drew (fun a w => wpList P #[o0, o1, o2, o3, o4, o5, o6, o7, o8, o9, o10, o11, o12, o13, o14, t0, t1] (OnlyN fun a w => Q .normal a w) [t0, t1] a w) [o0, o1, o2, o3, o4, o5, o6, o7, o8, o9, o10, o11, o12, o13, o14] 0 [] []) : (Code.region id #[o0, o1, o2, o3, o4, o5, o6, o7, o8, o9, o10, o11, o12, o13, o14, t0, t1] true).wp P Q a w :=
  wp_region_t [o0, o1, o2, o3, o4, o5, o6, o7, o8, o9, o10, o11, o12, o13, o14] [t0, t1] late rfl (by simp) hm hB h
theorem wp_region_t13_2 {P : Program} {id : Nat} {o0 o1 o2 o3 o4 o5 o6 o7 o8 o9 o10 o11 o12 t0 t1 : Oper} (late : List Nat) {Q : Exit → Act → World → Prop} {a : Act} {w : World} (hm : P.follows .mixedOrders = true) (hB : chainTB a.tmps.size late [o0, o1, o2, o3, o4, o5, o6, o7, o8, o9, o10, o11, o12] [t0, t1] = true)
    (h : ChainT P #[o0, o1, o2, o3, o4, o5, o6, o7, o8, o9, o10, o11, o12, t0, t1] late a w.drew (fun a w => wpList P #[o0, o1, o2, o3, o4, o5, o6, o7, o8, o9, o10, o11, o12, t0, t1] (OnlyN fun a w => Q .normal a w) [t0, t1] a w) [o0, o1, o2, o3, o4, o5, o6, o7, o8, o9, o10, o11, o12] 0 [] []) : (Code.region id #[o0, o1, o2, o3, o4, o5, o6, o7, o8, o9, o10, o11, o12, t0, t1] true).wp P Q a w :=
  wp_region_t [o0, o1, o2, o3, o4, o5, o6, o7, o8, o9, o10, o11, o12] [t0, t1] late rfl (by simp) hm hB h
end Go.Proofs.YtnmanhediiooaaaGreatDoor

/- What the reference's Valid does to nodes. -/
namespace Go.Proofs.YtnmanhediiooaaaGreatDoor
open Go.ChangeShapes Go.WideShapes Go.ChangeAt Go.RowKit
set_option linter.unusedVariables false
set_option linter.unusedSimpArgs false
set_option maxRecDepth 100000
attribute [local simp] AllK KnowsV look Is
def GotB (base : Nat) (l : List Int) : Fact := fun v w => Got w base 5 .u8 v l
theorem stable_gotb (base : Nat) (l : List Int) : stable (GotB base l) := fun v w w' h hb => Got.below h hb (Nat.le_refl _)
attribute [local irreducible] headB trimL bytesI

end Go.Proofs.YtnmanhediiooaaaGreatDoor

/- The traversal of the reference: Value. -/
namespace Go.Proofs.YtnmanhediiooaaaGreatDoor
open Go.ChangeShapes Go.WideShapes Go.ChangeAt Go.RowKit
set_option linter.unusedVariables false
set_option linter.unusedSimpArgs false
set_option maxRecDepth 100000

attribute [local simp] AllK KnowsV look Is
theorem bel_on' {n : Nat} {w W W' : World} (h : Below n w W) (hb : Below W.heap.size W W') (hn : n ≤ W.heap.size) : Below n w W' := h.trans (hb.mono hn)
def TupF (lo : Nat) (x : Val) : Fact := fun v w => ∃ u, v = .tuple #[u, .agg #[.int .i64 x.m], .int .i64 x.e] ∧ NodF lo x.n u w
def TupU (x : Val) : Fact := fun v _ => ∃ u, v = .tuple #[u, .agg #[.int .i64 x.m], .int .i64 x.e]
theorem stable_tup (lo : Nat) (x : Val) : stable (TupF lo x) := fun v w w' ⟨u, h1, h2⟩ hb => ⟨u, h1, stable_nod lo x.n u w w' h2 hb⟩
theorem free_tup (x : Val) : free (TupU x) := fun _ _ _ h => h
theorem TupF.u {lo : Nat} {x : Val} {v : Value} {w : World} (h : TupF lo x v w) : TupU x v w := ⟨h.choose, h.choose_spec.1⟩
theorem NodF.lower {lo lo' : Nat} {x : Nd} {v : Value} {w : World} (h : NodF lo x v w) (hl : lo' ≤ lo) : NodF lo' x v w := by
  obtain ⟨A, c, B, c2, hi, h1, h2, h3⟩ := h
  exact ⟨A, c, B, c2, hi, h1, h2, h3.wide hl (Nat.le_refl _)⟩
theorem list_bytes {ls : List (List Int)} (hw : Wd2 ls) (hm : ls.length ≤ 40) (hf : ∀ j, (seg ls j).length ≤ 20000000) (s a : Int) (q : Ob × Int) (hq : objF ls s a = q) (h1 : ¬ q.2 ≠ 0) (h2 : ¬ q.1.k = 1) (h3 : q.1.el < 6) : bytesI q.1.el q.1.n ≤ 8 * (datW ls q.1.sg q.1.at' q.1.cost).length := by
  have h := objF_cases hw (by omega) (fun j => by have := hf j; omega) s a
  rw [hq] at h
  obtain ⟨⟨k, sg, at', d, p, el, n, cost⟩, e⟩ := q
  simp only [ob0, Ob.mk.injEq] at h h1 h2 h3 ⊢
  rcases h with ⟨⟨rfl, rfl, rfl, rfl, rfl, rfl, rfl, rfl⟩, h4⟩ | ⟨-, h4, -⟩ | ⟨-, -, h4, h5, h6, h7, rfl, rfl, rfl, h8⟩ | ⟨-, -, h4, -⟩
  · show (0 : Int) ≤ _
    omega
  · exact absurd h4 h2
  · have h9 := inB_iff.1 h8
    have hl : (datW ls sg at' (wordsI el n)).length = (wordsI el n).toNat := by
      unfold datW
      rw [if_pos h8]
      unfold sliceL
      rw [List.length_take, List.length_drop]
      omega
    rw [hl]
    have h10 := bitsI_mul el n h6
    unfold wordsI bytesI at *
    rw [if_neg (by omega)] at *
    omega
  · omega

set_option maxHeartbeats 8000000 in
set_option maxRecDepth 100000 in
theorem RefValue12_step (A : Option Addr) (c : Nat) (ls : List (List Int)) (D X O : Int) (hw : Wd2 ls) (hm : ls.length ≤ 40) (hf : ∀ j, (seg ls j).length ≤ 20000000) (r : Nat) (hD : D ≤ 900) (hV : ∀ r', r = r' + 1 → ValC A c ls D X O r') : ValC A c ls D X O r := by
  intro m s a dep w hs hm0 hm1 hd0 hd1 hr
  have Hs := Lib.hid hs
  have HV := Lib.hid hV
  have HFO := Lib.hid (fun w' hs' => RefFollow_any A c ls s a w' hs' hw (by omega) (fun j => by have := hf j; omega))
  have HOB := Lib.hid (fun w' hs' => RefObject_any A c ls s a w' hs' hw (by omega) (fun j => by have := hf j; omega))
  have HST := Lib.hid (fun r' hr' m' o' dep' w' hs' h0 h1 => RefStruct12 A c ls D X O r' (hV r' hr') hw hm hf m' o' dep' w' hs' h0 h1)
  have HON := Lib.hid (fun q => objF_num hw hm hf s a (q := q))
  have HLI := Lib.hid (fun q => list_bytes hw hm hf s a q)
  have HSL := Lib.hid (fun s a n w' hs' => sliceW (A := A) (c := c) hm hf s a n w' hs')
  have HDW := Lib.hid (fun s a n => datW_wds hw s a n)
  have HDL := Lib.hid (fun s a n => datW_length hf s a n)
  have HMV := Lib.hid (fun r' => valV_m hw hm hf r')
  have HVV : Hid ((followF ls s a).e ≠ 0 ∨ (followF ls s a).w = 0 → valV ls r m s a = errV m (followF ls s a).e) := Lib.hid (fun h => by cases r <;> (unfold valV; rw [if_pos h]))
  have HVN : Hid (¬ ((followF ls s a).e ≠ 0 ∨ (followF ls s a).w = 0) → (r = 0 → valV ls r m s a = errV m 7) ∧ ∀ r', r = r' + 1 → valV ls r m s a = bodyV (valV ls r') ls m (objF ls s a)) := Lib.hid (fun h => ⟨fun h0 => by subst h0; unfold valV; rw [if_neg h], fun r' h0 => by subst h0; unfold valV; rw [if_neg h]⟩)
  clear hs hV hw hf
  generalize hsv : valV ls r m s a = sv at *
  clear hsv
  generalize followF ls s a = fo at *
  go_enter Tryz.func19, Tryz.ntmps19
  go_wp2_with fail
  refine abs_world (F := fun W => Blk W w.heap.size #[.int .i64 D, .int .i64 X, .int .i64 O] ∧ Blk W (w.heap.size + 1) #[.int .i64 m] ∧ Blk W (w.heap.size + 1 + 1) #[.int .i64 0, .int .i64 0, .int .i64 0, .slice none 0 0, .slice none 0 0] ∧ Blk W (w.heap.size + 1 + 1 + 1) #[.int .i64 0] ∧ Blk W (w.heap.size + 1 + 1 + 1 + 1) #[.int .i64 0, .int .i64 0, .int .i64 0, .slice none 0 0, .slice none 0 0] ∧ Below w.heap.size w W) ⟨?_, ?_, ?_, ?_, ?_, ?_⟩ ?_
  · exact ((((Blk.fresh _ _ _).alloc _).alloc _).alloc _).alloc _
  · exact (((Blk.new (by simp)).alloc _).alloc _).alloc _
  · exact ((Blk.new (by simp)).alloc _).alloc _
  · exact (Blk.new (by simp)).alloc _
  · exact Blk.new (by simp)
  · exact (((((Below.refl _ _).alloc (Nat.le_refl _) _).alloc (by simp) _).alloc (by simp; omega) _).alloc (by simp; omega) _).alloc (by simp; omega) _
  rintro W ⟨h0, h1, h2, h3, h4, hb⟩
  refine (HFO.out W (Hs.out.below hb (Nat.le_refl _))).mono ?_
  rintro e w1 ⟨rfl, hb1⟩
  have K0 := Lib.hid (h0.below hb1)
  have k1 := h1.below hb1
  have k2 := h2.below hb1
  have k3 := h3.below hb1
  have k4 := h4.below hb1
  have K1 := Lib.hid k1
  have K2 := Lib.hid k2
  have K3 := Lib.hid k3
  have K4 := Lib.hid k4
  have HB := Lib.hid (bel_on hb hb1)
  clear h0 h1 h2 h3 h4 hb hb1 HFO
  obtain ⟨x1, y1, z1⟩ := k1
  obtain ⟨x2, y2, z2⟩ := k2
  obtain ⟨x3, y3, z3⟩ := k3
  obtain ⟨x4, y4, z4⟩ := k4
  by_cases h1 : fo.e ≠ 0
  · have t1 : (fo.e != 0) = true := bne_iff_ne.2 h1
    have HS : Hid (sv = errV m fo.e) := Lib.hid (HVV.out (.inl h1))
    clear h1
    go_wp2
    go_region
    go_wp2
    refine abs_post (F := fun W => Blk W (w.heap.size + 1 + 1) #[.int .i64 0, .int .i64 0, .int .i64 0, .slice none 0 0, .slice none 0 0] ∧ Blk W (w.heap.size + 1 + 1 + 1) #[.int .i64 m] ∧ Below w.heap.size w W) ⟨?_, ?_, ?_⟩ ?_
    · exact ((((((K2.out.set 0 (by simp) _).set 1 (by simp) _).set 2 (by simp) _).set 3 (by simp) _).set 4 (by simp) _).other (by simp) _).drew
    · exact ((((((K3.out.other (by simp) _).other (by simp) _).other (by simp) _).other (by simp) _).other (by simp) _).set 0 (by simp) _).drew
    · refine bel_drew (Below.setCell (Below.setCell (Below.setCell (Below.setCell (Below.setCell (Below.setCell HB.out ?_ _) ?_ _) ?_ _) ?_ _) ?_ _) ?_ _) <;> (simp; omega)
    rintro W5 ⟨B6, B7, hbw⟩
    exact bodyPost_ret (v := .tuple #[.agg #[.int .i64 0, .int .i64 0, .int .i64 0, .slice none 0 0, .slice none 0 0], .agg #[.int .i64 m], .int .i64 fo.e]) (by simp [results, Tryz.results19, go_sem, B6.cell, B7.cell]) rfl ⟨_, by rw [HS.out]; rfl, by rw [HS.out]; exact nod_zero _ _, hbw⟩
  have h1' : fo.e = 0 := Classical.byContradiction h1
  have t1 : (fo.e != 0) = false := by rw [h1']; rfl
  have H1 := Lib.hid h1'
  clear h1 h1'
  by_cases h2 : fo.w = 0
  · have t2 : (fo.w == 0) = true := beq_iff_eq.2 h2
    have HS : Hid (sv = errV m fo.e) := Lib.hid (HVV.out (.inr h2))
    clear h2
    go_wp2
    go_region
    go_wp2
    refine abs_post (F := fun W => Blk W (w.heap.size + 1 + 1) #[.int .i64 0, .int .i64 0, .int .i64 0, .slice none 0 0, .slice none 0 0] ∧ Blk W (w.heap.size + 1 + 1 + 1) #[.int .i64 m] ∧ Below w.heap.size w W) ⟨?_, ?_, ?_⟩ ?_
    · exact ((((((K2.out.set 0 (by simp) _).set 1 (by simp) _).set 2 (by simp) _).set 3 (by simp) _).set 4 (by simp) _).other (by simp) _).drew
    · exact ((((((K3.out.other (by simp) _).other (by simp) _).other (by simp) _).other (by simp) _).other (by simp) _).set 0 (by simp) _).drew
    · refine bel_drew (Below.setCell (Below.setCell (Below.setCell (Below.setCell (Below.setCell (Below.setCell HB.out ?_ _) ?_ _) ?_ _) ?_ _) ?_ _) ?_ _) <;> (simp; omega)
    rintro W5 ⟨B6, B7, hbw⟩
    exact bodyPost_ret (v := .tuple #[.agg #[.int .i64 0, .int .i64 0, .int .i64 0, .slice none 0 0, .slice none 0 0], .agg #[.int .i64 m], .int .i64 fo.e]) (by simp [results, Tryz.results19, go_sem, B6.cell, B7.cell]) rfl ⟨_, by rw [HS.out]; rfl, by rw [HS.out]; exact nod_zero _ _, hbw⟩
  have t2 : (fo.w == 0) = false := beq_eq_false_iff_ne.2 h2
  have HNW : Hid (¬ (fo.e ≠ 0 ∨ fo.w = 0)) := Lib.hid (fun h => by rcases h with h | h; exact h H1.out; exact h2 h)
  clear h2
  obtain ⟨x0, y0, z0⟩ := K0.out
  cases r with
  | zero =>
    have hdd : D < dep := by omega
    have HS : Hid (sv = errV m 7) := Lib.hid ((HVN.out HNW.out).1 rfl)
    go_wp2
    go_region
    go_wp2
    refine abs_post (F := fun W => Blk W (w.heap.size + 1 + 1) #[.int .i64 0, .int .i64 0, .int .i64 0, .slice none 0 0, .slice none 0 0] ∧ Blk W (w.heap.size + 1 + 1 + 1) #[.int .i64 m] ∧ Below w.heap.size w W) ⟨?_, ?_, ?_⟩ ?_
    · exact ((((((K2.out.set 0 (by simp) _).set 1 (by simp) _).set 2 (by simp) _).set 3 (by simp) _).set 4 (by simp) _).other (by simp) _).drew
    · exact ((((((K3.out.other (by simp) _).other (by simp) _).other (by simp) _).other (by simp) _).other (by simp) _).set 0 (by simp) _).drew
    · refine bel_drew (Below.setCell (Below.setCell (Below.setCell (Below.setCell (Below.setCell (Below.setCell HB.out ?_ _) ?_ _) ?_ _) ?_ _) ?_ _) ?_ _) <;> (simp; omega)
    rintro W5 ⟨B6, B7, hbw⟩
    exact bodyPost_ret (v := .tuple #[.agg #[.int .i64 0, .int .i64 0, .int .i64 0, .slice none 0 0, .slice none 0 0], .agg #[.int .i64 m], .int .i64 7]) (by simp [results, Tryz.results19, go_sem, B6.cell, B7.cell]) rfl ⟨_, by rw [HS.out]; rfl, by rw [HS.out]; exact nod_zero _ _, hbw⟩
  | succ r =>
  have hdd : ¬ D < dep := by omega
  have HVB : Hid (sv = bodyV (valV ls r) ls m (objF ls s a)) := Lib.hid ((HVN.out HNW.out).2 r rfl)
  have HVr := Lib.hid (HV.out r rfl)
  have HSr := Lib.hid (fun m' o' dep' w' hs' h0 h1 => HST.out r rfl m' o' dep' w' hs' h0 h1)
  have hmv := HMV.out r
  clear HVV HVN HV HST HMV
  go_wp2_with fail
  refine (HOB.out _ (Hs.out.below HB.out (Nat.le_refl _))).mono ?_
  rintro e w2 ⟨rfl, hb2⟩
  obtain ⟨q, hq⟩ : ∃ q, objF ls s a = q := ⟨_, rfl⟩
  have hon := HON.out q hq
  rw [hq] at HVB
  rw [hq]
  have HQ := Lib.hid hq
  clear hq
  have K0n := Lib.hid (K0.out.below hb2)
  have K1n := Lib.hid (K1.out.below hb2)
  have K2n := Lib.hid (K2.out.below hb2)
  have K3n := Lib.hid (K3.out.below hb2)
  have K4n := Lib.hid (K4.out.below hb2)
  have HBn := Lib.hid (bel_on HB.out hb2)
  clear hb2 K0 K1 K2 K3 K4 HB
  have K0 := K0n
  have K1 := K1n
  have K2 := K2n
  have K3 := K3n
  have K4 := K4n
  have HB := HBn
  clear K0n K1n K2n K3n K4n HBn
  clear x0 y0 z0
  obtain ⟨x0, y0, z0⟩ := K0.out
  clear x1 y1 z1
  obtain ⟨x1, y1, z1⟩ := K1.out
  clear x2 y2 z2
  obtain ⟨x2, y2, z2⟩ := K2.out
  clear x3 y3 z3
  obtain ⟨x3, y3, z3⟩ := K3.out
  clear x4 y4 z4
  obtain ⟨x4, y4, z4⟩ := K4.out
  by_cases h3 : q.2 ≠ 0
  · have t3 : (q.2 != 0) = true := bne_iff_ne.2 h3
    have HS : Hid (sv = errV m q.2) := Lib.hid (by rw [HVB.out]; unfold bodyV; rw [if_pos h3])
    clear h3
    go_wp2
    have k1 := K1.out.alloc (.cells #[.int .i64 q.1.k, .int .i64 q.1.sg, .int .i64 q.1.at', .int .i64 q.1.d, .int .i64 q.1.p, .int .i64 q.1.el, .int .i64 q.1.n, .int .i64 q.1.cost] 74)
    have k2 := K2.out.alloc (.cells #[.int .i64 q.1.k, .int .i64 q.1.sg, .int .i64 q.1.at', .int .i64 q.1.d, .int .i64 q.1.p, .int .i64 q.1.el, .int .i64 q.1.n, .int .i64 q.1.cost] 74)
    have k3 := K3.out.alloc (.cells #[.int .i64 q.1.k, .int .i64 q.1.sg, .int .i64 q.1.at', .int .i64 q.1.d, .int .i64 q.1.p, .int .i64 q.1.el, .int .i64 q.1.n, .int .i64 q.1.cost] 74)
    have k4 := K4.out.alloc (.cells #[.int .i64 q.1.k, .int .i64 q.1.sg, .int .i64 q.1.at', .int .i64 q.1.d, .int .i64 q.1.p, .int .i64 q.1.el, .int .i64 q.1.n, .int .i64 q.1.cost] 74)
    have hbv := HB.out.alloc HB.out.size (.cells #[.int .i64 q.1.k, .int .i64 q.1.sg, .int .i64 q.1.at', .int .i64 q.1.d, .int .i64 q.1.p, .int .i64 q.1.el, .int .i64 q.1.n, .int .i64 q.1.cost] 74)
    generalize w2.alloc (.cells #[.int .i64 q.1.k, .int .i64 q.1.sg, .int .i64 q.1.at', .int .i64 q.1.d, .int .i64 q.1.p, .int .i64 q.1.el, .int .i64 q.1.n, .int .i64 q.1.cost] 74) = V at k1 k2 k3 k4 hbv ⊢
    clear K1 K2 K3 K4 HB x1 y1 z1 x2 y2 z2 x3 y3 z3 x4 y4 z4
    have K2 := Lib.hid k2
    have K3 := Lib.hid k3
    have HB := Lib.hid hbv
    clear hbv
    obtain ⟨x1, y1, z1⟩ := k1
    obtain ⟨x2, y2, z2⟩ := k2
    obtain ⟨x3, y3, z3⟩ := k3
    obtain ⟨x4, y4, z4⟩ := k4
    go_region
    go_wp2
    refine abs_post (F := fun W => Blk W (w.heap.size + 1 + 1) #[.int .i64 0, .int .i64 0, .int .i64 0, .slice none 0 0, .slice none 0 0] ∧ Blk W (w.heap.size + 1 + 1 + 1) #[.int .i64 m] ∧ Below w.heap.size w W) ⟨?_, ?_, ?_⟩ ?_
    · exact ((((((K2.out.set 0 (by simp) _).set 1 (by simp) _).set 2 (by simp) _).set 3 (by simp) _).set 4 (by simp) _).other (by simp) _).drew
    · exact ((((((K3.out.other (by simp) _).other (by simp) _).other (by simp) _).other (by simp) _).other (by simp) _).set 0 (by simp) _).drew
    · refine bel_drew (Below.setCell (Below.setCell (Below.setCell (Below.setCell (Below.setCell (Below.setCell HB.out ?_ _) ?_ _) ?_ _) ?_ _) ?_ _) ?_ _) <;> (simp; omega)
    rintro W5 ⟨B6, B7, hbw⟩
    exact bodyPost_ret (v := .tuple #[.agg #[.int .i64 0, .int .i64 0, .int .i64 0, .slice none 0 0, .slice none 0 0], .agg #[.int .i64 m], .int .i64 q.2]) (by simp [results, Tryz.results19, go_sem, B6.cell, B7.cell]) rfl ⟨_, by rw [HS.out]; rfl, by rw [HS.out]; exact nod_zero _ _, hbw⟩
  have h3' : q.2 = 0 := Classical.byContradiction h3
  have t3 : (q.2 != 0) = false := by rw [h3']; rfl
  have H3 := Lib.hid h3
  clear h3 h3'
  have xb := (K1.out.alloc (.cells #[.int .i64 q.1.k, .int .i64 q.1.sg, .int .i64 q.1.at', .int .i64 q.1.d, .int .i64 q.1.p, .int .i64 q.1.el, .int .i64 q.1.n, .int .i64 q.1.cost] 74)).cell
  go_wp2_with fail
  refine abs_world (F := fun W => Blk W w.heap.size #[.int .i64 D, .int .i64 X, .int .i64 O] ∧ Blk W (w.heap.size + 1) #[.int .i64 m] ∧ Blk W (w.heap.size + 1 + 1) #[.int .i64 0, .int .i64 0, .int .i64 0, .slice none 0 0, .slice none 0 0] ∧ Blk W (w.heap.size + 1 + 1 + 1) #[.int .i64 0] ∧ Blk W (w.heap.size + 1 + 1 + 1 + 1) #[.int .i64 0, .int .i64 0, .int .i64 0, .slice none 0 0, .slice none 0 0] ∧ Blk W w2.heap.size #[.int .i64 q.1.k, .int .i64 q.1.sg, .int .i64 q.1.at', .int .i64 q.1.d, .int .i64 q.1.p, .int .i64 q.1.el, .int .i64 q.1.n, .int .i64 q.1.cost] ∧ Below w.heap.size w W) ⟨?_, ?_, ?_, ?_, ?_, ?_, ?_⟩ ?_
  · exact K0.out.alloc _
  · exact K1.out.alloc _
  · exact K2.out.alloc _
  · exact K3.out.alloc _
  · exact K4.out.alloc _
  · exact Blk.fresh _ _ _
  · exact HB.out.alloc HB.out.size _
  have hbo := K4.out.lt
  generalize w2.heap.size = bo at *
  clear K0 K1 K2 K3 K4 HB x0 y0 z0 x1 y1 z1 x2 y2 z2 x3 y3 z3 x4 y4 z4 xb
  rintro W2 ⟨h0, h1, h2, h3, h4, h5, hb⟩
  refine (RefCharge_any m q.1.cost _ (by omega) (by omega) (by omega)).mono ?_
  rintro e w3 ⟨rfl, hb3⟩
  have K0 := Lib.hid (h0.below hb3)
  have K2 := Lib.hid (h2.below hb3)
  have K3 := Lib.hid (h3.below hb3)
  have K4 := Lib.hid (h4.below hb3)
  have K5 := Lib.hid (h5.below hb3)
  have K1 := Lib.hid (h1.below hb3)
  have HB := Lib.hid (bel_on hb hb3)
  clear h0 h1 h2 h3 h4 h5 hb hb3
  by_cases h4 : m < q.1.cost
  · have HC : Hid (chargeI m q.1.cost = m ∧ chargeE m q.1.cost = 8) := Lib.hid ⟨if_pos h4, if_pos h4⟩
    have HS : Hid (sv = errV m 8) := Lib.hid (by rw [HVB.out]; unfold bodyV; rw [if_neg H3.out, if_pos h4])
    rw [HC.out.1, HC.out.2]
    clear h4
    go_wp2
    have k1 := K1.out.alloc (.cells #[.int .i64 m] 55)
    have k2 := K2.out.alloc (.cells #[.int .i64 m] 55)
    have k3 := K3.out.alloc (.cells #[.int .i64 m] 55)
    have k4 := K4.out.alloc (.cells #[.int .i64 m] 55)
    have hbv := HB.out.alloc HB.out.size (.cells #[.int .i64 m] 55)
    generalize w3.alloc (.cells #[.int .i64 m] 55) = V at k1 k2 k3 k4 hbv ⊢
    clear K1 K2 K3 K4 HB
    have K2 := Lib.hid k2
    have K3 := Lib.hid k3
    have HB := Lib.hid hbv
    clear hbv
    obtain ⟨x1, y1, z1⟩ := k1
    obtain ⟨x2, y2, z2⟩ := k2
    obtain ⟨x3, y3, z3⟩ := k3
    obtain ⟨x4, y4, z4⟩ := k4
    go_region
    go_wp2
    refine abs_post (F := fun W => Blk W (w.heap.size + 1 + 1) #[.int .i64 0, .int .i64 0, .int .i64 0, .slice none 0 0, .slice none 0 0] ∧ Blk W (w.heap.size + 1 + 1 + 1) #[.int .i64 m] ∧ Below w.heap.size w W) ⟨?_, ?_, ?_⟩ ?_
    · exact ((((((K2.out.set 0 (by simp) _).set 1 (by simp) _).set 2 (by simp) _).set 3 (by simp) _).set 4 (by simp) _).other (by simp) _).drew
    · exact ((((((K3.out.other (by simp) _).other (by simp) _).other (by simp) _).other (by simp) _).other (by simp) _).set 0 (by simp) _).drew
    · refine bel_drew (Below.setCell (Below.setCell (Below.setCell (Below.setCell (Below.setCell (Below.setCell HB.out ?_ _) ?_ _) ?_ _) ?_ _) ?_ _) ?_ _) <;> (simp; omega)
    rintro W5 ⟨B6, B7, hbw⟩
    exact bodyPost_ret (v := .tuple #[.agg #[.int .i64 0, .int .i64 0, .int .i64 0, .slice none 0 0, .slice none 0 0], .agg #[.int .i64 m], .int .i64 8]) (by simp [results, Tryz.results19, go_sem, B6.cell, B7.cell]) rfl ⟨_, by rw [HS.out]; rfl, by rw [HS.out]; exact nod_zero _ _, hbw⟩
  have HC : Hid (chargeI m q.1.cost = m - q.1.cost ∧ chargeE m q.1.cost = 0) := Lib.hid ⟨if_neg h4, if_neg h4⟩
  rw [HC.out.1, HC.out.2]
  have H4 := Lib.hid h4
  obtain ⟨lf, hlf⟩ : ∃ lf, lf = m - q.1.cost := ⟨_, rfl⟩
  rw [← hlf]
  have hlf0 : 0 ≤ lf := by omega
  have hlf1 : lf ≤ m := by omega
  have HLF := Lib.hid hlf
  clear h4 hlf HC
  obtain ⟨x0, y0, z0⟩ := K0.out
  obtain ⟨x5, y5, z5⟩ := K5.out
  have xb := (K5.out.alloc (.cells #[.int .i64 lf] 55)).cell
  have xc := (K0.out.alloc (.cells #[.int .i64 lf] 55)).cell
  by_cases h5 : q.1.k = 1
  · have t5 : (q.1.k == 1) = true := beq_iff_eq.2 h5
    have HS : Hid (sv = structV (valV ls r) ls lf q.1) := Lib.hid (by rw [HVB.out]; unfold bodyV; rw [if_neg H3.out, if_neg H4.out, if_pos h5, HLF.out])
    clear h5
    go_wp2_with fail
    refine abs_world (F := fun W => Blk W (w.heap.size + 1 + 1) #[.int .i64 0, .int .i64 0, .int .i64 0, .slice none 0 0, .slice none 0 0] ∧ Blk W (w.heap.size + 1 + 1 + 1) #[.int .i64 0] ∧ Below w.heap.size w W ∧ bo < W.heap.size) ⟨?_, ?_, ?_, ?_⟩ ?_
    · exact K2.out.alloc _
    · exact K3.out.alloc _
    · exact HB.out.alloc HB.out.size _
    · have := K5.out.lt; simp; omega
    clear K0 K2 K3 K4 K5 K1 HB x0 y0 z0 x5 y5 z5 xb xc
    rintro W3 ⟨h2, h3, hb, hsz⟩
    refine (HSr.out lf q.1 dep W3 (Hs.out.below hb (Nat.le_refl _)) hlf0 (by omega) hd0 (by omega) (by omega) (by omega) (by omega) (by omega) (by omega) (by omega) (by omega)).mono ?_
    rintro e w4 ⟨v4, rfl, ⟨Ak, ck, Bk, ek, hik, rfl, hhk, hok⟩, hb4⟩
    have k2 := h2.below hb4
    have k3 := h3.below hb4
    have K2 := Lib.hid k2
    have K3 := Lib.hid k3
    have HBn := Lib.hid (bel_on hb hb4)
    have HNK := Lib.hid hok
    have hsz4 := hb4.size
    clear h2 h3 hb hb4 hok
    obtain ⟨x2, y2, z2⟩ := k2
    obtain ⟨x3, y3, z3⟩ := k3
    rw [← HS.out]
    rw [← HS.out] at HNK
    go_wp2
    refine abs_post (F := fun W => Blk W (w.heap.size + 1 + 1) #[.int .i64 sv.n.k, .int .i64 sv.n.e, .int .i64 sv.n.n, .slice Ak sv.n.d.length ck, .slice Bk sv.n.ks.length ek] ∧ Blk W (w.heap.size + 1 + 1 + 1) #[.int .i64 sv.m] ∧ NdO W3.heap.size hik W Ak ck Bk ek sv.n ∧ Below w.heap.size w W ∧ hik ≤ W.heap.size) ⟨?_, ?_, ?_, ?_, ?_⟩ ?_
    · exact (((((K2.out.set 0 (by simp) _).set 1 (by simp) _).set 2 (by simp) _).set 3 (by simp) _).set 4 (by simp) _).other (by simp) _
    · exact (((((K3.out.other (by simp) _).other (by simp) _).other (by simp) _).other (by simp) _).other (by simp) _).set 0 (by simp) _
    · refine HNK.out.to fun g g1 _ => ?_
      rw [Below.heap_setCell _ _ _ _ (by simp; omega), Below.heap_setCell _ _ _ _ (by simp; omega), Below.heap_setCell _ _ _ _ (by simp; omega), Below.heap_setCell _ _ _ _ (by simp; omega), Below.heap_setCell _ _ _ _ (by simp; omega), Below.heap_setCell _ _ _ _ (by simp; omega)]
    · refine Below.setCell (Below.setCell (Below.setCell (Below.setCell (Below.setCell (Below.setCell HBn.out ?_ _) ?_ _) ?_ _) ?_ _) ?_ _) ?_ _ <;> (simp; omega)
    · simp [World.setCell]; omega
    rintro W5 ⟨B6, B7, hN, hbw, hhi⟩
    exact bodyPost_ret (v := .tuple #[.agg #[.int .i64 sv.n.k, .int .i64 sv.n.e, .int .i64 sv.n.n, .slice Ak sv.n.d.length ck, .slice Bk sv.n.ks.length ek], .agg #[.int .i64 sv.m], .int .i64 sv.e]) (by simp [results, Tryz.results19, go_sem, B6.cell, B7.cell]) rfl ⟨_, rfl, ⟨Ak, ck, Bk, ek, hik, rfl, hhi, hN.wide (by omega) (Nat.le_refl _)⟩, hbw⟩
  have t5 : (q.1.k == 1) = false := beq_eq_false_iff_ne.2 h5
  have H5 := Lib.hid h5
  clear h5
  have hne : bo ≠ (w.heap.size + 1 + 1 + 1 + 1) := by omega
  have hne' : ¬ (w.heap.size + 1 + 1 + 1 + 1) = bo := by omega
  have hkz := K5.out.lt
  by_cases h6 : q.1.el < 6
  · have t6 : decide (q.1.el < 6) = true := decide_eq_true h6
    have HS : Hid (sv = ⟨.mk 2 q.1.el q.1.n (trimL (bytesOf (datW ls q.1.sg q.1.at' q.1.cost)) q.1.el q.1.n) [], lf, 0⟩) := Lib.hid (by rw [HVB.out]; unfold bodyV; rw [if_neg H3.out, if_neg H4.out, if_neg H5.out, if_pos h6, HLF.out])
    have HLB := Lib.hid (HLI.out q HQ.out H3.out H5.out h6)
    have HDW := Lib.hid (HDW.out q.1.sg q.1.at' q.1.cost)
    have HDL := Lib.hid (HDL.out q.1.sg q.1.at' q.1.cost)
    clear h6 xb xc
    have k4a := K4.out.alloc (.cells #[.int .i64 lf] 55)
    have k5a := K5.out.alloc (.cells #[.int .i64 lf] 55)
    obtain ⟨x4a, y4a, z4a⟩ := k4a
    obtain ⟨x5a, y5a, z5a⟩ := k5a
    go_wp2_with fail
    refine abs_world (F := fun W => Blk W (w.heap.size + 1 + 1) #[.int .i64 0, .int .i64 0, .int .i64 0, .slice none 0 0, .slice none 0 0] ∧ Blk W (w.heap.size + 1 + 1 + 1) #[.int .i64 0] ∧ Blk W (w.heap.size + 1 + 1 + 1 + 1) #[.int .i64 2, .int .i64 q.1.el, .int .i64 q.1.n, .slice none 0 0, .slice none 0 0] ∧ Blk W w3.heap.size #[.int .i64 lf] ∧ Blk W bo #[.int .i64 q.1.k, .int .i64 q.1.sg, .int .i64 q.1.at', .int .i64 q.1.d, .int .i64 q.1.p, .int .i64 q.1.el, .int .i64 q.1.n, .int .i64 q.1.cost] ∧ Below w.heap.size w W) ⟨?_, ?_, ?_, ?_, ?_, ?_⟩ ?_
    · exact (((K2.out.alloc _).other (by simp; omega) _).other (by simp; omega) _).other (by simp; omega) _
    · exact (((K3.out.alloc _).other (by simp) _).other (by simp) _).other (by simp) _
    · exact (((K4.out.alloc _).set 0 (by simp) _).set 1 (by simp) _).set 2 (by simp) _
    · exact (((Blk.fresh _ _ _).other (by simp; omega) _).other (by simp; omega) _).other (by simp; omega) _
    · exact (((K5.out.alloc _).other (by simp; omega) _).other (by simp; omega) _).other (by simp; omega) _
    · refine Below.setCell (Below.setCell (Below.setCell (HB.out.alloc HB.out.size _) ?_ _) ?_ _) ?_ _ <;> (simp; omega)
    clear K0 K2 K3 K4 K5 K1 HB x0 y0 z0 x5 y5 z5 x4a y4a z4a x5a y5a z5a
    generalize w3.heap.size = bm at *
    rintro W3 ⟨h2, h3, h4, hm, h5, hb⟩
    refine (HSL.out q.1.sg q.1.at' q.1.cost W3 (Hs.out.below hb (Nat.le_refl _))).mono ?_
    rintro e w4 ⟨v4, b4, rfl, hg4, hb4⟩
    generalize datW ls q.1.sg q.1.at' q.1.cost = dw at *
    obtain ⟨A4, c4, rfl, hcl4, hcm4, hri4, hcn4⟩ := hg4.full
    have K2 := Lib.hid (h2.below hb4)
    have K3 := Lib.hid (h3.below hb4)
    have K4 := Lib.hid (h4.below hb4)
    have km := hm.below hb4
    have KM := Lib.hid km
    have k5 := h5.below hb4
    have K5 := Lib.hid k5
    have HB := Lib.hid (bel_on hb hb4)
    have HR4 : Hid (Ri w4.drew .u64 A4 dw) := Lib.hid hri4
    clear h2 h3 h4 hm h5 hb hb4 hg4 hcl4 hcm4 hri4 hcn4
    have hzb : (w.heap.size + 1 + 1 + 1 + 1) < w4.heap.size := K4.out.lt
    obtain ⟨xm, ym, zm⟩ := km
    obtain ⟨x5, y5, z5⟩ := k5
    go_wp2_with fail
    refine wp_region_n8 (by kernel_rfl) (by kernel_rfl) ?_
    refine n_val (u := ?_) [20] (by kernel_rfl) rfl (by kernel_rfl) trivial (fun ρ wc hbc hcn hk => ?_) ?_; rotate_left
    · obtain ⟨hcn, -⟩ := hcn
      simp at hk
      obtain ⟨hcc, -⟩ := bcell hbc
      simp at hcc
      go_simp
      rfl
    refine n_val (u := ?_) [110] (by kernel_rfl) rfl (by kernel_rfl) trivial (fun ρ wc hbc hcn hk => ?_) ?_; rotate_left
    · obtain ⟨hcn, -⟩ := hcn
      simp at hk
      obtain ⟨hcc, -⟩ := bcell hbc
      simp at hcc
      go_simp
      rfl
    refine n_val (u := ?_) [20] (by kernel_rfl) rfl (by kernel_rfl) trivial (fun ρ wc hbc hcn hk => ?_) ?_; rotate_left
    · obtain ⟨hcn, -⟩ := hcn
      simp at hk
      obtain ⟨hcc, -⟩ := bcell hbc
      simp at hcc
      go_simp
      rfl
    refine n_val (u := ?_) [112] (by kernel_rfl) rfl (by kernel_rfl) trivial (fun ρ wc hbc hcn hk => ?_) ?_; rotate_left
    · obtain ⟨hcn, -⟩ := hcn
      simp at hk
      obtain ⟨hcc, -⟩ := bcell hbc
      simp at hcc
      go_simp
      rfl
    refine n_val (u := ?_) [24] (by kernel_rfl) rfl (by kernel_rfl) trivial (fun ρ wc hbc hcn hk => ?_) ?_; rotate_left
    · obtain ⟨hcn, -⟩ := hcn
      simp at hk
      obtain ⟨hcc, -⟩ := bcell hbc
      simp at hcc
      go_simp
      rfl
    refine n_call (T := GotB w4.heap.size (bytesOf dw)) 42 [114] (by kernel_rfl) rfl (by kernel_rfl) trivial (stable_gotb _ _) (fun ρ wc hbc hcn hk => ?_) ?_
    · obtain ⟨hcn, hfn⟩ := hcn
      simp at hk
      refine ⟨_, by go_simp; rfl, ?_⟩
      refine (RefBytes_any A4 c4 dw _ (HR4.out.below hbc (Nat.le_refl _)) HDW.out (by have := HDL.out; omega)).mono ?_
      rintro r w' ⟨v, rfl, hg, hb⟩
      exact ⟨_, rfl, hg.mono hbc.size, hb⟩
    refine n_call (T := GotB w4.heap.size (trimL (bytesOf dw) q.1.el q.1.n)) 41 [111, 113, 115] (by kernel_rfl) rfl (by kernel_rfl) trivial (stable_gotb _ _) (fun ρ wc hbc hcn hk => ?_) ?_
    · obtain ⟨hcn, hfn⟩ := hcn
      simp at hk
      obtain ⟨hk1, hk2, hk3⟩ := hk
      obtain ⟨Av, cv, hv, hv1, hv2, hvr⟩ := Got.slice hk3
      refine ⟨_, by go_simp; rfl, ?_⟩
      refine (RefTrim_any Av cv (bytesOf dw) q.1.el q.1.n _ hvr (bytesOf_bts dw) (by rw [bytesOf_length]; have := HDL.out; omega) (by omega) (by omega) (by rw [bytesOf_length]; have := HLB.out; omega)).mono ?_
      rintro r w' ⟨v, rfl, hg, hb⟩
      exact ⟨_, rfl, hg.mono hbc.size, hb⟩
    refine n_val (u := ?_) [15] (by kernel_rfl) rfl (by kernel_rfl) trivial (fun ρ wc hbc hcn hk => ?_) ?_; rotate_left
    · obtain ⟨hcn, -⟩ := hcn
      simp at hk
      obtain ⟨hcc, -⟩ := bcell hbc
      simp at hcc
      go_simp
      rfl
    refine a_end_lit 170 rfl (fun ff w7 hb7 hk => ?_)
    have h116 : GotB w4.heap.size (trimL (bytesOf dw) q.1.el q.1.n) (ff 116) w7 := allN_atF hk 116 (by decide) (by decide)
    have h115 : GotB w4.heap.size (bytesOf dw) (ff 115) w7 := allN_atF hk 115 (by decide) (by decide)
    simp [AllN] at hk
    simp only [frameL, hk, Nat.zero_add, Nat.reduceAdd]
    have hb7 : Below w4.heap.size w4 w7 := by
      have := keeps_none hb7
      exact ⟨this.os, this.tape, this.output, this.size, this.block⟩
    clear hk
    generalize ff 115 = u115 at *
    obtain ⟨A7, c7, e7, hl7, hm7, hr7, hn7⟩ := Got.full h116
    generalize ff 116 = u116 at *
    subst e7
    have K2n := Lib.hid (K2.out.below hb7)
    have K3n := Lib.hid (K3.out.below hb7)
    have k4 := K4.out.below hb7
    have kmn := KM.out.below hb7
    have HBn := Lib.hid (bel_on HB.out hb7)
    have hsz7 := hb7.size
    have HG7 := Lib.hid h116
    clear K2 K3 K4 K5 KM HB h115 h116 hb7 xm ym zm x5 y5 z5 hl7 hm7 hr7 hn7
    have K2 := K2n
    have K3 := K3n
    have K4 := Lib.hid k4
    have KM := Lib.hid kmn
    have HB := HBn
    clear K2n K3n HBn
    obtain ⟨x4, y4, z4⟩ := k4
    go_wp2
    refine abs_code10 (F := fun W => Blk W (w.heap.size + 1 + 1) #[.int .i64 0, .int .i64 0, .int .i64 0, .slice none 0 0, .slice none 0 0] ∧ Blk W (w.heap.size + 1 + 1 + 1) #[.int .i64 0] ∧ Blk W (w.heap.size + 1 + 1 + 1 + 1) #[.int .i64 2, .int .i64 q.1.el, .int .i64 q.1.n, .slice A7 (trimL (bytesOf dw) q.1.el q.1.n).length c7, .slice none 0 0] ∧ Blk W bm #[.int .i64 lf] ∧ Got W w4.heap.size 5 .u8 (.slice A7 (trimL (bytesOf dw) q.1.el q.1.n).length c7) (trimL (bytesOf dw) q.1.el q.1.n) ∧ Below w.heap.size w W ∧ w4.heap.size ≤ W.heap.size) ⟨?_, ?_, ?_, ?_, ?_, ?_, ?_⟩ ?_
    · exact K2.out.other (by simp; omega) _
    · exact K3.out.other (by simp) _
    · exact K4.out.set 3 (by simp) _
    · exact KM.out.other (by simp; omega) _
    · exact Got.far HG7.out (by show (w.heap.size + 1 + 1 + 1 + 1) < w4.heap.size; omega) _
    · exact HB.out.setCell (by simp; omega) _
    · simp [World.setCell]; omega
    clear K2 K3 K4 KM HB HG7 x4 y4 z4
    rintro W8 ⟨h2, h3, h4, hm, hg, hb, hsz8⟩
    have K2 := Lib.hid h2
    have K3 := Lib.hid h3
    have HB := Lib.hid hb
    have HND := Lib.hid ((OwnN.empty w4.heap.size W8).node (k := 2) (e := q.1.el) (n := q.1.n) (by omega) (by omega) (by omega) hg (trimL_bts (bytesOf_bts dw) _ _))
    clear hb hg
    obtain ⟨x2, y2, z2⟩ := h2
    obtain ⟨x3, y3, z3⟩ := h3
    obtain ⟨x4, y4, z4⟩ := h4
    obtain ⟨xm, ym, zm⟩ := hm
    go_region
    go_wp2
    refine abs_post (F := fun W => Blk W (w.heap.size + 1 + 1) #[.int .i64 2, .int .i64 q.1.el, .int .i64 q.1.n, .slice A7 (trimL (bytesOf dw) q.1.el q.1.n).length c7, .slice none 0 0] ∧ Blk W (w.heap.size + 1 + 1 + 1) #[.int .i64 lf] ∧ NdO w4.heap.size W.heap.size W A7 c7 none 0 (.mk 2 q.1.el q.1.n (trimL (bytesOf dw) q.1.el q.1.n) []) ∧ Below w.heap.size w W) ⟨?_, ?_, ?_, ?_⟩ ?_
    · exact ((((((K2.out.set 0 (by simp) _).set 1 (by simp) _).set 2 (by simp) _).set 3 (by simp) _).set 4 (by simp) _).other (by simp) _).drew
    · exact ((((((K3.out.other (by simp) _).other (by simp) _).other (by simp) _).other (by simp) _).other (by simp) _).set 0 (by simp) _).drew
    · refine (HND.out.to fun g q1 _ => ?_).wide (Nat.le_refl _) (by simp [World.setCell, World.drew])
      show (((((((W8.setCell _ _).setCell _ _).setCell _ _).setCell _ _).setCell _ _).setCell _ _).drew).heap[g]? = W8.heap[g]?
      rw [show ∀ W : World, W.drew.heap = W.heap from fun _ => rfl, Below.heap_setCell _ _ _ _ (by simp; omega), Below.heap_setCell _ _ _ _ (by simp; omega), Below.heap_setCell _ _ _ _ (by simp; omega), Below.heap_setCell _ _ _ _ (by simp; omega), Below.heap_setCell _ _ _ _ (by simp; omega), Below.heap_setCell _ _ _ _ (by simp; omega)]
    · refine bel_drew (Below.setCell (Below.setCell (Below.setCell (Below.setCell (Below.setCell (Below.setCell HB.out ?_ _) ?_ _) ?_ _) ?_ _) ?_ _) ?_ _) <;> (simp; omega)
    rintro W9 ⟨B6, B7, hN, hbw⟩
    exact bodyPost_ret (v := .tuple #[.agg #[.int .i64 2, .int .i64 q.1.el, .int .i64 q.1.n, .slice A7 (trimL (bytesOf dw) q.1.el q.1.n).length c7, .slice none 0 0], .agg #[.int .i64 lf], .int .i64 0]) (by simp [results, Tryz.results19, go_sem, B6.cell, B7.cell]) rfl ⟨_, by rw [HS.out], by rw [HS.out]; exact ⟨A7, c7, none, 0, _, rfl, Nat.le_refl _, hN.wide (by omega) (Nat.le_refl _)⟩, hbw⟩
  have t6 : decide (q.1.el < 6) = false := decide_eq_false h6
  obtain ⟨N, hN⟩ := Int.eq_ofNat_of_zero_le (show 0 ≤ q.1.n by omega)
  have HNE := Lib.hid hN
  have hNl : N ≤ 536870911 := by omega
  obtain ⟨f, hfe⟩ : ∃ f : Int → Nat → Val, f = elemV (valV ls r) ls q.1 := ⟨_, rfl⟩
  have HFE := Lib.hid hfe
  have HMB := Lib.hid (fun (i : Nat) => runK_ind (f := f) (m := lf) (fun x => 0 ≤ x ∧ x ≤ lf) ⟨hlf0, Int.le_refl _⟩ i (fun m' i _ hh => by
    rw [hfe]
    unfold elemV
    split
    · have := hmv m' q.1.sg (q.1.at' + i) hh.1; omega
    · have := structV_m hmv ls m' (eleO q.1 i) hh.1; omega))
  have HSV : Hid (sv = if (runK f lf N).e ≠ 0 then errV (runK f lf N).m (runK f lf N).e else ⟨.mk 2 q.1.el q.1.n [] (runK f lf N).ks, (runK f lf N).m, 0⟩) := Lib.hid (by rw [HVB.out]; unfold bodyV; rw [if_neg H3.out, if_neg H4.out, if_neg H5.out, if_neg h6, ← HLF.out]; unfold listV; rw [show q.1.n.toNat = N by omega, hfe])
  clear hfe hN hmv HVB xb xc
  have k4a := K4.out.alloc (.cells #[.int .i64 lf] 55)
  have k5a := K5.out.alloc (.cells #[.int .i64 lf] 55)
  obtain ⟨x4a, y4a, z4a⟩ := k4a
  obtain ⟨x5a, y5a, z5a⟩ := k5a
  go_wp2
  go_loopw [26] (fun i wr => ∃ (j : Nat) (v : Value), j ≤ N ∧ i = .int .i64 j ∧ (runK f lf j).e = 0 ∧ Blk wr w.heap.size #[.int .i64 D, .int .i64 X, .int .i64 O] ∧ Blk wr (w.heap.size + 1 + 1) #[.int .i64 0, .int .i64 0, .int .i64 0, .slice none 0 0, .slice none 0 0] ∧ Blk wr (w.heap.size + 1 + 1 + 1) #[.int .i64 0] ∧ Blk wr (w.heap.size + 1 + 1 + 1 + 1) #[.int .i64 2, .int .i64 q.1.el, .int .i64 q.1.n, .slice none 0 0, v] ∧ Blk wr bo #[.int .i64 q.1.k, .int .i64 q.1.sg, .int .i64 q.1.at', .int .i64 q.1.d, .int .i64 q.1.p, .int .i64 q.1.el, .int .i64 q.1.n, .int .i64 q.1.cost] ∧ Blk wr w3.heap.size #[.int .i64 (runK f lf j).m] ∧ OwnN (w3.heap.size + 1) wr v (runK f lf j).ks ∧ w3.heap.size + 1 ≤ wr.heap.size ∧ Below w.heap.size w wr) (fun i _ => N - (intOf i).toNat)
  case atStart =>
    refine ⟨0, .slice none 0 0, Nat.zero_le _, rfl, rfl, ?_, ?_, ?_, ?_, ?_, ?_, OwnN.empty _ _, ?_, ?_⟩
    · exact (((K0.out.alloc _).other (by simp; omega) _).other (by simp; omega) _).other (by simp; omega) _
    · exact (((K2.out.alloc _).other (by simp; omega) _).other (by simp; omega) _).other (by simp; omega) _
    · exact (((K3.out.alloc _).other (by simp) _).other (by simp) _).other (by simp) _
    · exact (((K4.out.alloc _).set 0 (by simp) _).set 1 (by simp) _).set 2 (by simp) _
    · exact (((K5.out.alloc _).other (by simp; omega) _).other (by simp; omega) _).other (by simp; omega) _
    · exact (((Blk.fresh _ _ _).other (by simp; omega) _).other (by simp; omega) _).other (by simp; omega) _
    · simp [World.setCell]
    · refine Below.setCell (Below.setCell (Below.setCell (HB.out.alloc HB.out.size _) ?_ _) ?_ _) ?_ _ <;> (simp; omega)
  case round =>
    obtain ⟨j, v, hj, rfl, hej, h0, h2, h3, h4, h5, hm, hown, hszr, hbr⟩ := hrel
    clear K0 K1 K2 K3 K4 K5 HB x0 y0 z0 x5 y5 z5 x4a y4a z4a x5a y5a z5a
    have K0 := Lib.hid h0
    have K2 := Lib.hid h2
    have K3 := Lib.hid h3
    have K4 := Lib.hid h4
    have K5 := Lib.hid h5
    have KM := Lib.hid hm
    have HOW := Lib.hid hown
    have HB := Lib.hid hbr
    have HEJ := Lib.hid hej
    have hmb := HMB.out j
    clear hown hbr hej
    obtain ⟨x5, y5, z5⟩ := h5
    by_cases hlt : j < N
    · have hpi : (j : Int) < q.1.n := by rw [HNE.out]; omega
      generalize hrj : runK f lf j = rj at *
      have HRJ := Lib.hid hrj
      clear hrj
      have hwz : Blk (wr.alloc (.cells #[.int .i64 0, .int .i64 0, .int .i64 0, .slice none 0 0, .slice none 0 0] 30)) w.heap.size #[.int .i64 D, .int .i64 X, .int .i64 O] := h0.alloc _
      obtain ⟨x0a, y0a, z0a⟩ := hwz
      have k5a := K5.out.alloc (.cells #[.int .i64 0, .int .i64 0, .int .i64 0, .slice none 0 0, .slice none 0 0] 30)
      obtain ⟨x5a, y5a, z5a⟩ := k5a
      have kma := KM.out.alloc (.cells #[.int .i64 0, .int .i64 0, .int .i64 0, .slice none 0 0, .slice none 0 0] 30)
      obtain ⟨xma, yma, zma⟩ := kma
      clear h0 h2 h3 h4 hm
      by_cases h66 : q.1.el = 6
      · have t66 : (q.1.el == 6) = true := beq_iff_eq.2 h66
        have HFJ : Hid (valV ls r rj.m q.1.sg (q.1.at' + j) = f rj.m j) := Lib.hid (by rw [HFE.out]; unfold elemV; rw [if_pos h66])
        clear h66
        go_wp2_with fail
        refine abs_world (F := fun W => Blk W w.heap.size #[.int .i64 D, .int .i64 X, .int .i64 O] ∧ Blk W (w.heap.size + 1 + 1) #[.int .i64 0, .int .i64 0, .int .i64 0, .slice none 0 0, .slice none 0 0] ∧ Blk W (w.heap.size + 1 + 1 + 1) #[.int .i64 0] ∧ Blk W (w.heap.size + 1 + 1 + 1 + 1) #[.int .i64 2, .int .i64 q.1.el, .int .i64 q.1.n, .slice none 0 0, v] ∧ Blk W bo #[.int .i64 q.1.k, .int .i64 q.1.sg, .int .i64 q.1.at', .int .i64 q.1.d, .int .i64 q.1.p, .int .i64 q.1.el, .int .i64 q.1.n, .int .i64 q.1.cost] ∧ Blk W w3.heap.size #[.int .i64 rj.m] ∧ Blk W wr.heap.size #[.int .i64 0, .int .i64 0, .int .i64 0, .slice none 0 0, .slice none 0 0] ∧ Below wr.heap.size wr W ∧ Below w.heap.size w W ∧ wr.heap.size < W.heap.size) ⟨?_, ?_, ?_, ?_, ?_, ?_, ?_, ?_, ?_, ?_⟩ ?_
        · exact K0.out.alloc _
        · exact K2.out.alloc _
        · exact K3.out.alloc _
        · exact K4.out.alloc _
        · exact K5.out.alloc _
        · exact KM.out.alloc _
        · exact Blk.fresh _ _ _
        · exact (Below.refl _ _).alloc (Nat.le_refl _) _
        · exact HB.out.alloc HB.out.size _
        · simp
        clear K0 K2 K3 K4 K5 KM HB x5 y5 z5 x0a y0a z0a x5a y5a z5a xma yma zma
        have hvb := OwnN.blk HOW.out
        generalize hbk : wr.heap.size = bk at *
        rintro W ⟨h0, h2, h3, h4, h5, hm, hk, hwr, hb, hszW⟩
        refine (HVr.out rj.m q.1.sg (q.1.at' + j) (dep + 1) W (Hs.out.below hb (Nat.le_refl _)) hmb.1 (by omega) (by omega) (by omega) (by omega)).mono ?_
        rw [HFJ.out]
        generalize hfj : f rj.m j = fj at *
        have HFQ := Lib.hid hfj
        clear HFJ hfj
        rintro e w4 ⟨v4, rfl, ⟨Ak, ck, Bk, ek, hik, rfl, hhk, hok⟩, hb4⟩
        have K0 := Lib.hid (h0.below hb4)
        have K2 := Lib.hid (h2.below hb4)
        have k3 := h3.below hb4
        have k4 := h4.below hb4
        have K5 := Lib.hid (h5.below hb4)
        have km := hm.below hb4
        have kk := hk.below hb4
        have HWR := Lib.hid (bel_on' hwr hb4 (by omega))
        have HB := Lib.hid (bel_on hb hb4)
        have hsz4 := hb4.size
        have HNK := Lib.hid hok
        have K3 := Lib.hid k3
        have K4 := Lib.hid k4
        have KM := Lib.hid km
        have KK := Lib.hid kk
        clear h0 h2 h3 h4 h5 hm hk hwr hb hb4 hok
        obtain ⟨x4, y4, z4⟩ := k4
        obtain ⟨xm, ym, zm⟩ := km
        obtain ⟨xk, yk, zk⟩ := kk
        have n1 : bk ≠ (w.heap.size + 1 + 1 + 1 + 1) := by omega
        have n2 : ¬ (w.heap.size + 1 + 1 + 1 + 1) = bk := by omega
        have n3 : w3.heap.size ≠ (w.heap.size + 1 + 1 + 1 + 1) := by omega
        have n4 : ¬ (w.heap.size + 1 + 1 + 1 + 1) = w3.heap.size := by omega
        have n5 : bk ≠ w3.heap.size := by omega
        have n6 : ¬ w3.heap.size = bk := by omega
        by_cases hfe : fj.e = 0
        · have HFE0 := Lib.hid hfe
          have t20 : (fj.e != 0) = false := by rw [hfe]; rfl
          clear hfe
          go_wp2_with (at_builtin; refine hold_it ?_)
          refine Lib.hid ?_
          refine abs_list (F := fun V4 => Blk V4 w.heap.size #[.int .i64 D, .int .i64 X, .int .i64 O] ∧ Blk V4 (w.heap.size + 1 + 1) #[.int .i64 0, .int .i64 0, .int .i64 0, .slice none 0 0, .slice none 0 0] ∧ Blk V4 (w.heap.size + 1 + 1 + 1) #[.int .i64 0] ∧ Blk V4 (w.heap.size + 1 + 1 + 1 + 1) #[.int .i64 2, .int .i64 q.1.el, .int .i64 q.1.n, .slice none 0 0, v] ∧ Blk V4 bo #[.int .i64 q.1.k, .int .i64 q.1.sg, .int .i64 q.1.at', .int .i64 q.1.d, .int .i64 q.1.p, .int .i64 q.1.el, .int .i64 q.1.n, .int .i64 q.1.cost] ∧ Blk V4 w3.heap.size #[.int .i64 fj.m] ∧ OwnN (w3.heap.size + 1) V4 v rj.ks ∧ Blk V4 w4.heap.size #[.int .i64 fj.n.k, .int .i64 fj.n.e, .int .i64 fj.n.n, .slice Ak fj.n.d.length ck, .slice Bk fj.n.ks.length ek] ∧ NdO W.heap.size hik V4 Ak ck Bk ek fj.n ∧ Below w.heap.size w V4 ∧ V4.heap.size = w4.heap.size + 1) ⟨?_, ?_, ?_, ?_, ?_, ?_, ?_, ?_, ?_, ?_, ?_⟩ ?_
          · exact ((((((K0.out.other (by simp; omega) _).other (by simp; omega) _).other (by simp; omega) _).other (by simp; omega) _).other (by simp; omega) _).other (by simp; omega) _).alloc _
          · exact ((((((K2.out.other (by simp; omega) _).other (by simp; omega) _).other (by simp; omega) _).other (by simp; omega) _).other (by simp; omega) _).other (by simp; omega) _).alloc _
          · exact ((((((K3.out.other (by simp; omega) _).other (by simp; omega) _).other (by simp; omega) _).other (by simp; omega) _).other (by simp; omega) _).other (by simp; omega) _).alloc _
          · exact ((((((K4.out.other (by simp; omega) _).other (by simp; omega) _).other (by simp; omega) _).other (by simp; omega) _).other (by simp; omega) _).other (by simp; omega) _).alloc _
          · exact ((((((K5.out.other (by simp; omega) _).other (by simp; omega) _).other (by simp; omega) _).other (by simp; omega) _).other (by simp; omega) _).other (by simp; omega) _).alloc _
          · exact ((((((KM.out.other (by simp; omega) _).other (by simp; omega) _).other (by simp; omega) _).other (by simp; omega) _).other (by simp; omega) _).set 0 (by simp) _).alloc _
          · exact OwnN.below (OwnN.far (p := ⟨w3.heap.size, 0, none⟩) (OwnN.below HOW.out (Below.setCell (Below.setCell (Below.setCell (Below.setCell (Below.setCell HWR.out (by simp) _) (by simp) _) (by simp) _) (by simp) _) (by simp) _) (Nat.le_of_eq hbk)) (by show w3.heap.size < w3.heap.size + 1; omega) _) ((Below.refl _ _).alloc (Nat.le_refl _) _) (Nat.le_refl _)
          · exact Blk.new (by simp [World.setCell])
          · refine HNK.out.to fun g h1 h2 => ?_
            rw [Below.heap_alloc _ _ _ (by simp [World.setCell]; omega), Below.heap_setCell _ _ _ _ (by simp; omega), Below.heap_setCell _ _ _ _ (by simp; omega), Below.heap_setCell _ _ _ _ (by simp; omega), Below.heap_setCell _ _ _ _ (by simp; omega), Below.heap_setCell _ _ _ _ (by simp; omega), Below.heap_setCell _ _ _ _ (by simp; omega)]
          · have := HB.out.size
            refine Below.alloc (Below.setCell (Below.setCell (Below.setCell (Below.setCell (Below.setCell (Below.setCell HB.out ?_ _) ?_ _) ?_ _) ?_ _) ?_ _) ?_ _) ?_ _ <;> (simp [World.setCell]; omega)
          · simp [World.setCell]
          clear K0 K2 K3 K4 K5 KM KK HWR HOW HB HNK x4 y4 z4 xm ym zm xk yk zk k3
          rintro W5 ⟨h0, h2, h3, h4, h5, hm, hown, h9, hnk, hbw, hsW⟩
          have hjl : rj.ks.length = j := by rw [← HRJ.out]; exact runK_length (by rw [HRJ.out]; exact HEJ.out)
          refine wpList_appO rfl (.tmp 163) (.tmp 165) 28 rfl Tryz.underlying28 rfl hown rfl (fun o ho => by rw [h9.cell]; simp [fiveC]) (lo := W.heap.size) (hi := hik) (by omega) (by omega) (fun g hg => by have := (hvb g hg).2; omega) hnk (by omega) (by omega) ?_
          intro v' w' hown' hgr
          obtain ⟨B9, c9, rfl, -⟩ := hown'.slice
          have hl9 : (rj.ks ++ [fj.n]).length = j + 1 := by rw [List.length_append, hjl]; rfl
          rw [hl9] at hown'
          rw [hl9]
          have hb' : Below (w3.heap.size + 1) W5 w' := (Below.refl _ _).grown hgr (by omega) (fun g hg => (OwnN.blk hown g hg).1)
          have hszb := hb'.size
          have K0 := Lib.hid (h0.belowN hb' (by omega))
          have K2 := Lib.hid (h2.belowN hb' (by omega))
          have K3 := Lib.hid (h3.belowN hb' (by omega))
          have k4 := h4.belowN hb' (by omega)
          have K4 := Lib.hid k4
          have K5 := Lib.hid (h5.belowN hb' (by omega))
          have KM := Lib.hid (hm.belowN hb' (by omega))
          have HOW := Lib.hid hown'
          have HB := Lib.hid (hbw.trans (hb'.mono (by omega)))
          clear h0 h2 h3 h4 h5 hm hown h9 hnk hbw hgr hb' hown'
          obtain ⟨x4, y4, z4⟩ := k4
          have HRS : Hid (runK f lf (j + 1) = ⟨rj.ks ++ [fj.n], fj.m, 0⟩) := Lib.hid (by
            rw [runK_ok (by rw [HRJ.out]; exact HEJ.out) (by rw [HRJ.out, HFQ.out]; exact HFE0.out), HRJ.out, HFQ.out])
          go_wp2
          go_roundw
          case rel =>
            refine ⟨j + 1, .slice B9 (j + 1) c9, by omega, by go_num, by rw [HRS.out], ?_, ?_, ?_, ?_, ?_, ?_, ?_, ?_, ?_⟩
            · exact K0.out.other (by simp; omega) _
            · exact K2.out.other (by simp; omega) _
            · exact K3.out.other (by simp) _
            · exact K4.out.set 4 (by simp) _
            · exact K5.out.other (by simp; omega) _
            · rw [HRS.out]; exact KM.out.other (by simp; omega) _
            · rw [HRS.out]; exact OwnN.far HOW.out (by show (w.heap.size + 1 + 1 + 1 + 1) < w3.heap.size + 1; omega) _
            · simp [World.setCell]; omega
            · exact HB.out.setCell (by show w.heap.size ≤ (w.heap.size + 1 + 1 + 1 + 1); omega) _
          case measure => simp [intOf]; omega
        · have HFE0 := Lib.hid hfe
          have t20 : (fj.e != 0) = true := bne_iff_ne.2 hfe
          clear hfe
          go_wp2
          refine abs_code10 (F := fun V => Blk V (w.heap.size + 1 + 1) #[.int .i64 0, .int .i64 0, .int .i64 0, .slice none 0 0, .slice none 0 0] ∧ Blk V (w.heap.size + 1 + 1 + 1) #[.int .i64 0] ∧ Blk V w3.heap.size #[.int .i64 fj.m] ∧ Below w.heap.size w V) ⟨?_, ?_, ?_, ?_⟩ ?_
          · exact (((((K2.out.other (by simp; omega) _).other (by simp; omega) _).other (by simp; omega) _).other (by simp; omega) _).other (by simp; omega) _).other (by simp; omega) _
          · exact (((((K3.out.other (by simp; omega) _).other (by simp; omega) _).other (by simp; omega) _).other (by simp; omega) _).other (by simp; omega) _).other (by simp; omega) _
          · exact (((((KM.out.other (by simp; omega) _).other (by simp; omega) _).other (by simp; omega) _).other (by simp; omega) _).other (by simp; omega) _).set 0 (by simp) _
          · refine Below.setCell (Below.setCell (Below.setCell (Below.setCell (Below.setCell (Below.setCell HB.out ?_ _) ?_ _) ?_ _) ?_ _) ?_ _) ?_ _ <;> (simp; omega)
          clear K0 K2 K3 K4 K5 KM KK HWR HOW HB HNK x4 y4 z4 xm ym zm xk yk zk k3
          rintro V ⟨h2, h3, hm, hb⟩
          have K2 := Lib.hid h2
          have K3 := Lib.hid h3
          have HB := Lib.hid hb
          clear hb
          obtain ⟨x2, y2, z2⟩ := h2
          obtain ⟨x3, y3, z3⟩ := h3
          obtain ⟨xm, ym, zm⟩ := hm
          go_region
          go_wp2
          have HS : Hid (sv = errV fj.m fj.e) := Lib.hid (by
            have h1 : runK f lf (j + 1) = ⟨[], fj.m, fj.e⟩ := by
              rw [runK_no (by rw [HRJ.out]; exact HEJ.out) (by rw [HRJ.out, HFQ.out]; exact HFE0.out), HRJ.out, HFQ.out]
            have h2 : runK f lf N = ⟨[], fj.m, fj.e⟩ := by
              rw [runK_keep (i := j + 1) (by rw [h1]; exact HFE0.out) (by omega), h1]
            rw [HSV.out, h2, if_pos HFE0.out])
          refine abs_post (F := fun W => Blk W (w.heap.size + 1 + 1) #[.int .i64 0, .int .i64 0, .int .i64 0, .slice none 0 0, .slice none 0 0] ∧ Blk W (w.heap.size + 1 + 1 + 1) #[.int .i64 fj.m] ∧ Below w.heap.size w W) ⟨?_, ?_, ?_⟩ ?_
          · exact ((((((K2.out.set 0 (by simp) _).set 1 (by simp) _).set 2 (by simp) _).set 3 (by simp) _).set 4 (by simp) _).other (by simp) _).drew
          · exact ((((((K3.out.other (by simp) _).other (by simp) _).other (by simp) _).other (by simp) _).other (by simp) _).set 0 (by simp) _).drew
          · refine bel_drew (Below.setCell (Below.setCell (Below.setCell (Below.setCell (Below.setCell (Below.setCell HB.out ?_ _) ?_ _) ?_ _) ?_ _) ?_ _) ?_ _) <;> (simp; omega)
          rintro W5 ⟨B6, B7, hbw⟩
          exact bodyPost_ret (v := .tuple #[.agg #[.int .i64 0, .int .i64 0, .int .i64 0, .slice none 0 0, .slice none 0 0], .agg #[.int .i64 fj.m], .int .i64 fj.e]) (by simp [results, Tryz.results19, go_sem, B6.cell, B7.cell]) rfl ⟨_, by rw [HS.out]; rfl, by rw [HS.out]; exact nod_zero _ _, hbw⟩
      · have t66 : (q.1.el == 6) = false := beq_eq_false_iff_ne.2 h66
        have HFJ : Hid (structV (valV ls r) ls rj.m (eleO q.1 j) = f rj.m j) := Lib.hid (by rw [HFE.out]; unfold elemV; rw [if_neg h66])
        have hjd : (j : Int) * (q.1.d + q.1.p) ≤ q.1.n * (q.1.d + q.1.p) := Int.mul_le_mul_of_nonneg_right (by omega) (by omega)
        have hj0 : 0 ≤ (j : Int) * (q.1.d + q.1.p) := Int.mul_nonneg (by omega) (by omega)
        clear h66
        go_wp2_with fail
        refine abs_code10 (F := fun W => Blk W w.heap.size #[.int .i64 D, .int .i64 X, .int .i64 O] ∧ Blk W (w.heap.size + 1 + 1) #[.int .i64 0, .int .i64 0, .int .i64 0, .slice none 0 0, .slice none 0 0] ∧ Blk W (w.heap.size + 1 + 1 + 1) #[.int .i64 0] ∧ Blk W (w.heap.size + 1 + 1 + 1 + 1) #[.int .i64 2, .int .i64 q.1.el, .int .i64 q.1.n, .slice none 0 0, v] ∧ Blk W bo #[.int .i64 q.1.k, .int .i64 q.1.sg, .int .i64 q.1.at', .int .i64 q.1.d, .int .i64 q.1.p, .int .i64 q.1.el, .int .i64 q.1.n, .int .i64 q.1.cost] ∧ Blk W w3.heap.size #[.int .i64 rj.m] ∧ Blk W wr.heap.size #[.int .i64 0, .int .i64 0, .int .i64 0, .slice none 0 0, .slice none 0 0] ∧ Below wr.heap.size wr W ∧ Below w.heap.size w W ∧ wr.heap.size < W.heap.size) ⟨?_, ?_, ?_, ?_, ?_, ?_, ?_, ?_, ?_, ?_⟩ ?_
        · exact K0.out.alloc _
        · exact K2.out.alloc _
        · exact K3.out.alloc _
        · exact K4.out.alloc _
        · exact K5.out.alloc _
        · exact KM.out.alloc _
        · exact Blk.fresh _ _ _
        · exact (Below.refl _ _).alloc (Nat.le_refl _) _
        · exact HB.out.alloc HB.out.size _
        · simp
        clear K0 K2 K3 K4 K5 KM HB x5 y5 z5 x0a y0a z0a x5a y5a z5a xma yma zma
        have hvb := OwnN.blk HOW.out
        generalize hbk : wr.heap.size = bk at *
        rintro W ⟨h0, h2, h3, h4, h5, hm, hk, hwr, hb, hszW⟩
        have HST7 := Lib.hid (fun w' hs' => HSr.out rj.m (eleO q.1 j) dep w' hs' hmb.1 (by omega) hd0 (by omega) (by omega) (by show 0 ≤ q.1.at' + (j : Int) * (q.1.d + q.1.p); omega) (by show q.1.at' + (j : Int) * (q.1.d + q.1.p) ≤ 100000000000; omega) (by show 0 ≤ q.1.d; omega) (by show q.1.d ≤ 65535; omega) (by show 0 ≤ q.1.p; omega) (by show q.1.p ≤ 65535; omega))
        rw [HFJ.out] at HST7
        generalize hfj : f rj.m j = fj at *
        have HFQ := Lib.hid hfj
        clear HFJ hfj
        obtain ⟨x0, y0, z0⟩ := h0
        obtain ⟨x5, y5, z5⟩ := h5
        obtain ⟨xm, ym, zm⟩ := hm
        have K0h := Lib.hid (show Blk W w.heap.size #[.int .i64 D, .int .i64 X, .int .i64 O] from ⟨x0, y0, z0⟩)
        have K5h := Lib.hid (show Blk W bo #[.int .i64 q.1.k, .int .i64 q.1.sg, .int .i64 q.1.at', .int .i64 q.1.d, .int .i64 q.1.p, .int .i64 q.1.el, .int .i64 q.1.n, .int .i64 q.1.cost] from ⟨x5, y5, z5⟩)
        have KMh := Lib.hid (show Blk W w3.heap.size #[.int .i64 rj.m] from ⟨xm, ym, zm⟩)
        refine wp_region_t12_3 [10, 11] (by kernel_rfl) (by kernel_rfl) ?_
        refine t_val (u := ?_) [0] (by kernel_rfl) rfl (by kernel_rfl) trivial (fun ρ wc hbc hcn hq => ?_) ?_; rotate_left
        · obtain ⟨hcn, -⟩ := hcn
          simp at hq
          obtain ⟨hcc, -⟩ := bcell hbc
          simp at hcc
          go_simp
          rfl
        refine t_val (u := ?_) [7] (by kernel_rfl) rfl (by kernel_rfl) trivial (fun ρ wc hbc hcn hq => ?_) ?_; rotate_left
        · obtain ⟨hcn, -⟩ := hcn
          simp at hq
          obtain ⟨hcc, -⟩ := bcell hbc
          simp at hcc
          go_simp
          rfl
        refine t_val (u := ?_) [22] (by kernel_rfl) rfl (by kernel_rfl) trivial (fun ρ wc hbc hcn hq => ?_) ?_; rotate_left
        · obtain ⟨hcn, -⟩ := hcn
          simp at hq
          obtain ⟨hcc, -⟩ := bcell hbc
          simp at hcc
          go_simp
          rfl
        refine t_val (u := ?_) [20] (by kernel_rfl) rfl (by kernel_rfl) trivial (fun ρ wc hbc hcn hq => ?_) ?_; rotate_left
        · obtain ⟨hcn, -⟩ := hcn
          simp at hq
          obtain ⟨hcc, -⟩ := bcell hbc
          simp at hcc
          go_simp
          rfl
        refine t_val (u := ?_) [26] (by kernel_rfl) rfl (by kernel_rfl) trivial (fun ρ wc hbc hcn hq => ?_) ?_; rotate_left
        · obtain ⟨hcn, -⟩ := hcn
          simp at hq
          obtain ⟨hcc, -⟩ := bcell hbc
          simp at hcc
          go_simp
          rfl
        refine t_call (T := Is (.agg #[.int .i64 (eleO q.1 j).k, .int .i64 (eleO q.1 j).sg, .int .i64 (eleO q.1 j).at', .int .i64 (eleO q.1 j).d, .int .i64 (eleO q.1 j).p, .int .i64 (eleO q.1 j).el, .int .i64 (eleO q.1 j).n, .int .i64 (eleO q.1 j).cost])) (Is (.agg #[.int .i64 (eleO q.1 j).k, .int .i64 (eleO q.1 j).sg, .int .i64 (eleO q.1 j).at', .int .i64 (eleO q.1 j).d, .int .i64 (eleO q.1 j).p, .int .i64 (eleO q.1 j).el, .int .i64 (eleO q.1 j).n, .int .i64 (eleO q.1 j).cost])) 43 [149, 150] (by kernel_rfl) rfl (by kernel_rfl) trivial (stable_is _) (free_is _) (fun _ _ h => h) (fun ρ wc hbc hcn hq => ?_) ?_
        · obtain ⟨hcn, hfn⟩ := hcn
          simp at hq
          refine ⟨_, by go_simp; rfl, ?_⟩
          refine (RefElement_any q.1 j _ (by omega) (by omega) (by omega) (by omega) (by omega) (by omega)).mono ?_
          rintro e w' ⟨rfl, hbq⟩
          exact ⟨_, rfl, rfl, hbq⟩
        refine t_val (u := ?_) [5] (by kernel_rfl) rfl (by kernel_rfl) trivial (fun ρ wc hbc hcn hq => ?_) ?_; rotate_left
        · obtain ⟨hcn, -⟩ := hcn
          simp at hq
          obtain ⟨hcc, -⟩ := bcell hbc
          simp at hcc
          go_simp
          rfl
        refine t_call (T := TupF W.heap.size fj) (TupU fj) 39 [146, 147, 148, 151, 152] (by kernel_rfl) rfl (by kernel_rfl) trivial (stable_tup _ _) (free_tup _) (fun _ _ h => h.u) (fun ρ wc hbc hcn hq => ?_) ?_
        · obtain ⟨hcn, hfn⟩ := hcn
          simp at hq
          refine ⟨_, by go_simp; rfl, ?_⟩
          refine (HST7.out wc (Hs.out.below (bel_on (bel_drew hb) hbc) (Nat.le_refl _))).mono ?_
          rintro e w' ⟨v, rfl, hn, hbq⟩
          exact ⟨_, rfl, ⟨v, rfl, hn.lower hbc.size⟩, hbq⟩
        refine t_new (T := TupF W.heap.size fj) (TupU fj) [153] (by kernel_rfl) rfl (by kernel_rfl) trivial (stable_tup _ _) (free_tup _) (fun _ _ h => h.u) (fun ρ wc hbc hcn hq => ?_) ?_
        · obtain ⟨hcn, hfn⟩ := hcn
          simp at hq
          exact ⟨ρ (.tmp 153), wc, by go_simp, hq, Below.refl _ _⟩
        refine t_new (T := NodF W.heap.size fj.n) Any [145] (by kernel_rfl) rfl (by kernel_rfl) trivial (stable_nod _ _) free_any (fun _ _ _ => trivial) (fun ρ wc hbc hcn hq => ?_) ?_
        · obtain ⟨hcn, hfn⟩ := hcn
          simp at hq
          obtain ⟨x, hx, hn⟩ := hq
          exact ⟨x, wc, by go_simp, hn, Below.refl _ _⟩
        refine t_pure (u := .agg #[.int .i64 fj.m]) [145] (by kernel_rfl) rfl (by kernel_rfl) rfl (fun ρ wc hcn hq => ?_) ?_
        · obtain ⟨hcn, hfn⟩ := hcn
          simp at hq
          obtain ⟨x, hx⟩ := hq
          go_simp
        refine t_pure (u := .int .i64 fj.e) [145] (by kernel_rfl) rfl (by kernel_rfl) rfl (fun ρ wc hcn hq => ?_) ?_
        · obtain ⟨hcn, hfn⟩ := hcn
          simp at hq
          obtain ⟨x, hx⟩ := hq
          go_simp
        refine t_end_lit 170 rfl (fun ff w4 hb7 hq => ?_)
        have h154 : NodF W.heap.size fj.n (ff 154) w4 := allN_atF hq 154 (by decide) (by decide)
        have h0 := K0h.out
        have h5 := K5h.out
        have hm := KMh.out
        have hb4 : Below W.heap.size W w4 := ⟨hb7.os, hb7.tape, hb7.output, hb7.size, hb7.block⟩
        clear hb7 K0h K5h KMh HST7 x0 y0 z0 x5 y5 z5 xm ym zm
        simp [AllN] at hq
        simp only [frameL, hq, Nat.zero_add, Nat.reduceAdd]
        clear hq
        obtain ⟨Ak, ck, Bk, ek, hik, e154, hhk, hok⟩ := h154
        generalize ff 145 = u145
        generalize ff 153 = u153
        generalize ff 154 = u154 at *
        subst e154
        have K0 := Lib.hid (h0.below hb4)
        have K2 := Lib.hid (h2.below hb4)
        have k3 := h3.below hb4
        have k4 := h4.below hb4
        have K5 := Lib.hid (h5.below hb4)
        have km := hm.below hb4
        have kk := hk.below hb4
        have HWR := Lib.hid (bel_on' hwr hb4 (by omega))
        have HB := Lib.hid (bel_on hb hb4)
        have hsz4 := hb4.size
        have HNK := Lib.hid hok
        have K3 := Lib.hid k3
        have K4 := Lib.hid k4
        have KM := Lib.hid km
        have KK := Lib.hid kk
        clear h0 h2 h3 h4 h5 hm hk hwr hb hb4 hok
        obtain ⟨x4, y4, z4⟩ := k4
        obtain ⟨xm, ym, zm⟩ := km
        obtain ⟨xk, yk, zk⟩ := kk
        have n1 : bk ≠ (w.heap.size + 1 + 1 + 1 + 1) := by omega
        have n2 : ¬ (w.heap.size + 1 + 1 + 1 + 1) = bk := by omega
        have n3 : w3.heap.size ≠ (w.heap.size + 1 + 1 + 1 + 1) := by omega
        have n4 : ¬ (w.heap.size + 1 + 1 + 1 + 1) = w3.heap.size := by omega
        have n5 : bk ≠ w3.heap.size := by omega
        have n6 : ¬ w3.heap.size = bk := by omega
        go_wp2
        refine ⟨rfl, ?_⟩
        by_cases hfe : fj.e = 0
        · have HFE0 := Lib.hid hfe
          have t20 : (fj.e != 0) = false := by rw [hfe]; rfl
          clear hfe
          go_wp2_with (at_builtin; refine hold_it ?_)
          refine Lib.hid ?_
          refine abs_list (F := fun V4 => Blk V4 w.heap.size #[.int .i64 D, .int .i64 X, .int .i64 O] ∧ Blk V4 (w.heap.size + 1 + 1) #[.int .i64 0, .int .i64 0, .int .i64 0, .slice none 0 0, .slice none 0 0] ∧ Blk V4 (w.heap.size + 1 + 1 + 1) #[.int .i64 0] ∧ Blk V4 (w.heap.size + 1 + 1 + 1 + 1) #[.int .i64 2, .int .i64 q.1.el, .int .i64 q.1.n, .slice none 0 0, v] ∧ Blk V4 bo #[.int .i64 q.1.k, .int .i64 q.1.sg, .int .i64 q.1.at', .int .i64 q.1.d, .int .i64 q.1.p, .int .i64 q.1.el, .int .i64 q.1.n, .int .i64 q.1.cost] ∧ Blk V4 w3.heap.size #[.int .i64 fj.m] ∧ OwnN (w3.heap.size + 1) V4 v rj.ks ∧ Blk V4 w4.heap.size #[.int .i64 fj.n.k, .int .i64 fj.n.e, .int .i64 fj.n.n, .slice Ak fj.n.d.length ck, .slice Bk fj.n.ks.length ek] ∧ NdO W.heap.size hik V4 Ak ck Bk ek fj.n ∧ Below w.heap.size w V4 ∧ V4.heap.size = w4.heap.size + 1) ⟨?_, ?_, ?_, ?_, ?_, ?_, ?_, ?_, ?_, ?_, ?_⟩ ?_
          · exact ((((((K0.out.other (by simp; omega) _).other (by simp; omega) _).other (by simp; omega) _).other (by simp; omega) _).other (by simp; omega) _).other (by simp; omega) _).alloc _
          · exact ((((((K2.out.other (by simp; omega) _).other (by simp; omega) _).other (by simp; omega) _).other (by simp; omega) _).other (by simp; omega) _).other (by simp; omega) _).alloc _
          · exact ((((((K3.out.other (by simp; omega) _).other (by simp; omega) _).other (by simp; omega) _).other (by simp; omega) _).other (by simp; omega) _).other (by simp; omega) _).alloc _
          · exact ((((((K4.out.other (by simp; omega) _).other (by simp; omega) _).other (by simp; omega) _).other (by simp; omega) _).other (by simp; omega) _).other (by simp; omega) _).alloc _
          · exact ((((((K5.out.other (by simp; omega) _).other (by simp; omega) _).other (by simp; omega) _).other (by simp; omega) _).other (by simp; omega) _).other (by simp; omega) _).alloc _
          · exact ((((((KM.out.other (by simp; omega) _).other (by simp; omega) _).other (by simp; omega) _).other (by simp; omega) _).other (by simp; omega) _).set 0 (by simp) _).alloc _
          · exact OwnN.below (OwnN.far (p := ⟨w3.heap.size, 0, none⟩) (OwnN.below HOW.out (Below.setCell (Below.setCell (Below.setCell (Below.setCell (Below.setCell HWR.out (by simp) _) (by simp) _) (by simp) _) (by simp) _) (by simp) _) (Nat.le_of_eq hbk)) (by show w3.heap.size < w3.heap.size + 1; omega) _) ((Below.refl _ _).alloc (Nat.le_refl _) _) (Nat.le_refl _)
          · exact Blk.new (by simp [World.setCell])
          · refine HNK.out.to fun g h1 h2 => ?_
            rw [Below.heap_alloc _ _ _ (by simp [World.setCell]; omega), Below.heap_setCell _ _ _ _ (by simp; omega), Below.heap_setCell _ _ _ _ (by simp; omega), Below.heap_setCell _ _ _ _ (by simp; omega), Below.heap_setCell _ _ _ _ (by simp; omega), Below.heap_setCell _ _ _ _ (by simp; omega), Below.heap_setCell _ _ _ _ (by simp; omega)]
          · have := HB.out.size
            refine Below.alloc (Below.setCell (Below.setCell (Below.setCell (Below.setCell (Below.setCell (Below.setCell HB.out ?_ _) ?_ _) ?_ _) ?_ _) ?_ _) ?_ _) ?_ _ <;> (simp [World.setCell]; omega)
          · simp [World.setCell]
          clear K0 K2 K3 K4 K5 KM KK HWR HOW HB HNK x4 y4 z4 xm ym zm xk yk zk k3
          rintro W5 ⟨h0, h2, h3, h4, h5, hm, hown, h9, hnk, hbw, hsW⟩
          have hjl : rj.ks.length = j := by rw [← HRJ.out]; exact runK_length (by rw [HRJ.out]; exact HEJ.out)
          refine wpList_appO rfl (.tmp 163) (.tmp 165) 28 rfl Tryz.underlying28 rfl hown rfl (fun o ho => by rw [h9.cell]; simp [fiveC]) (lo := W.heap.size) (hi := hik) (by omega) (by omega) (fun g hg => by have := (hvb g hg).2; omega) hnk (by omega) (by omega) ?_
          intro v' w' hown' hgr
          obtain ⟨B9, c9, rfl, -⟩ := hown'.slice
          have hl9 : (rj.ks ++ [fj.n]).length = j + 1 := by rw [List.length_append, hjl]; rfl
          rw [hl9] at hown'
          rw [hl9]
          have hb' : Below (w3.heap.size + 1) W5 w' := (Below.refl _ _).grown hgr (by omega) (fun g hg => (OwnN.blk hown g hg).1)
          have hszb := hb'.size
          have K0 := Lib.hid (h0.belowN hb' (by omega))
          have K2 := Lib.hid (h2.belowN hb' (by omega))
          have K3 := Lib.hid (h3.belowN hb' (by omega))
          have k4 := h4.belowN hb' (by omega)
          have K4 := Lib.hid k4
          have K5 := Lib.hid (h5.belowN hb' (by omega))
          have KM := Lib.hid (hm.belowN hb' (by omega))
          have HOW := Lib.hid hown'
          have HB := Lib.hid (hbw.trans (hb'.mono (by omega)))
          clear h0 h2 h3 h4 h5 hm hown h9 hnk hbw hgr hb' hown'
          obtain ⟨x4, y4, z4⟩ := k4
          have HRS : Hid (runK f lf (j + 1) = ⟨rj.ks ++ [fj.n], fj.m, 0⟩) := Lib.hid (by
            rw [runK_ok (by rw [HRJ.out]; exact HEJ.out) (by rw [HRJ.out, HFQ.out]; exact HFE0.out), HRJ.out, HFQ.out])
          go_wp2
          go_roundw
          case rel =>
            refine ⟨j + 1, .slice B9 (j + 1) c9, by omega, by go_num, by rw [HRS.out], ?_, ?_, ?_, ?_, ?_, ?_, ?_, ?_, ?_⟩
            · exact K0.out.other (by simp; omega) _
            · exact K2.out.other (by simp; omega) _
            · exact K3.out.other (by simp) _
            · exact K4.out.set 4 (by simp) _
            · exact K5.out.other (by simp; omega) _
            · rw [HRS.out]; exact KM.out.other (by simp; omega) _
            · rw [HRS.out]; exact OwnN.far HOW.out (by show (w.heap.size + 1 + 1 + 1 + 1) < w3.heap.size + 1; omega) _
            · simp [World.setCell]; omega
            · exact HB.out.setCell (by show w.heap.size ≤ (w.heap.size + 1 + 1 + 1 + 1); omega) _
          case measure => simp [intOf]; omega
        · have HFE0 := Lib.hid hfe
          have t20 : (fj.e != 0) = true := bne_iff_ne.2 hfe
          clear hfe
          go_wp2
          refine abs_code10 (F := fun V => Blk V (w.heap.size + 1 + 1) #[.int .i64 0, .int .i64 0, .int .i64 0, .slice none 0 0, .slice none 0 0] ∧ Blk V (w.heap.size + 1 + 1 + 1) #[.int .i64 0] ∧ Blk V w3.heap.size #[.int .i64 fj.m] ∧ Below w.heap.size w V) ⟨?_, ?_, ?_, ?_⟩ ?_
          · exact (((((K2.out.other (by simp; omega) _).other (by simp; omega) _).other (by simp; omega) _).other (by simp; omega) _).other (by simp; omega) _).other (by simp; omega) _
          · exact (((((K3.out.other (by simp; omega) _).other (by simp; omega) _).other (by simp; omega) _).other (by simp; omega) _).other (by simp; omega) _).other (by simp; omega) _
          · exact (((((KM.out.other (by simp; omega) _).other (by simp; omega) _).other (by simp; omega) _).other (by simp; omega) _).other (by simp; omega) _).set 0 (by simp) _
          · refine Below.setCell (Below.setCell (Below.setCell (Below.setCell (Below.setCell (Below.setCell HB.out ?_ _) ?_ _) ?_ _) ?_ _) ?_ _) ?_ _ <;> (simp; omega)
          clear K0 K2 K3 K4 K5 KM KK HWR HOW HB HNK x4 y4 z4 xm ym zm xk yk zk k3
          rintro V ⟨h2, h3, hm, hb⟩
          have K2 := Lib.hid h2
          have K3 := Lib.hid h3
          have HB := Lib.hid hb
          clear hb
          obtain ⟨x2, y2, z2⟩ := h2
          obtain ⟨x3, y3, z3⟩ := h3
          obtain ⟨xm, ym, zm⟩ := hm
          go_region
          go_wp2
          have HS : Hid (sv = errV fj.m fj.e) := Lib.hid (by
            have h1 : runK f lf (j + 1) = ⟨[], fj.m, fj.e⟩ := by
              rw [runK_no (by rw [HRJ.out]; exact HEJ.out) (by rw [HRJ.out, HFQ.out]; exact HFE0.out), HRJ.out, HFQ.out]
            have h2 : runK f lf N = ⟨[], fj.m, fj.e⟩ := by
              rw [runK_keep (i := j + 1) (by rw [h1]; exact HFE0.out) (by omega), h1]
            rw [HSV.out, h2, if_pos HFE0.out])
          refine abs_post (F := fun W => Blk W (w.heap.size + 1 + 1) #[.int .i64 0, .int .i64 0, .int .i64 0, .slice none 0 0, .slice none 0 0] ∧ Blk W (w.heap.size + 1 + 1 + 1) #[.int .i64 fj.m] ∧ Below w.heap.size w W) ⟨?_, ?_, ?_⟩ ?_
          · exact ((((((K2.out.set 0 (by simp) _).set 1 (by simp) _).set 2 (by simp) _).set 3 (by simp) _).set 4 (by simp) _).other (by simp) _).drew
          · exact ((((((K3.out.other (by simp) _).other (by simp) _).other (by simp) _).other (by simp) _).other (by simp) _).set 0 (by simp) _).drew
          · refine bel_drew (Below.setCell (Below.setCell (Below.setCell (Below.setCell (Below.setCell (Below.setCell HB.out ?_ _) ?_ _) ?_ _) ?_ _) ?_ _) ?_ _) <;> (simp; omega)
          rintro W5 ⟨B6, B7, hbw⟩
          exact bodyPost_ret (v := .tuple #[.agg #[.int .i64 0, .int .i64 0, .int .i64 0, .slice none 0 0, .slice none 0 0], .agg #[.int .i64 fj.m], .int .i64 fj.e]) (by simp [results, Tryz.results19, go_sem, B6.cell, B7.cell]) rfl ⟨_, by rw [HS.out]; rfl, by rw [HS.out]; exact nod_zero _ _, hbw⟩
    ·
      have hNj : N = j := by omega
      have hpi : ¬ (j : Int) < q.1.n := by rw [HNE.out]; omega
      have HNJ := Lib.hid hNj
      clear hNj
      have hjl := runK_length HEJ.out
      obtain ⟨B9, c9, rfl, hl9, hm9, hn9⟩ := HOW.out.slice
      have HND := Lib.hid (HOW.out.node (k := 2) (e := q.1.el) (n := q.1.n) (by omega) (by omega) (by omega) (Got.empty _ _ _ _) (fun z hz => by cases hz))
      have HS : Hid (sv = ⟨.mk 2 q.1.el q.1.n [] (runK f lf j).ks, (runK f lf j).m, 0⟩) := Lib.hid (by
        rw [HSV.out, HNJ.out, if_neg (by rw [HEJ.out]; simp)])
      obtain ⟨x2, y2, z2⟩ := K2.out
      obtain ⟨x3, y3, z3⟩ := K3.out
      obtain ⟨x4, y4, z4⟩ := h4
      obtain ⟨xm, ym, zm⟩ := hm
      rw [hjl] at x4
      go_wp2
      go_region
      go_wp2
      refine abs_post (F := fun W => Blk W (w.heap.size + 1 + 1) #[.int .i64 2, .int .i64 q.1.el, .int .i64 q.1.n, .slice none 0 0, .slice B9 j c9] ∧ Blk W (w.heap.size + 1 + 1 + 1) #[.int .i64 (runK f lf j).m] ∧ NdO (w3.heap.size + 1) W.heap.size W none 0 B9 c9 (.mk 2 q.1.el q.1.n [] (runK f lf j).ks) ∧ Below w.heap.size w W) ⟨?_, ?_, ?_, ?_⟩ ?_
      · exact ((((((K2.out.set 0 (by simp) _).set 1 (by simp) _).set 2 (by simp) _).set 3 (by simp) _).set 4 (by simp) _).other (by simp) _).drew
      · exact ((((((K3.out.other (by simp) _).other (by simp) _).other (by simp) _).other (by simp) _).other (by simp) _).set 0 (by simp) _).drew
      · refine (HND.out.to fun g q1 _ => ?_).wide (Nat.le_refl _) (by simp [World.setCell, World.drew])
        show (((((((wr.setCell _ _).setCell _ _).setCell _ _).setCell _ _).setCell _ _).setCell _ _).drew).heap[g]? = wr.heap[g]?
        rw [show ∀ W : World, W.drew.heap = W.heap from fun _ => rfl, Below.heap_setCell _ _ _ _ (by simp; omega), Below.heap_setCell _ _ _ _ (by simp; omega), Below.heap_setCell _ _ _ _ (by simp; omega), Below.heap_setCell _ _ _ _ (by simp; omega), Below.heap_setCell _ _ _ _ (by simp; omega), Below.heap_setCell _ _ _ _ (by simp; omega)]
      · refine bel_drew (Below.setCell (Below.setCell (Below.setCell (Below.setCell (Below.setCell (Below.setCell HB.out ?_ _) ?_ _) ?_ _) ?_ _) ?_ _) ?_ _) <;> (simp; omega)
      rintro W5 ⟨B6, B7, hN, hbw⟩
      have hve : Value.agg #[.int .i64 2, .int .i64 q.1.el, .int .i64 q.1.n, .slice none 0 0, .slice B9 j c9] = .agg #[.int .i64 (Nd.mk 2 q.1.el q.1.n [] (runK f lf j).ks).k, .int .i64 (Nd.mk 2 q.1.el q.1.n [] (runK f lf j).ks).e, .int .i64 (Nd.mk 2 q.1.el q.1.n [] (runK f lf j).ks).n, .slice none (Nd.mk 2 q.1.el q.1.n [] (runK f lf j).ks).d.length 0, .slice B9 (Nd.mk 2 q.1.el q.1.n [] (runK f lf j).ks).ks.length c9] := by
        simp only [Nd.k, Nd.e, Nd.n, Nd.d, Nd.ks, List.length_nil, hjl]
      exact bodyPost_ret (v := .tuple #[.agg #[.int .i64 2, .int .i64 q.1.el, .int .i64 q.1.n, .slice none 0 0, .slice B9 j c9], .agg #[.int .i64 (runK f lf j).m], .int .i64 0]) (by simp [results, Tryz.results19, go_sem, B6.cell, B7.cell]) rfl ⟨_, by rw [HS.out], by rw [HS.out]; exact ⟨none, 0, B9, c9, _, hve, Nat.le_refl _, hN.wide (by omega) (Nat.le_refl _)⟩, hbw⟩

theorem RefValue12 (A : Option Addr) (c : Nat) (ls : List (List Int)) (D X O : Int) (hw : Wd2 ls) (hm : ls.length ≤ 40) (hf : ∀ j, (seg ls j).length ≤ 20000000) (hD : D ≤ 900) : ∀ r, ValC A c ls D X O r
  | 0 => RefValue12_step A c ls D X O hw hm hf 0 hD (fun r' h => by omega)
  | r + 1 => RefValue12_step A c ls D X O hw hm hf (r + 1) hD (fun r' h => by
    obtain rfl : r' = r := by omega
    exact RefValue12 A c ls D X O hw hm hf hD r')
end Go.Proofs.YtnmanhediiooaaaGreatDoor

/- The traversal's results are well-formed. -/
namespace Go.Proofs.YtnmanhediiooaaaGreatDoor
open Go.ChangeShapes Go.WideShapes Go.ChangeAt Go.RowKit
set_option linter.unusedVariables false
set_option linter.unusedSimpArgs false
set_option maxRecDepth 100000

theorem runK_all {f : Int → Nat → Val} {m : Int} (Q : Nd → Prop) : ∀ n, (∀ m i, i < n → (f m i).e = 0 → Q (f m i).n) → ∀ y ∈ (runK f m n).ks, Q y
  | 0, _, y, hy => by cases hy
  | n + 1, hs, y, hy => by
    have ih := runK_all (f := f) (m := m) Q n (fun m i hi => hs m i (by omega))
    by_cases h1 : (runK f m n).e = 0
    · by_cases h2 : (f (runK f m n).m n).e = 0
      · rw [runK_ok h1 h2] at hy
        rcases List.mem_append.1 hy with h | h
        · exact ih y h
        · rw [List.mem_singleton] at h
          subst h
          exact hs _ n (by omega) h2
      · rw [runK_no h1 h2] at hy
        cases hy
    · rw [runK_keep h1 (Nat.le_succ n)] at hy
      exact ih y hy
theorem validK_allD {k e : Int} : ∀ ks : List Nd, (∀ y ∈ ks, validN y = true ∧ (k = 2 → e = 7 → y.k = 1)) → validK k e ks = true
  | [], _ => by simp [validK]
  | x :: xs, h => by
    have h1 := h x (List.mem_cons_self ..)
    have h2 := validK_allD (k := k) (e := e) xs (fun y hy => h y (List.mem_cons_of_mem _ hy))
    simp only [validK, h1.1, h2, Bool.true_and, Bool.and_true, Bool.not_eq_true', decide_eq_false_iff_not]
    intro h3
    exact h3.2.2 (h1.2 h3.1 h3.2.1)
theorem valid_nd0 : validN nd0 = true := by decide
theorem datW_le (ls : List (List Int)) (s a n : Int) : (datW ls s a n).length ≤ n.toNat := by
  unfold datW
  split
  · unfold sliceL
    rw [List.length_take]
    omega
  · simp
theorem trimL_twice (b : List Int) (e c : Int) : trimL (trimL b e c) e c = trimL b e c := by
  apply ext_zat
  · rw [trimL_length, trimL_length]
  · intro i hi
    rw [trimL_length] at hi
    rw [trimL_zat _ _ _ _ hi, trimL_zat _ _ _ _ hi]
    unfold trimAt
    rw [trimL_zat _ _ _ _ hi]
    unfold trimAt
    split
    · rw [Int.emod_emod_of_dvd _ (Int.dvd_refl _)]
    · rfl
theorem structV_valid {val : Int → Int → Int → Val} (hv : ∀ m s a, validN (val m s a).n = true) (ls : List (List Int)) (m : Int) (o : Ob) (h1 : 0 ≤ o.d) (h2 : o.d ≤ 65535) (h3 : 0 ≤ o.p) (h4 : o.p ≤ 65535) :
    validN (structV val ls m o).n = true ∧ ((structV val ls m o).e = 0 → (structV val ls m o).n.k = 1) := by
  unfold structV
  split
  · rename_i h
    exact ⟨valid_nd0, fun h0 => absurd h0 h⟩
  · rename_i h
    have h0 : (runK (fun m i => val m o.sg (o.at' + o.d + i)) m o.p.toNat).e = 0 := Classical.byContradiction h
    have hl := runK_length h0
    have hk : validK 1 0 (runK (fun m i => val m o.sg (o.at' + o.d + i)) m o.p.toNat).ks = true := validK_allD _ fun y hy => ⟨runK_all (fun y => validN y = true) _ (fun m i _ _ => hv _ _ _) y hy, fun h => by omega⟩
    have hd := datW_le ls o.sg o.at' o.d
    refine ⟨?_, fun _ => rfl⟩
    show (validK 1 0 _ && headB 1 0 0 _ _) = true
    rw [hk, Bool.true_and]
    unfold headB
    rw [if_neg (by omega), if_pos rfl, decide_eq_true_iff, bytesOf_length, hl]
    omega
theorem listV_valid {val : Int → Int → Int → Val} (hv : ∀ m s a, validN (val m s a).n = true) (ls : List (List Int)) (m : Int) (o : Ob) (h1 : 0 ≤ o.d) (h2 : o.d ≤ 65535) (h3 : 0 ≤ o.p) (h4 : o.p ≤ 65535) (h5 : 0 ≤ o.n) (h6 : o.n ≤ 536870911) (h7 : 6 ≤ o.el) (h8 : o.el ≤ 7) :
    validN (listV val ls m o).n = true := by
  unfold listV
  split
  · exact valid_nd0
  · rename_i h
    have h0 : (runK (elemV val ls o) m o.n.toNat).e = 0 := Classical.byContradiction h
    have hl := runK_length h0
    have hk : validK 2 o.el (runK (elemV val ls o) m o.n.toNat).ks = true := validK_allD _ fun y hy => runK_all (fun y => validN y = true ∧ ((2 : Int) = 2 → o.el = 7 → y.k = 1)) _ (fun m i _ => by
      unfold elemV
      split
      · rename_i h9
        exact fun _ => ⟨hv _ _ _, fun _ h => by omega⟩
      · have h9 := structV_valid hv ls m (eleO o i) h1 h2 h3 h4
        exact fun he => ⟨h9.1, fun _ _ => h9.2 he⟩) y hy
    show (validK 2 o.el _ && headB 2 o.el o.n [] _) = true
    rw [hk, Bool.true_and]
    unfold headB
    rw [if_neg (by omega), if_neg (by omega), if_pos rfl, decide_eq_true_iff, hl]
    refine ⟨h5, h6, by omega, h8, fun _ => ⟨rfl, by omega⟩, fun h => by omega⟩
theorem valV_valid {ls : List (List Int)} (hw : Wd2 ls) (hm : ls.length ≤ 40) (hf : ∀ j, (seg ls j).length ≤ 20000000) : ∀ r m s a, validN (valV ls r m s a).n = true
  | 0, m, s, a => by
    unfold valV
    split <;> exact valid_nd0
  | r + 1, m, s, a => by
    have ih := fun m s a => valV_valid hw hm hf r m s a
    have hb := objF_num hw hm hf s a rfl
    unfold valV
    split
    · exact valid_nd0
    · unfold bodyV
      generalize objF ls s a = q at *
      split
      · exact valid_nd0
      · split
        · exact valid_nd0
        · split
          · exact (structV_valid ih ls _ q.1 (by omega) (by omega) (by omega) (by omega)).1
          · split
            · rename_i h
              have hz := trimL_length (bytesOf (datW ls q.1.sg q.1.at' q.1.cost)) q.1.el q.1.n
              have hy : 0 ≤ bytesI q.1.el q.1.n := by
                have := bitsI_mul q.1.el q.1.n (by omega)
                unfold bytesI
                omega
              show (validK 2 q.1.el [] && headB 2 q.1.el q.1.n _ []) = true
              unfold headB
              rw [if_neg (by omega), if_neg (by omega), if_pos rfl]
              simp only [validK, Bool.true_and]
              rw [decide_eq_true_iff, trimL_twice, hz]
              refine ⟨by omega, by omega, by omega, by omega, fun h => by omega, fun _ => ⟨rfl, by omega, rfl⟩⟩
            · exact listV_valid ih ls _ q.1 (by omega) (by omega) (by omega) (by omega) (by omega) (by omega) (by omega) (by omega)

/-! ## How large a result is: its cost bounds it -/
theorem runK_size {f : Int → Nat → Val} {m b : Int} (hb : 0 ≤ b) : ∀ n, (∀ m i, i < n → (f m i).m ≤ m ∧ (sizeN (f m i).n : Int) ≤ b + 10 * (m - (f m i).m)) → (runK f m n).m ≤ m ∧ (sizeK (runK f m n).ks : Int) ≤ n * b + 10 * (m - (runK f m n).m)
  | 0, _ => ⟨Int.le_refl _, by simp [runK, sizeK]⟩
  | n + 1, hs => by
    have ih := runK_size (f := f) (m := m) hb n (fun m i hi => hs m i (by omega))
    have hnb : ((n + 1 : Nat) : Int) * b = n * b + b := by rw [Int.natCast_add, Int.add_mul]; simp
    by_cases h1 : (runK f m n).e = 0
    · have h3 := hs (runK f m n).m n (by omega)
      by_cases h2 : (f (runK f m n).m n).e = 0
      · rw [runK_ok h1 h2, hnb]
        simp only [sizeK_append, sizeK, Nat.add_zero, Int.natCast_add]
        omega
      · rw [runK_no h1 h2, hnb]
        have h4 : 0 ≤ (n : Int) * b := Int.mul_nonneg (by omega) hb
        simp only [sizeK]
        omega
    · rw [runK_keep h1 (Nat.le_succ n), hnb]
      omega
theorem sizeN_mk (k e n : Int) (d : List Int) (ks : List Nd) : sizeN (.mk k e n d ks) = 1 + d.length + sizeK ks := by simp [sizeN]
theorem structV_size {val : Int → Int → Int → Val} (hv : ∀ m s a, (val m s a).m ≤ m ∧ (sizeN (val m s a).n : Int) ≤ 1 + 10 * (m - (val m s a).m)) (ls : List (List Int)) (m : Int) (o : Ob) (h1 : 0 ≤ o.d) (h3 : 0 ≤ o.p) :
    (structV val ls m o).m ≤ m ∧ (sizeN (structV val ls m o).n : Int) ≤ 1 + 8 * o.d + o.p + 10 * (m - (structV val ls m o).m) := by
  have hr := runK_size (f := fun m i => val m o.sg (o.at' + o.d + i)) (m := m) (b := 1) (by omega) o.p.toNat (fun m i _ => hv _ _ _)
  have hd := datW_le ls o.sg o.at' o.d
  unfold structV
  split
  · refine ⟨hr.1, ?_⟩
    show (1 : Int) ≤ 1 + 8 * o.d + o.p + 10 * (m - (runK (fun m i => val m o.sg (o.at' + o.d + i)) m o.p.toNat).m)
    omega
  · refine ⟨hr.1, ?_⟩
    show ((sizeN (.mk 1 0 0 (bytesOf (datW ls o.sg o.at' o.d)) (runK (fun m i => val m o.sg (o.at' + o.d + i)) m o.p.toNat).ks) : Nat) : Int) ≤ 1 + 8 * o.d + o.p + 10 * (m - (runK (fun m i => val m o.sg (o.at' + o.d + i)) m o.p.toNat).m)
    rw [sizeN_mk, bytesOf_length]
    omega
theorem listV_size {val : Int → Int → Int → Val} (hv : ∀ m s a, (val m s a).m ≤ m ∧ (sizeN (val m s a).n : Int) ≤ 1 + 10 * (m - (val m s a).m)) (ls : List (List Int)) (m : Int) (o : Ob) (h1 : 0 ≤ o.d) (h3 : 0 ≤ o.p) (h5 : 0 ≤ o.n) :
    (listV val ls m o).m ≤ m ∧ (sizeN (listV val ls m o).n : Int) ≤ 1 + o.n * (1 + 8 * o.d + o.p) + 10 * (m - (listV val ls m o).m) := by
  have hr := runK_size (f := elemV val ls o) (m := m) (b := 1 + 8 * o.d + o.p) (by omega) o.n.toNat (fun m i _ => by
    unfold elemV
    split
    · have := hv m o.sg (o.at' + i); omega
    · exact structV_size hv ls m (eleO o i) h1 h3)
  have hn : ((o.n.toNat : Nat) : Int) = o.n := by omega
  rw [hn] at hr
  have h6 : 0 ≤ o.n * (1 + 8 * o.d + o.p) := Int.mul_nonneg h5 (by omega)
  unfold listV
  split
  · refine ⟨hr.1, ?_⟩
    show (1 : Int) ≤ 1 + o.n * (1 + 8 * o.d + o.p) + 10 * (m - (runK (elemV val ls o) m o.n.toNat).m)
    omega
  · refine ⟨hr.1, ?_⟩
    show ((sizeN (.mk 2 o.el o.n [] (runK (elemV val ls o) m o.n.toNat).ks) : Nat) : Int) ≤ 1 + o.n * (1 + 8 * o.d + o.p) + 10 * (m - (runK (elemV val ls o) m o.n.toNat).m)
    rw [sizeN_mk]
    simp only [List.length_nil]
    omega
/-- the cost of a located object covers its nodes -/
theorem objF_cover {ls : List (List Int)} (hw : Wd2 ls) (hm : ls.length ≤ 40) (hf : ∀ j, (seg ls j).length ≤ 20000000) (s a : Int) (q : Ob × Int) (hq : objF ls s a = q) (h1 : ¬ q.2 ≠ 0) :
    (q.1.k = 1 → 8 * q.1.d + q.1.p ≤ 10 * q.1.cost) ∧ (¬ q.1.k = 1 → q.1.n * (1 + 8 * q.1.d + q.1.p) ≤ 10 * q.1.cost ∨ q.1.el < 6) ∧ (¬ q.1.k = 1 → q.1.el < 6 → bytesI q.1.el q.1.n ≤ 8 * q.1.cost) := by
  have h := objF_cases hw (by omega) (fun j => by have := hf j; omega) s a
  rw [hq] at h
  obtain ⟨⟨k, sg, at', d, p, el, n, cost⟩, e⟩ := q
  simp only [ob0, Ob.mk.injEq] at h h1 ⊢
  rcases h with ⟨⟨rfl, rfl, rfl, rfl, rfl, rfl, rfl, rfl⟩, h4⟩ | ⟨-, rfl, rfl, rfl, h5, h6, h7, h8, rfl, h9⟩ | ⟨-, rfl, h4, h5, h6, h7, rfl, rfl, rfl, h8⟩ | ⟨-, rfl, rfl, h4, h5, h6, h7, h8, h9, c, h10, h11, h12, h13, rfl⟩
  · exact ⟨fun h => by omega, fun _ => .inr (by omega), fun _ _ => by show (0 : Int) ≤ _; omega⟩
  · exact ⟨fun _ => by omega, fun h => absurd rfl h, fun h => absurd rfl h⟩
  · have hb := bitsI_mul el n h6
    refine ⟨fun h => by omega, fun _ => ?_, fun _ hl => ?_⟩
    · by_cases hl : el < 6
      · exact .inr hl
      · have he : el = 6 := by omega
        subst he
        left
        unfold wordsI bitsI
        simp
        omega
    · unfold wordsI bytesI
      rw [if_neg (by omega)]
      omega
  · refine ⟨fun h => by omega, fun _ => .inl ?_, fun _ h => by omega⟩
    have e1 : n * (1 + 8 * d + p) = n + 8 * (n * d) + n * p := by rw [Int.mul_add, Int.mul_add, Int.mul_one, ← Int.mul_assoc, Int.mul_comm n 8, Int.mul_assoc]
    have e2 : n * (d + p) = n * d + n * p := Int.mul_add _ _ _
    have h14 : 0 ≤ n * d := Int.mul_nonneg h4 h6
    have h15 : 0 ≤ n * p := Int.mul_nonneg h4 h8
    rw [e1]
    split
    · omega
    · rename_i hdp
      have h16 : n * 1 ≤ n * (d + p) := Int.mul_le_mul_of_nonneg_left (by omega) h4
      omega
theorem valV_size {ls : List (List Int)} (hw : Wd2 ls) (hm : ls.length ≤ 40) (hf : ∀ j, (seg ls j).length ≤ 20000000) : ∀ r m s a, (valV ls r m s a).m ≤ m ∧ (sizeN (valV ls r m s a).n : Int) ≤ 1 + 10 * (m - (valV ls r m s a).m)
  | 0, m, s, a => by
    unfold valV
    split <;> exact ⟨Int.le_refl _, by show (1 : Int) ≤ 1 + 10 * (m - m); omega⟩
  | r + 1, m, s, a => by
    have ih := fun m s a => valV_size hw hm hf r m s a
    have hb := objF_num hw hm hf s a rfl
    have hc := objF_cover hw hm hf s a _ rfl
    unfold valV
    split
    · exact ⟨Int.le_refl _, by show (1 : Int) ≤ 1 + 10 * (m - m); omega⟩
    · unfold bodyV
      generalize objF ls s a = q at *
      split
      · exact ⟨Int.le_refl _, by show (1 : Int) ≤ 1 + 10 * (m - m); omega⟩
      · rename_i h1
        have hc := hc h1
        split
        · exact ⟨Int.le_refl _, by show (1 : Int) ≤ 1 + 10 * (m - m); omega⟩
        · split
          · rename_i h3
            have h4 := structV_size ih ls (m - q.1.cost) q.1 (by omega) (by omega)
            have h5 := hc.1 h3
            omega
          · rename_i h3
            split
            · rename_i h4
              have h5 := hc.2.2 h3 h4
              refine ⟨by show m - q.1.cost ≤ m; omega, ?_⟩
              show ((sizeN (.mk 2 q.1.el q.1.n (trimL (bytesOf (datW ls q.1.sg q.1.at' q.1.cost)) q.1.el q.1.n) []) : Nat) : Int) ≤ 1 + 10 * (m - (m - q.1.cost))
              rw [sizeN_mk, trimL_length]
              simp only [sizeK]
              omega
            · rename_i h4
              have h5 := (hc.2.1 h3).resolve_right h4
              have h6 := listV_size ih ls (m - q.1.cost) q.1 (by omega) (by omega) (by omega)
              omega
end Go.Proofs.YtnmanhediiooaaaGreatDoor
