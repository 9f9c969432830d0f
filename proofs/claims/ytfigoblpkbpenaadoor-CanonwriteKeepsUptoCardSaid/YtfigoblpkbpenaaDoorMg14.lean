/- The texts Ref10d (what is wanted of them), one after the other. -/
import Derived.Test.YtfigoblpkbpenaaDoorMg1
import Derived.Test.YtfigoblpkbpenaaDoorMg2
import Derived.Test.YtfigoblpkbpenaaDoorMg3
import Derived.Test.YtfigoblpkbpenaaDoorMg4
import Derived.Test.YtfigoblpkbpenaaDoorMg5
import Derived.Test.YtfigoblpkbpenaaDoorMg9
import Derived.Test.YtfigoblpkbpenaaDoorMg10
import Derived.Test.YtfigoblpkbpenaaDoorMg12
import Derived.Test.YtfigoblpkbpenaaDoorMg13
/- What the reference's Copy gives: the same node in memory of its own. -/
namespace Go.Proofs.YtfigoblpkbpenaaDoor
open Go.ChangeShapes Go.WideShapes Go.ChangeAt Go.RowKit
set_option linter.unusedVariables false
set_option linter.unusedSimpArgs false
set_option maxRecDepth 100000
attribute [local simp] AllK KnowsV look Is

theorem abs_list {P : Program} {ops : Array Oper} {l : List Oper} {Q : Exit → Act → World → Prop} {a : Act} {V : World} (F : World → Prop) (hF : F V) (h : ∀ W, F W → wpList P ops Q l a W) : wpList P ops Q l a V := h V hF
theorem allN_at10d {P : Nat → Prop} : ∀ {n s : Nat}, AllN P n s → ∀ j, s ≤ j → j < s + n → P j
  | 0, _, _, _, _, h => by omega
  | n + 1, s, h, j, h1, h2 => by
    by_cases e : s = j
    · subst e; exact h.1
    · exact allN_at10d h.2 j (by omega) (by omega)
theorem hold_it {p : Prop} (h : Hid p) : p := h.out
theorem abs_code10 {P : Program} {C : Code} {Q : Exit → Act → World → Prop} {a : Act} {V : World} (F : World → Prop) (hF : F V) (h : ∀ W, F W → C.wp P Q a W) : C.wp P Q a V := h V hF

set_option maxHeartbeats 4000000 in
set_option maxRecDepth 100000 in
theorem RefCopy_node : ∀ (x : Nd) (A : Option Addr) (c : Nat) (B : Option Addr) (c2 : Nat) (w : World), NdR w A c B c2 x → sizeN x ≤ 1099511627776 →
    Calls Tryd.prog 13 #[.agg #[.int .i64 x.k, .int .i64 x.e, .int .i64 x.n, .slice A x.d.length c, .slice B x.ks.length c2]] w fun r w' => ∃ v, r = .returned v ∧ NodF w.heap.size x v w' ∧ Below w.heap.size w w' := by
  refine Nd.ind ?_
  intro k e n d ks ih A c B c2 w hx hs
  simp only [Nd.k, Nd.e, Nd.n, Nd.d, Nd.ks]
  obtain ⟨i8, hi8, hy0, hy1, hy2⟩ := info_parts int8_info
  have HX := Lib.hid hx
  have HI := Lib.hid ih
  have HO := Lib.hid hx.open
  have hso : sizeN (.mk k e n d ks) = 1 + d.length + sizeK ks := by simp only [sizeN]
  rw [hso] at hs
  have hkl := sizeK_length ks
  have hdl : d.length ≤ 1099511627776 := by omega
  have HD := Lib.hid hx.open.2.2.2.1
  have HBT := Lib.hid hx.open.2.2.2.2.1
  have HAN := Lib.hid hx.open.2.2.2.2.2.2.2.1
  clear hx ih hso
  go_enter Tryd.func13, Tryd.ntmps13
  go_wp2_with (at_builtin; refine abs_list (F := fun W => Blk W w.heap.size #[.int .i64 k, .int .i64 e, .int .i64 n, .slice A d.length c, .slice B ks.length c2] ∧ Blk W (w.heap.size + 1) #[.int .i64 0, .int .i64 0, .int .i64 0, .slice none 0 0, .slice none 0 0] ∧ Blk W (w.heap.size + 1 + 1) #[.int .i64 k, .int .i64 e, .int .i64 n, .slice A d.length c, .slice B ks.length c2] ∧ Got W (w.heap.size + 1 + 1 + 1) 5 .u8 (.slice (some ⟨w.heap.size + 1 + 1 + 1, 0, none⟩) 0 0) [] ∧ Below w.heap.size w W ∧ W.heap.size = w.heap.size + 1 + 1 + 1 + 1) ?_ ?_; rotate_left; (rintro W ⟨B1, B2, B3, hg, hbw, hsz⟩; refine hold_it ?_))
  · refine Lib.hid ?_
    refine wpList_appN rfl (.tmp 6) (.tmp 8) 22 rfl Tryd.underlying22 hi8 hy0 hy1 hy2 rfl hg rfl (HD.out.below hbw (Nat.le_refl _)) HAN.out (by unfold maxLen; simp only [List.length_nil]; omega) (by simp only [List.length_nil]; omega) (by omega) ?_
    intro v2 w2 hg2 hb2
    rw [List.nil_append] at hg2
    obtain ⟨A2, c3, rfl, -⟩ := hg2.slice
    have B1 := B1.belowN hb2 (by omega)
    have B2 := B2.belowN hb2 (by omega)
    have B3 := B3.belowN hb2 (by omega)
    have HB1 := Lib.hid B1
    have HB2 := Lib.hid B2
    have HB3 := Lib.hid B3
    have HG := Lib.hid hg2
    have HBW := Lib.hid (hbw.trans (hb2.mono (by omega)))
    have hsz2 : w.heap.size + 1 + 1 + 1 + 1 ≤ w2.heap.size := by have := hb2.size; omega
    clear B2 hg hbw hsz hg2 hb2
    obtain ⟨x1, y1, z1⟩ := B1
    obtain ⟨x3, y3, z3⟩ := B3
    go_wp2
    go_loopw [4] (fun i wr => ∃ (j : Nat) (v : Value), j ≤ ks.length ∧ i = .int .i64 j ∧ Blk wr w.heap.size #[.int .i64 k, .int .i64 e, .int .i64 n, .slice A d.length c, .slice B ks.length c2] ∧ Blk wr (w.heap.size + 1) #[.int .i64 0, .int .i64 0, .int .i64 0, .slice none 0 0, .slice none 0 0] ∧
      Blk wr (w.heap.size + 1 + 1) #[.int .i64 k, .int .i64 e, .int .i64 n, .slice A2 d.length c3, v] ∧ OwnN w2.heap.size wr v (ks.take j) ∧ (∀ q, w.heap.size + 1 + 1 + 1 ≤ q → q < w2.heap.size → wr.heap[q]? = w2.heap[q]?) ∧ w2.heap.size ≤ wr.heap.size ∧ Below w.heap.size w wr) (fun i _ => ks.length - (intOf i).toNat)
    case atStart =>
      refine ⟨0, .slice none 0 0, by omega, rfl, (HB1.out.other (by show w.heap.size + 1 + 1 ≠ w.heap.size; omega) _).other (by show w.heap.size + 1 + 1 ≠ w.heap.size; omega) _, (HB2.out.other (by show w.heap.size + 1 + 1 ≠ w.heap.size + 1; omega) _).other (by show w.heap.size + 1 + 1 ≠ w.heap.size + 1; omega) _, ?_, OwnN.empty _ _, fun q h1 h2 => ?_, by simp, (HBW.out.setCell (by simp; omega) _).setCell (by simp; omega) _⟩
      · exact (HB3.out.set 3 (by simp) _).set 4 (by simp) _
      · rw [Below.heap_setCell _ _ _ _ (by simp; omega), Below.heap_setCell _ _ _ _ (by simp; omega)]
    case round =>
      obtain ⟨j, v, hj, rfl, hB1, hB2, hB3, hown, hdat, hszr, hbr⟩ := hrel
      have HR := Lib.hid hbr
      have HC1 := Lib.hid hB1
      have HC2 := Lib.hid hB2
      have HC3 := Lib.hid hB3
      have HOW := Lib.hid hown
      have HDA := Lib.hid hdat
      clear hbr hown hdat x1 y1 z1 x3 y3 z3 hB2
      obtain ⟨x1, y1, z1⟩ := hB1
      obtain ⟨x3, y3, z3⟩ := hB3
      by_cases hlt : j < ks.length
      · obtain ⟨b, off, Aa, ca, Ba, cb, rfl, k0, k1, k2, k3, k4, hsub⟩ := HX.out.kids.atIn HR.out (Nat.le_refl _) hlt
        have hz := sizeN_kid (List.getElem_mem hlt)
        have HC := Lib.hid (fun w' (hb : Below wr.heap.size wr w') => HI.out ks[j] (List.getElem_mem hlt) Aa ca Ba cb w' (hsub.on (bel_on HR.out hb) (Nat.le_refl _)) (by omega))
        have hblt : b < w.heap.size := by
          obtain ⟨b', off', _, _, _, _, hBe, h0, _⟩ := HX.out.kids.at hlt
          injection hBe with hBe
          injection hBe with hBe
          subst hBe
          exact World.block_lt_of_cell? w ⟨b, off' + j * 5, none⟩ h0
        have hkn : ∀ wc, Keeps (fun q => w2.heap.size ≤ q) wr.drew wc → wc.cell? ⟨b, off + j * 5, none⟩ = some (.int .i64 ks[j].k) ∧ wc.cell? ⟨b, off + j * 5 + 1, none⟩ = some (.int .i64 ks[j].e) ∧ wc.cell? ⟨b, off + j * 5 + 2, none⟩ = some (.int .i64 ks[j].n) ∧ wc.cell? ⟨b, off + j * 5 + 3, none⟩ = some (.slice Aa ks[j].d.length ca) ∧ wc.cell? ⟨b, off + j * 5 + 4, none⟩ = some (.slice Ba ks[j].ks.length cb) := by
          intro wc hk
          have hb := hk.below (B := w.heap.size) (by show w.heap.size ≤ wr.heap.size; omega) (fun q hq => by omega)
          exact ⟨(hb.cell (p := ⟨b, _, none⟩) hblt).trans k0, (hb.cell (p := ⟨b, _, none⟩) hblt).trans k1, (hb.cell (p := ⟨b, _, none⟩) hblt).trans k2, (hb.cell (p := ⟨b, _, none⟩) hblt).trans k3, (hb.cell (p := ⟨b, _, none⟩) hblt).trans k4⟩
        have HKN := Lib.hid hkn
        have hD1 : ∀ wc, Keeps (fun q => w2.heap.size ≤ q) wr.drew wc → Blk wc w.heap.size #[.int .i64 k, .int .i64 e, .int .i64 n, .slice A d.length c, .slice (some ⟨b, off, none⟩) ks.length c2] := fun wc hk => HC1.out.drew.keeps hk (by omega)
        have hD2 : ∀ wc, Keeps (fun q => w2.heap.size ≤ q) wr.drew wc → Blk wc (w.heap.size + 1) #[.int .i64 0, .int .i64 0, .int .i64 0, .slice none 0 0, .slice none 0 0] := fun wc hk => HC2.out.drew.keeps hk (by omega)
        have hD3 : ∀ wc, Keeps (fun q => w2.heap.size ≤ q) wr.drew wc → Blk wc (w.heap.size + 1 + 1) #[.int .i64 k, .int .i64 e, .int .i64 n, .slice A2 d.length c3, v] := fun wc hk => HC3.out.drew.keeps hk (by omega)
        have HD1 := Lib.hid hD1
        have HD2 := Lib.hid hD2
        have HD3 := Lib.hid hD3
        have HTK : Hid (ks.take (j + 1) = ks.take j ++ [ks[j]]) := Lib.hid (List.take_succ_eq_append_getElem hlt)
        have HLT : Hid ((ks.take j).length + 1 ≤ 1099511627776) := Lib.hid (by rw [List.length_take]; omega)
        clear hkn hD1 hD2 hD3 hsub k0 k1 k2 k3 k4
        generalize ks[j] = kx at *
        go_wp2_with fail
        clear x1 y1 z1 x3 y3 z3
        refine wp_region_a11 9 (fun q => w2.heap.size ≤ q) (by kernel_rfl) (by kernel_rfl) ?_
        refine a_val_l (u := ?_) [3] (by kernel_rfl) rfl (by kernel_rfl) trivial (fun ρ wc hbc hcn hk => ?_) ?_; rotate_left
        · obtain ⟨hcn, -⟩ := hcn
          simp at hk
          go_simp
          rfl
        refine a_val (u := ?_) [19] (by kernel_rfl) rfl rfl (by kernel_rfl) trivial (fun ρ wc hbc hcn hk => ?_) ?_; rotate_left
        · obtain ⟨hcn, -⟩ := hcn
          simp at hk
          obtain ⟨x3, y3, z3⟩ := HD3.out wc (keeps_of hbc)
          go_simp
          rfl
        refine a_val_l (u := ?_) [1] (by kernel_rfl) rfl (by kernel_rfl) trivial (fun ρ wc hbc hcn hk => ?_) ?_; rotate_left
        · obtain ⟨hcn, -⟩ := hcn
          simp at hk
          go_simp
          rfl
        refine a_val_l (u := ?_) [21] (by kernel_rfl) rfl (by kernel_rfl) trivial (fun ρ wc hbc hcn hk => ?_) ?_; rotate_left
        · obtain ⟨hcn, -⟩ := hcn
          simp at hk
          obtain ⟨x1, y1, z1⟩ := HD1.out wc hbc
          go_simp
          rfl
        refine a_val_l (u := ?_) [4] (by kernel_rfl) rfl (by kernel_rfl) trivial (fun ρ wc hbc hcn hk => ?_) ?_; rotate_left
        · obtain ⟨hcn, -⟩ := hcn
          simp at hk
          go_simp
          rfl
        refine a_val_l (u := ?_) [22, 23] (by kernel_rfl) rfl (by kernel_rfl) trivial (fun ρ wc hbc hcn hk => ?_) ?_; rotate_left
        · obtain ⟨hcn, -⟩ := hcn
          simp at hk
          go_simp
          rfl
        refine a_val_l (u := ?_) [24] (by kernel_rfl) rfl (by kernel_rfl) trivial (fun ρ wc hbc hcn hk => ?_) ?_; rotate_left
        · obtain ⟨hcn, -⟩ := hcn
          simp at hk
          obtain ⟨k0, k1, k2, k3, k4⟩ := HKN.out wc hbc
          go_simp
          rfl
        refine a_call (T := NodF wr.heap.size kx) 13 [25] (by kernel_rfl) rfl rfl (by kernel_rfl) trivial (stable_nod _ _) (fun ρ wc hbc hcn hk => ?_) ?_
        · obtain ⟨hcn, hfn⟩ := hcn
          simp at hk
          refine ⟨_, by go_simp; rfl, ?_⟩
          refine (HC.out wc ⟨hbc.os, hbc.tape, hbc.output, hbc.size, hbc.block⟩).mono ?_
          rintro r w' ⟨v5, rfl, ⟨A5, c5, B5, c6, hi5, rfl, h5, h6⟩, hb5⟩
          exact ⟨_, rfl, ⟨A5, c5, B5, c6, hi5, rfl, h5, h6.wide hbc.size (Nat.le_refl _)⟩, hb5⟩
        refine a_new (T := OneF wr.heap.size kx) [26] (by kernel_rfl) rfl rfl (by kernel_rfl) trivial (stable_one _ _) (fun ρ wc hbc hcn hk => ?_) ?_
        · obtain ⟨hcn, hfn⟩ := hcn
          simp at hk
          obtain ⟨A5, c5, B5, c6, hi5, h4, h5, h6⟩ := hk
          refine ⟨.slice (some ⟨wc.heap.size, 0, none⟩) 1 1, wc.alloc (.cells (fiveC kx A5 c5 B5 c6).toArray 25), ?_, ⟨wc.heap.size, A5, c5, B5, c6, hi5, rfl, fun o ho => ?_, ?_, h6.below ((Below.refl _ _).alloc (Nat.le_refl _) _) h5⟩, (Below.refl _ _).alloc (Nat.le_refl _) _⟩
          · go_simp
            rfl
          · rw [blk_new]
            simp
          · simp; omega
        refine a_sp (T := OwnF w2.heap.size (ks.take j ++ [kx])) [20, 27] rfl rfl (by kernel_rfl) trivial (stable_ownF _ _) (fun a wc hbc hcn hk => ?_) ?_
        · obtain ⟨h20, h27, -⟩ := hk
          obtain ⟨q, A5, c5, B5, c6, hi5, h4, h5, h6, h7⟩ := h27
          refine wpList_appO rfl (.tmp 20) (.tmp 27) 23 rfl Tryd.underlying23 h20 (HOW.out.below (N := wr.heap.size) ⟨hbc.os, hbc.tape, hbc.output, hbc.size, hbc.block⟩ (Nat.le_refl _)) h4 h5 hszr h6 (fun g hg => ?_) h7 HLT.out (Nat.le_trans hszr hbc.size) ?_
          · obtain ⟨vs, hv1, _⟩ := HOW.out
            exact (hv1.lt g hg).2
          · intro v' w' hown' hgr
            refine ⟨rfl, v', rfl, hown', ?_⟩
            rw [if_pos rfl]
            refine ⟨hgr.os, hgr.tape, hgr.output, hgr.size, fun q1 h1 h2 => hgr.block q1 h1 fun e => h2 ?_⟩
            obtain ⟨vs, hv1, _⟩ := HOW.out
            exact (hv1.lt q1 e.symm).1
        refine a_val_l (u := ?_) [3] (by kernel_rfl) rfl (by kernel_rfl) trivial (fun ρ wc hbc hcn hk => ?_) ?_; rotate_left
        · obtain ⟨hcn, -⟩ := hcn
          simp at hk
          go_simp
          rfl
        refine a_end_lit 31 rfl (fun ff w7 hb7 hk => ?_)
        have hO2 : OwnN w2.heap.size w7 (ff 28) (ks.take j ++ [kx]) := allN_at10d hk 28 (by decide) (by decide)
        simp [AllN] at hk
        simp only [frameL, hk]
        obtain ⟨B8, c8, hv8, -⟩ := hO2.slice
        rw [show (ks.take j ++ [kx]).length = j + 1 by rw [List.length_append, List.length_take]; simp; omega] at hv8
        have HO2 := Lib.hid hO2
        have HB7 := Lib.hid hb7
        have hs7 : wr.heap.size ≤ w7.heap.size := hb7.size
        clear hO2 hb7 hk
        rw [hv8] at HO2
        rw [hv8]
        clear hv8
        generalize ff 26 = v6 at *
        generalize ff 27 = v7 at *
        obtain ⟨x3, y3, z3⟩ := HD3.out w7 HB7.out
        go_wp2
        go_roundw
        case rel =>
          refine ⟨j + 1, _, by omega, by go_num, (HD1.out w7 HB7.out).other (by show w.heap.size + 1 + 1 ≠ w.heap.size; omega) _, (HD2.out w7 HB7.out).other (by show w.heap.size + 1 + 1 ≠ w.heap.size + 1; omega) _, (HD3.out w7 HB7.out).set 4 (by simp) _, ?_, fun q h1 h2 => ?_, by simp; omega, ?_⟩
          · refine OwnN.cast ?_ HTK.out.symm
            exact OwnN.far (p := ⟨w.heap.size + 1 + 1, 4, none⟩) HO2.out (by show w.heap.size + 1 + 1 < w2.heap.size; omega) _
          · rw [Below.heap_setCell _ _ _ _ (by show q ≠ w.heap.size + 1 + 1; omega), HB7.out.block q (by show q < wr.heap.size; omega) (by omega)]
            exact HDA.out q h1 h2
          · refine Below.setCell ?_ (by show w.heap.size ≤ w.heap.size + 1 + 1; omega) _
            exact (bel_drew HR.out).trans ((HB7.out.below (B := w.heap.size) (by show w.heap.size ≤ wr.heap.size; omega) (fun q hq => by omega)))
        case measure => simp [intOf]; omega
      · obtain rfl : j = ks.length := by omega
        rw [List.take_length] at HOW
        obtain ⟨B9, c9, rfl, -⟩ := HOW.out.slice
        have hgd : Got wr (w.heap.size + 1 + 1 + 1) 5 .u8 (.slice A2 d.length c3) d := got_agree HG.out fun q h1 h2 => HDA.out q h1 h2
        have hO := HO.out
        have HN := Lib.hid ((HOW.out.mono (base' := w.heap.size + 1 + 1 + 1) (by omega)).node hO.1 hO.2.1 hO.2.2.1 hgd HBT.out)
        clear hgd hO
        obtain ⟨x2, y2, z2⟩ := HC2.out
        go_wp2
        refine abs_post (F := fun W => Blk W (w.heap.size + 1) #[.int .i64 k, .int .i64 e, .int .i64 n, .slice A2 d.length c3, .slice B9 ks.length c9] ∧ NdO (w.heap.size + 1 + 1 + 1) W.heap.size W A2 c3 B9 c9 (.mk k e n d ks) ∧ Below w.heap.size w W) ⟨?_, ?_, ?_⟩ ?_
        · exact ((((HC2.out.set 0 (by simp) _).set 1 (by simp) _).set 2 (by simp) _).set 3 (by simp) _).set 4 (by simp) _
        · have e5 : ∀ q, q ≠ w.heap.size + 1 → (((((wr.setCell ⟨w.heap.size + 1, 0, none⟩ (.int .i64 k)).setCell ⟨w.heap.size + 1, 1, none⟩ (.int .i64 e)).setCell ⟨w.heap.size + 1, 2, none⟩ (.int .i64 n)).setCell ⟨w.heap.size + 1, 3, none⟩ (.slice A2 d.length c3)).setCell ⟨w.heap.size + 1, 4, none⟩ (.slice B9 ks.length c9)).heap[q]? = wr.heap[q]? := by
            intro q hq
            rw [Below.heap_setCell _ _ _ _ hq, Below.heap_setCell _ _ _ _ hq, Below.heap_setCell _ _ _ _ hq, Below.heap_setCell _ _ _ _ hq, Below.heap_setCell _ _ _ _ hq]
          simpa using HN.out.to fun q q1 _ => e5 q (by omega)
        · refine Below.setCell (Below.setCell (Below.setCell (Below.setCell (Below.setCell HR.out ?_ _) ?_ _) ?_ _) ?_ _) ?_ _ <;> (show w.heap.size ≤ w.heap.size + 1; omega)
        rintro W5 ⟨B6, hN, hbw⟩
        exact bodyPost_ret (v := .agg #[.int .i64 k, .int .i64 e, .int .i64 n, .slice A2 d.length c3, .slice B9 ks.length c9]) (by simp [results, Tryd.results13, go_sem, B6.cell]) rfl ⟨_, rfl, ⟨A2, c3, B9, c9, _, rfl, Nat.le_refl _, hN.wide (by omega) (Nat.le_refl _)⟩, hbw⟩
  · refine ⟨((Blk.fresh w _ _).alloc _ |>.alloc _).alloc _, ((Blk.new (by simp)).alloc _).alloc _, (Blk.new (by simp)).alloc _, (Got.empty_made _ _ _ (by simp)).cast (by simp) rfl, ?_, by simp⟩
    exact ((((Below.refl _ _).alloc (Nat.le_refl _) _).alloc (by simp) _).alloc (by simp; omega) _).alloc (by simp; omega) _
end Go.Proofs.YtfigoblpkbpenaaDoor
