/- Package frame: Parse, which recovers the panic of a malformed table. -/
import Derived.Test.YtmnhodbppadpdaaFrame2
import Derived.Defers
namespace Go.Proofs.Ytmnhodbppadpdaa
open Go.ChangeShapes Go.WideShapes Go.ChangeAt Go.RowKit
set_option linter.unusedVariables false
set_option linter.unusedSimpArgs false

/-- the deferred function, where nothing was raised -/
theorem caught_idle (p q : Addr) (w : World) :
    CallsD Try.prog 18 #[.pointer (some p), .pointer (some q)] .returning w fun e u' w' => e = .returned (.tuple #[]) ∧ u' = .returning ∧ w' = w := by
  refine callsD_of_wpS Try.func18 rfl fun c₀ cs hu => ?_
  apply wpS_seq
  apply wpS_region
  simp [wpOpsS, go_sem, recoverD, hu, Try.ntmps18, Exit.thenS]
  apply wpS_of_wp
  go_wp2
  cases c₀
  simp_all [bodyPostS, results, Try.results18]

theorem assert_mal (v : Value) (w : World) : (Instr.typeAssert (.iface 45 v) 20 45 true).run Try.prog w = .ok (.tuple #[v, .bool true]) w := by kernel_rfl

theorem caught_mal (p q : Nat) (x y : Value) (older : List PanicEntry) (w : World) (hpq : q ≠ p) (hp : w.cell? ⟨p, 0, none⟩ = some x) (hq : w.cell? ⟨q, 0, none⟩ = some y) (hpz : w.frozen? ⟨p, 0, none⟩ = false) (hqz : w.frozen? ⟨q, 0, none⟩ = false) :
    CallsD Try.prog 18 #[.pointer (some ⟨p, 0, none⟩), .pointer (some ⟨q, 0, none⟩)] (.panicking ({ v := malV, recovered := false } :: older)) w fun e u' w' =>
      e = .returned (.tuple #[]) ∧ u' = .panicking ({ v := malV, recovered := true } :: older) ∧ w' = ((w.alloc (.cells #[] 45)).setCell ⟨p, 0, none⟩ (.slice none 0 0)).setCell ⟨q, 0, none⟩ (.int .i64 1) := by
  have hta := assert_mal
  have hpl : p < w.heap.size := World.block_lt_of_cell? w ⟨p, 0, none⟩ hp
  have hql : q < w.heap.size := World.block_lt_of_cell? w ⟨q, 0, none⟩ hq
  have hb : Below w.heap.size w (w.alloc (.cells #[] 45)) := (Below.refl _ _).alloc (Nat.le_refl _) _
  have h1 : (w.alloc (.cells #[] 45)).cell? ⟨p, 0, none⟩ = some x := (hb.cell (p := ⟨p, 0, none⟩) hpl).trans hp
  have h2 : (w.alloc (.cells #[] 45)).frozen? ⟨p, 0, none⟩ = false := (hb.frozen (p := ⟨p, 0, none⟩) hpl).trans hpz
  have h3 : (w.alloc (.cells #[] 45)).cell? ⟨q, 0, none⟩ = some y := (hb.cell (p := ⟨q, 0, none⟩) hql).trans hq
  have h4 : (w.alloc (.cells #[] 45)).frozen? ⟨q, 0, none⟩ = false := (hb.frozen (p := ⟨q, 0, none⟩) hql).trans hqz
  clear hb
  generalize hW : w.alloc (.cells #[] 45) = W at *
  refine callsD_of_wpS Try.func18 rfl fun c₀ cs hu => ?_
  apply wpS_seq
  apply wpS_region
  simp [wpOpsS, go_sem, recoverD, hu, malV, Try.ntmps18, Exit.thenS]
  change Code.wpS Try.prog _ _ { tmps := #[.pointer (some ⟨p, 0, none⟩), .pointer (some ⟨q, 0, none⟩), .iface 45 (.agg #[]), undef, undef, .iface 45 (.agg #[]), undef, undef, undef, undef, undef, undef, undef, undef, undef, undef], defers := [] } _ _
  apply wpS_of_wp
  go_wp2
  cases c₀
  simp [bodyPostS, results, Try.results18]

/-- the world in which Parse has laid its two results -/
def door (w : World) : World := (w.alloc (.cells #[.slice none 0 0] 23)).alloc (.cells #[.int .i64 0] 27)
theorem door_size (w : World) : (door w).heap.size = w.heap.size + 2 := by unfold door World.alloc; simp only [Array.size_push]
theorem door_below (w : World) : Below w.heap.size w (door w) := ((Below.refl _ _).alloc (Nat.le_refl _) _).alloc (by unfold World.alloc; simp only [Array.size_push]; omega) _
theorem door_cells {w w1 : World} (hb : Below (door w).heap.size (door w) w1) : w1.cell? ⟨w.heap.size, 0, none⟩ = some (.slice none 0 0) ∧ w1.cell? ⟨w.heap.size + 1, 0, none⟩ = some (.int .i64 0) ∧ w1.frozen? ⟨w.heap.size, 0, none⟩ = false ∧ w1.frozen? ⟨w.heap.size + 1, 0, none⟩ = false := by
  have hs := door_size w
  refine ⟨(hb.cell (p := ⟨w.heap.size, 0, none⟩) (by show w.heap.size < _; omega)).trans ?_, (hb.cell (p := ⟨w.heap.size + 1, 0, none⟩) (by show w.heap.size + 1 < _; omega)).trans ?_, (hb.frozen (p := ⟨w.heap.size, 0, none⟩) (by show w.heap.size < _; omega)).trans ?_, (hb.frozen (p := ⟨w.heap.size + 1, 0, none⟩) (by show w.heap.size + 1 < _; omega)).trans ?_⟩ <;> simp [door, go_sem]

section
attribute [local irreducible] cntN sizesF tabP cutL preN resF errF okF

set_option maxRecDepth 100000 in
theorem FParse_any (A : Option Addr) (c : Nat) (b : List Int) (w : World) (hr : Ri w .u8 A b) (hb : Bts b) (hnil : A = none → c = 0) (hm : b.length ≤ 140737488355328) (hcap : b.length ≤ c) (hcap2 : c ≤ 9223372036854775807) :
    Calls Try.prog 10 #[.slice A b.length c] w fun e w' => ∃ v, e = .returned (.tuple #[v, .int .i64 (errF b)]) ∧ GotS w' w.heap.size v (resF b) ∧ Below w.heap.size w w' := by
  have hmf : ∀ (fn : Fn) (first cap : Array Value) (w : World), (Instr.makeFunc fn first cap).run Try.prog w = .ok (.func fn first cap) w := fun _ _ _ _ => rfl
  have Hr := Lib.hid hr
  have Hb := Lib.hid hb
  have HOK := Lib.hid (ok_iff hb)
  have HSL : Hid ((sizesF b).length = cntN b) := Lib.hid (sizesF_length b)
  have HT := Lib.hid (readTable_any A c b (door w) (hr.below (door_below w) (Nat.le_refl _)) hb hm hcap hcap2)
  clear hr hb
  go_enter_defers Try.func10, Try.ntmps10
  go_wp2_with fail
  refine HT.out.mono ?_
  rintro e w1 ⟨hb1, ⟨ht, v, rfl, hg⟩ | ⟨hnt, rfl⟩⟩
  · obtain ⟨hcn1, hcn2, htl⟩ := tab_le Hb.out ht
    obtain ⟨g, o, rfl, -⟩ := Hr.out.at (i := 0) (by omega)
    obtain ⟨A1, c1, rfl, hq1, hq2, hq3⟩ := hg.slice
    rw [HSL.out] at hq1
    have HG := Lib.hid hg
    have HB1 := Lib.hid hb1
    have HSI := Lib.hid hq3
    have hszd := door_size w
    have hsz1 := hb1.size
    have HTE : Hid (tbl (cntN b) = ((8 * (cntN b / 2) + 8 : Nat) : Int)) := Lib.hid (by unfold tbl; omega)
    have HSB := Lib.hid (sizes_bd Hb.out ht)
    have HTP := Lib.hid ht
    have HPC := Lib.hid (parse_cut Hb.out)
    clear hg hb1 hq3 ht HT hq2
    rw [HSL.out]
    go_wp2_with fail
    refine (FTable_any _ _ (by omega) (by omega)).mono ?_
    rintro e w' ⟨rfl, rfl⟩
    rw [HTE.out]
    generalize hTT : 8 * (cntN b / 2) + 8 = T at *
    have hq : T ≤ c := by omega
    have HBD : Hid (Bts (b.drop T)) := Lib.hid (fun z hz => Hb.out z (List.mem_of_mem_drop hz))
    have HDL : Hid (b.length - T = (b.drop T).length) := Lib.hid (by rw [List.length_drop])
    have HCUT : Hid (∀ o' c', Ri w1 .u8 (some ⟨g, o', none⟩) (b.drop T) → b.length - T ≤ c' → c' ≤ 9223372036854775807 → Calls Try.prog 20 #[.slice (some ⟨g, o', none⟩) (b.length - T) c', .slice A1 (cntN b) c1] w1 fun e w' =>
        Below w1.heap.size w1 w' ∧ ((b.length - T = 8 * preN (sizesF b) (cntN b) ∧ ∃ v, e = .returned v ∧ GotS w' w1.heap.size v (cutL (b.drop T) (sizesF b))) ∨ (b.length - T ≠ 8 * preN (sizesF b) (cntN b) ∧ e = malE))) := Lib.hid (fun o' c' h1 h2 h3 =>
      cut_any g o' c' (b.length - T) (b.drop T) (sizesF b) A1 c1 w1 h1 HBD.out HDL.out (by omega) h2 h3 HSI.out HSB.out (cntN b) HSL.out.symm (by omega))
    have hb1 := HB1.out
    have HR1 := Lib.hid ((Hr.out.below (door_below w) (Nat.le_refl _)).below hb1 (Nat.le_refl _))
    by_cases hcap : c = T
    · subst hcap
      have e0 : b.length - c = 0 := by omega
      have h0 := HCUT.out o 0 (by rw [List.drop_eq_nil_of_le (by omega)]; exact Ri.nil _ _ _) (by omega) (by omega)
      rw [e0] at h0
      have H0 := Lib.hid h0
      clear h0
      go_wp2_with fail
      refine H0.out.mono ?_
      rintro e w2 ⟨hb2, ⟨hfit, v2, rfl, hg2⟩ | ⟨hno, rfl⟩⟩
      · have HYP : Hid (okP b) := Lib.hid (HOK.out.2 ⟨HTP.out, by rw [HTE.out]; omega⟩)
        have HYES : Hid (okF b = true) := Lib.hid (by unfold okF; exact decide_eq_true HYP.out)
        clear hfit
        obtain ⟨c1, c2, f1, f2⟩ := door_cells (hb1.trans (hb2.mono hsz1))
        have hbel := Lib.hid ((door_below w).trans ((hb1.trans (hb2.mono hsz1)).mono (by rw [door_size]; omega)))
        obtain ⟨A2, cc2, rfl, hq4, hq5, hq6⟩ := hg2.slice
        clear hq4 hq5 hq6
        have HG2 := Lib.hid hg2
        clear hb2 hg2 hb1
        go_wp2
        refine leaves_cons (f := 18) (args := #[.pointer (some ⟨w.heap.size, 0, none⟩), .pointer (some ⟨w.heap.size + 1, 0, none⟩)]) (by simp) (by simp [go_sem]) ?_
        refine (caught_idle _ _ _).mono ?_
        rintro e u' w'' ⟨rfl, rfl, rfl⟩
        have g1 : (w2.setCell ⟨w.heap.size, 0, none⟩ (.slice A2 (cutL (b.drop c) (sizesF b)).length cc2)).cell? ⟨w.heap.size, 0, none⟩ = some (.slice A2 (cutL (b.drop c) (sizesF b)).length cc2) := World.cell?_setCell_same' _ _ _ (by rw [c1]; rfl)
        have g2 : (w2.setCell ⟨w.heap.size, 0, none⟩ (.slice A2 (cutL (b.drop c) (sizesF b)).length cc2)).cell? ⟨w.heap.size + 1, 0, none⟩ = some (.int .i64 0) := by simp [go_sem, c2]
        have HF : Hid (Below w.heap.size w ((w2.setCell ⟨w.heap.size, 0, none⟩ (.slice A2 (cutL (b.drop c) (sizesF b)).length cc2)).setCell ⟨w.heap.size + 1, 0, none⟩ (.int .i64 0))) := Lib.hid ((hbel.out.setCell (Nat.le_refl _) _).setCell (by show w.heap.size ≤ w.heap.size + 1; omega) _)
        have HGF : Hid (GotS ((w2.setCell ⟨w.heap.size, 0, none⟩ (.slice A2 (cutL (b.drop c) (sizesF b)).length cc2)).setCell ⟨w.heap.size + 1, 0, none⟩ (.int .i64 0)) w.heap.size (.slice A2 (cutL (b.drop c) (sizesF b)).length cc2) (cutL (b.drop c) (sizesF b))) := Lib.hid (((HG2.out.far (p := ⟨w.heap.size, 0, none⟩) (by show w.heap.size < _; omega) _).far (p := ⟨w.heap.size + 1, 0, none⟩) (by show w.heap.size + 1 < _; omega) _).mono (by omega))
        have k1 : ((w2.setCell ⟨w.heap.size, 0, none⟩ (.slice A2 (cutL (b.drop c) (sizesF b)).length cc2)).setCell ⟨w.heap.size + 1, 0, none⟩ (.int .i64 0)).cell? ⟨w.heap.size, 0, none⟩ = some (.slice A2 (cutL (b.drop c) (sizesF b)).length cc2) := by
          generalize w2.setCell ⟨w.heap.size, 0, none⟩ (.slice A2 (cutL (b.drop c) (sizesF b)).length cc2) = W at *
          simp [go_sem, g1]
        have k2 : ((w2.setCell ⟨w.heap.size, 0, none⟩ (.slice A2 (cutL (b.drop c) (sizesF b)).length cc2)).setCell ⟨w.heap.size + 1, 0, none⟩ (.int .i64 0)).cell? ⟨w.heap.size + 1, 0, none⟩ = some (.int .i64 0) := World.cell?_setCell_same' _ _ _ (by rw [g2]; rfl)
        clear g1 g2 c1 c2 f1 f2
        generalize (w2.setCell ⟨w.heap.size, 0, none⟩ (.slice A2 (cutL (b.drop c) (sizesF b)).length cc2)).setCell ⟨w.heap.size + 1, 0, none⟩ (.int .i64 0) = V at *
        simp [Leaves, settle, results, Try.results10, go_sem, k1, k2]
        exact ⟨_, ⟨rfl, by rw [err_yes HYES.out]⟩, by rw [HPC.out HYP.out]; exact HGF.out, HF.out⟩
      · have HNO : Hid (okF b = false) := Lib.hid (by unfold okF; exact decide_eq_false (fun h => hno (by have h2 := (HOK.out.1 h).2; rw [HTE.out] at h2; omega)))
        obtain ⟨c1, c2, f1, f2⟩ := door_cells (hb1.trans (hb2.mono hsz1))
        have hbel := Lib.hid ((door_below w).trans ((hb1.trans (hb2.mono hsz1)).mono (by rw [door_size]; omega)))
        clear hb2 hb1 hno
        unfold malE
        go_wp2
        refine leaves_cons (f := 18) (args := #[.pointer (some ⟨w.heap.size, 0, none⟩), .pointer (some ⟨w.heap.size + 1, 0, none⟩)]) (by simp) (by simp [go_sem]) ?_
        refine (caught_mal w.heap.size (w.heap.size + 1) _ _ [] w2 (by omega) c1 c2 f1 f2).mono ?_
        rintro e u' w'' ⟨rfl, rfl, rfl⟩
        have d1 := (((Below.refl w2.heap.size w2).alloc (Nat.le_refl _) (.cells #[] 45)).cell (p := ⟨w.heap.size, 0, none⟩) (World.block_lt_of_cell? w2 ⟨w.heap.size, 0, none⟩ c1)).trans c1
        have d2 := (((Below.refl w2.heap.size w2).alloc (Nat.le_refl _) (.cells #[] 45)).cell (p := ⟨w.heap.size + 1, 0, none⟩) (World.block_lt_of_cell? w2 ⟨w.heap.size + 1, 0, none⟩ c2)).trans c2
        have HF : Hid (Below w.heap.size w (((w2.alloc (.cells #[] 45)).setCell ⟨w.heap.size, 0, none⟩ (.slice none 0 0)).setCell ⟨w.heap.size + 1, 0, none⟩ (.int .i64 1))) := Lib.hid (((hbel.out.alloc hbel.out.size _).setCell (Nat.le_refl _) _).setCell (by show w.heap.size ≤ w.heap.size + 1; omega) _)
        have g1 : ((w2.alloc (.cells #[] 45)).setCell ⟨w.heap.size, 0, none⟩ (.slice none 0 0)).cell? ⟨w.heap.size, 0, none⟩ = some (.slice none 0 0) := World.cell?_setCell_same' _ _ _ (by rw [d1]; rfl)
        have g2 : ((w2.alloc (.cells #[] 45)).setCell ⟨w.heap.size, 0, none⟩ (.slice none 0 0)).cell? ⟨w.heap.size + 1, 0, none⟩ = some (.int .i64 0) := by simp [go_sem, d2]
        generalize (w2.alloc (.cells #[] 45)).setCell ⟨w.heap.size, 0, none⟩ (.slice none 0 0) = W at *
        have k1 : (W.setCell ⟨w.heap.size + 1, 0, none⟩ (.int .i64 1)).cell? ⟨w.heap.size, 0, none⟩ = some (.slice none 0 0) := by simp [go_sem, g1]
        have k2 : (W.setCell ⟨w.heap.size + 1, 0, none⟩ (.int .i64 1)).cell? ⟨w.heap.size + 1, 0, none⟩ = some (.int .i64 1) := World.cell?_setCell_same' _ _ _ (by rw [g2]; rfl)
        clear d1 d2 g1 g2 c1 c2 f1 f2
        generalize W.setCell ⟨w.heap.size + 1, 0, none⟩ (.int .i64 1) = V at *
        simp [Leaves, settle, results, Try.results10, go_sem, k1, k2]
        exact ⟨.slice none 0 0, by rw [err_no HNO.out]; simp, by rw [res_no HNO.out]; exact GotS.empty _ _, HF.out⟩
    · go_wp2_with fail
      refine (HCUT.out _ _ (HR1.out.drop rfl) (by omega) (by omega)).mono ?_
      rintro e w2 ⟨hb2, ⟨hfit, v2, rfl, hg2⟩ | ⟨hno, rfl⟩⟩
      · have HYP : Hid (okP b) := Lib.hid (HOK.out.2 ⟨HTP.out, by rw [HTE.out]; omega⟩)
        have HYES : Hid (okF b = true) := Lib.hid (by unfold okF; exact decide_eq_true HYP.out)
        clear hfit
        obtain ⟨c1, c2, f1, f2⟩ := door_cells (hb1.trans (hb2.mono hsz1))
        have hbel := Lib.hid ((door_below w).trans ((hb1.trans (hb2.mono hsz1)).mono (by rw [door_size]; omega)))
        obtain ⟨A2, cc2, rfl, hq4, hq5, hq6⟩ := hg2.slice
        clear hq4 hq5 hq6
        have HG2 := Lib.hid hg2
        clear hb2 hg2 hb1
        go_wp2
        refine leaves_cons (f := 18) (args := #[.pointer (some ⟨w.heap.size, 0, none⟩), .pointer (some ⟨w.heap.size + 1, 0, none⟩)]) (by simp) (by simp [go_sem]) ?_
        refine (caught_idle _ _ _).mono ?_
        rintro e u' w'' ⟨rfl, rfl, rfl⟩
        have g1 : (w2.setCell ⟨w.heap.size, 0, none⟩ (.slice A2 (cutL (b.drop T) (sizesF b)).length cc2)).cell? ⟨w.heap.size, 0, none⟩ = some (.slice A2 (cutL (b.drop T) (sizesF b)).length cc2) := World.cell?_setCell_same' _ _ _ (by rw [c1]; rfl)
        have g2 : (w2.setCell ⟨w.heap.size, 0, none⟩ (.slice A2 (cutL (b.drop T) (sizesF b)).length cc2)).cell? ⟨w.heap.size + 1, 0, none⟩ = some (.int .i64 0) := by simp [go_sem, c2]
        have HF : Hid (Below w.heap.size w ((w2.setCell ⟨w.heap.size, 0, none⟩ (.slice A2 (cutL (b.drop T) (sizesF b)).length cc2)).setCell ⟨w.heap.size + 1, 0, none⟩ (.int .i64 0))) := Lib.hid ((hbel.out.setCell (Nat.le_refl _) _).setCell (by show w.heap.size ≤ w.heap.size + 1; omega) _)
        have HGF : Hid (GotS ((w2.setCell ⟨w.heap.size, 0, none⟩ (.slice A2 (cutL (b.drop T) (sizesF b)).length cc2)).setCell ⟨w.heap.size + 1, 0, none⟩ (.int .i64 0)) w.heap.size (.slice A2 (cutL (b.drop T) (sizesF b)).length cc2) (cutL (b.drop T) (sizesF b))) := Lib.hid (((HG2.out.far (p := ⟨w.heap.size, 0, none⟩) (by show w.heap.size < _; omega) _).far (p := ⟨w.heap.size + 1, 0, none⟩) (by show w.heap.size + 1 < _; omega) _).mono (by omega))
        have k1 : ((w2.setCell ⟨w.heap.size, 0, none⟩ (.slice A2 (cutL (b.drop T) (sizesF b)).length cc2)).setCell ⟨w.heap.size + 1, 0, none⟩ (.int .i64 0)).cell? ⟨w.heap.size, 0, none⟩ = some (.slice A2 (cutL (b.drop T) (sizesF b)).length cc2) := by
          generalize w2.setCell ⟨w.heap.size, 0, none⟩ (.slice A2 (cutL (b.drop T) (sizesF b)).length cc2) = W at *
          simp [go_sem, g1]
        have k2 : ((w2.setCell ⟨w.heap.size, 0, none⟩ (.slice A2 (cutL (b.drop T) (sizesF b)).length cc2)).setCell ⟨w.heap.size + 1, 0, none⟩ (.int .i64 0)).cell? ⟨w.heap.size + 1, 0, none⟩ = some (.int .i64 0) := World.cell?_setCell_same' _ _ _ (by rw [g2]; rfl)
        clear g1 g2 c1 c2 f1 f2
        generalize (w2.setCell ⟨w.heap.size, 0, none⟩ (.slice A2 (cutL (b.drop T) (sizesF b)).length cc2)).setCell ⟨w.heap.size + 1, 0, none⟩ (.int .i64 0) = V at *
        simp [Leaves, settle, results, Try.results10, go_sem, k1, k2]
        exact ⟨_, ⟨rfl, by rw [err_yes HYES.out]⟩, by rw [HPC.out HYP.out]; exact HGF.out, HF.out⟩
      · have HNO : Hid (okF b = false) := Lib.hid (by unfold okF; exact decide_eq_false (fun h => hno (by have h2 := (HOK.out.1 h).2; rw [HTE.out] at h2; omega)))
        obtain ⟨c1, c2, f1, f2⟩ := door_cells (hb1.trans (hb2.mono hsz1))
        have hbel := Lib.hid ((door_below w).trans ((hb1.trans (hb2.mono hsz1)).mono (by rw [door_size]; omega)))
        clear hb2 hb1 hno
        unfold malE
        go_wp2
        refine leaves_cons (f := 18) (args := #[.pointer (some ⟨w.heap.size, 0, none⟩), .pointer (some ⟨w.heap.size + 1, 0, none⟩)]) (by simp) (by simp [go_sem]) ?_
        refine (caught_mal w.heap.size (w.heap.size + 1) _ _ [] w2 (by omega) c1 c2 f1 f2).mono ?_
        rintro e u' w'' ⟨rfl, rfl, rfl⟩
        have d1 := (((Below.refl w2.heap.size w2).alloc (Nat.le_refl _) (.cells #[] 45)).cell (p := ⟨w.heap.size, 0, none⟩) (World.block_lt_of_cell? w2 ⟨w.heap.size, 0, none⟩ c1)).trans c1
        have d2 := (((Below.refl w2.heap.size w2).alloc (Nat.le_refl _) (.cells #[] 45)).cell (p := ⟨w.heap.size + 1, 0, none⟩) (World.block_lt_of_cell? w2 ⟨w.heap.size + 1, 0, none⟩ c2)).trans c2
        have HF : Hid (Below w.heap.size w (((w2.alloc (.cells #[] 45)).setCell ⟨w.heap.size, 0, none⟩ (.slice none 0 0)).setCell ⟨w.heap.size + 1, 0, none⟩ (.int .i64 1))) := Lib.hid (((hbel.out.alloc hbel.out.size _).setCell (Nat.le_refl _) _).setCell (by show w.heap.size ≤ w.heap.size + 1; omega) _)
        have g1 : ((w2.alloc (.cells #[] 45)).setCell ⟨w.heap.size, 0, none⟩ (.slice none 0 0)).cell? ⟨w.heap.size, 0, none⟩ = some (.slice none 0 0) := World.cell?_setCell_same' _ _ _ (by rw [d1]; rfl)
        have g2 : ((w2.alloc (.cells #[] 45)).setCell ⟨w.heap.size, 0, none⟩ (.slice none 0 0)).cell? ⟨w.heap.size + 1, 0, none⟩ = some (.int .i64 0) := by simp [go_sem, d2]
        generalize (w2.alloc (.cells #[] 45)).setCell ⟨w.heap.size, 0, none⟩ (.slice none 0 0) = W at *
        have k1 : (W.setCell ⟨w.heap.size + 1, 0, none⟩ (.int .i64 1)).cell? ⟨w.heap.size, 0, none⟩ = some (.slice none 0 0) := by simp [go_sem, g1]
        have k2 : (W.setCell ⟨w.heap.size + 1, 0, none⟩ (.int .i64 1)).cell? ⟨w.heap.size + 1, 0, none⟩ = some (.int .i64 1) := World.cell?_setCell_same' _ _ _ (by rw [g2]; rfl)
        clear d1 d2 g1 g2 c1 c2 f1 f2
        generalize W.setCell ⟨w.heap.size + 1, 0, none⟩ (.int .i64 1) = V at *
        simp [Leaves, settle, results, Try.results10, go_sem, k1, k2]
        exact ⟨.slice none 0 0, by rw [err_no HNO.out]; simp, by rw [res_no HNO.out]; exact GotS.empty _ _, HF.out⟩
  · have HNO : Hid (okF b = false) := Lib.hid (by unfold okF; exact decide_eq_false (fun h => hnt (HOK.out.1 h).1))
    obtain ⟨c1, c2, f1, f2⟩ := door_cells hb1
    have hbel := Lib.hid ((door_below w).trans (hb1.mono (by rw [door_size]; omega)))
    clear hb1 hnt HT
    unfold malE
    go_wp2
    refine leaves_cons (f := 18) (args := #[.pointer (some ⟨w.heap.size, 0, none⟩), .pointer (some ⟨w.heap.size + 1, 0, none⟩)]) (by simp) (by simp [go_sem]) ?_
    refine (caught_mal w.heap.size (w.heap.size + 1) _ _ [] w1 (by omega) c1 c2 f1 f2).mono ?_
    rintro e u' w'' ⟨rfl, rfl, rfl⟩
    have d1 := (((Below.refl w1.heap.size w1).alloc (Nat.le_refl _) (.cells #[] 45)).cell (p := ⟨w.heap.size, 0, none⟩) (World.block_lt_of_cell? w1 ⟨w.heap.size, 0, none⟩ c1)).trans c1
    have d2 := (((Below.refl w1.heap.size w1).alloc (Nat.le_refl _) (.cells #[] 45)).cell (p := ⟨w.heap.size + 1, 0, none⟩) (World.block_lt_of_cell? w1 ⟨w.heap.size + 1, 0, none⟩ c2)).trans c2
    have HF : Hid (Below w.heap.size w (((w1.alloc (.cells #[] 45)).setCell ⟨w.heap.size, 0, none⟩ (.slice none 0 0)).setCell ⟨w.heap.size + 1, 0, none⟩ (.int .i64 1))) := Lib.hid (((hbel.out.alloc hbel.out.size _).setCell (Nat.le_refl _) _).setCell (by show w.heap.size ≤ w.heap.size + 1; omega) _)
    have g1 : ((w1.alloc (.cells #[] 45)).setCell ⟨w.heap.size, 0, none⟩ (.slice none 0 0)).cell? ⟨w.heap.size, 0, none⟩ = some (.slice none 0 0) := World.cell?_setCell_same' _ _ _ (by rw [d1]; rfl)
    have g2 : ((w1.alloc (.cells #[] 45)).setCell ⟨w.heap.size, 0, none⟩ (.slice none 0 0)).cell? ⟨w.heap.size + 1, 0, none⟩ = some (.int .i64 0) := by simp [go_sem, d2]
    generalize (w1.alloc (.cells #[] 45)).setCell ⟨w.heap.size, 0, none⟩ (.slice none 0 0) = W at *
    have k1 : (W.setCell ⟨w.heap.size + 1, 0, none⟩ (.int .i64 1)).cell? ⟨w.heap.size, 0, none⟩ = some (.slice none 0 0) := by simp [go_sem, g1]
    have k2 : (W.setCell ⟨w.heap.size + 1, 0, none⟩ (.int .i64 1)).cell? ⟨w.heap.size + 1, 0, none⟩ = some (.int .i64 1) := World.cell?_setCell_same' _ _ _ (by rw [g2]; rfl)
    clear d1 d2 g1 g2 c1 c2 f1 f2
    generalize W.setCell ⟨w.heap.size + 1, 0, none⟩ (.int .i64 1) = V at *
    simp [Leaves, settle, results, Try.results10, go_sem, k1, k2]
    exact ⟨.slice none 0 0, by rw [err_no HNO.out]; simp, by rw [res_no HNO.out]; exact GotS.empty _ _, HF.out⟩
end
end Go.Proofs.Ytmnhodbppadpdaa
