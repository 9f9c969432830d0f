/- The law of layer 9 that the budget never goes negative. -/
import Derived.Test.YtlbfinacofjedaaLaw09
import Derived.Test.YtlbfinacofjedaaRegionS
namespace Go.Proofs.Ytlbfinacofjedaa
open Go.ChangeShapes Go.WideShapes Go.ChangeAt Go.RowKit
set_option linter.unusedVariables false
set_option linter.unusedSimpArgs false
attribute [local simp] AllK KnowsV look Is
attribute [local irreducible] chargeI chargeE startI


set_option maxHeartbeats 4000000 in
set_option maxRecDepth 100000 in
theorem Never9_main (w : World) (dep lw o : Int) (A : Option Addr) (c : Nat) (zs : List Int) (hA : Ri w .u16 A zs) (hz : ∀ k, 0 ≤ zat zs k ∧ zat zs k < 65536) (hlc : zs.length ≤ c) (hcm : c ≤ 9223372036854775807)
    (l0 : -1125899906842624 ≤ lw) (l1 : lw ≤ 1125899906842624) (hl : zs.length ≤ 100) (p : Int) (hp : startI lw = p) (p0 : 0 ≤ p) (p1 : p ≤ 1125899906842624) (hmax : max lw 0 = p) :
    Calls Try.prog 4 #[.agg #[.int .i64 dep, .int .i64 lw, .int .i64 o], .slice A zs.length c] w fun e w' => e = .returned (.bool true) ∧ Below w.heap.size w w' := by
  have HA := Lib.hid hA
  have HZ := Lib.hid hz
  have HP := Lib.hid hp
  have HMX := Lib.hid hmax
  have t1 : decide ((100 : Int) < (zs.length : Int)) = false := by rw [decide_eq_false_iff_not]; omega
  have t2 : decide ((1125899906842624 : Int) < lw) = false := by rw [decide_eq_false_iff_not]; omega
  have t3 : decide (lw < (-1125899906842624 : Int)) = false := by rw [decide_eq_false_iff_not]; omega
  clear hA hz hp hmax
  go_enter Try.func4, Try.ntmps4
  go_wp2_with fail
  refine (awake_any _).mono ?_
  rintro e w1 ⟨rfl, hb1⟩
  have hz1 := hb1.size
  try simp at hz1
  have xl1 := blk_below (blk_new w #[.int .i64 dep, .int .i64 lw, .int .i64 o] 23) hb1 (by simp)
  have B1 : Below w.heap.size w w1 := ((Below.refl w.heap.size w).alloc (Nat.le_refl _) _).trans (hb1.mono (by simp))
  clear hb1
  go_wp2_with fail
  refine (Start_is dep lw o p _ HP.out).mono ?_
  rintro e w2 ⟨rfl, hb2⟩
  have hz2 := hb2.size
  have xl2 := blk_below xl1 hb2 (by omega)
  have B2 := B1.trans (hb2.mono (by omega))
  have xm2 := blk_new w2 #[.int .i64 p] 25
  have xl3 := blk_alloc xl2 (by omega) (.cells #[.int .i64 p] 25)
  have B3 := B2.alloc (by omega) (.cells #[.int .i64 p] 25)
  have HB3 := Lib.hid B3
  have HL3 := Lib.hid xl3
  have HM3 := Lib.hid xm2
  have hs3 : (w2.alloc (.cells #[.int .i64 p] 25)).heap.size = w2.heap.size + 1 := by simp
  have HS3 := Lib.hid hs3
  clear hb2 xl1 xl2 B1 B2 xm2 xl3 B3 hs3
  go_wp2
  go_loopw [6, 7] (fun s i wr => ∃ (k : Nat) (M S : Int), k ≤ zs.length ∧ i = .int .i64 k ∧ s = .int .i64 S ∧ 0 ≤ M ∧ 0 ≤ S ∧ M + S = p ∧ wr.cell? ⟨w2.heap.size, 0, none⟩ = some (.int .i64 M) ∧ wr.frozen? ⟨w2.heap.size, 0, none⟩ = false ∧ (∀ q, wr.cell? ⟨w.heap.size, q, none⟩ = (#[.int .i64 dep, .int .i64 lw, .int .i64 o] : Array Value)[q]?) ∧ w2.heap.size < wr.heap.size ∧ Below w.heap.size w wr) (fun _ i _ => zs.length - (intOf i).toNat)
  case atStart => exact ⟨0, p, 0, by omega, rfl, rfl, p0, by omega, by omega, HM3.out 0, by simp [go_sem], HL3.out, by simp, HB3.out⟩
  case round =>
    obtain ⟨k, M, S, hk, rfl, rfl, hM, hS, hsum, hcm5, hfm5, hxl, hsz, hbk⟩ := hrel
    have HB := Lib.hid hbk
    have HXL := Lib.hid hxl
    clear HB3 HL3 HM3 hxl
    by_cases hlt : k < zs.length
    · have hr := HA.out.below hbk (Nat.le_refl _)
      obtain ⟨b, off, rfl, hc⟩ := hr.at hlt
      have hcell := hc k hlt
      have hzk := HZ.out k
      have hk1 : (k : Int) < (zs.length : Int) := by omega
      generalize zat zs k = z at *
      clear hr hc hbk
      go_wp2_with fail
      rename_i KK hKK
      obtain ⟨rr, ec, hre⟩ : ∃ rr ec, chargeI M z = rr ∧ chargeE M z = ec := ⟨_, _, rfl, rfl⟩
      have HRE := Lib.hid hre
      have hrb := charge_bd (m := M) (c := z) hM hzk.1
      rw [hre.1] at hrb
      clear hre
      have hbl : b < wr.heap.size := World.block_lt_of_cell? wr ⟨b, off + k, none⟩ hcell
      refine wp_region_store (by kernel_rfl) (by kernel_rfl) ?_
      refine s_val (u := ?_) [5] rfl (by kernel_rfl) trivial (fun ρ wc hbc hcn hk => ?_) ?_; rotate_left
      · obtain ⟨hcn, hfn⟩ := hcn
        simp at hk
        have hxx : wc.cell? ⟨w2.heap.size, 0, none⟩ = some (.int .i64 M) := (hbc.cell (p := ⟨w2.heap.size, 0, none⟩) hsz).trans hcm5
        go_simp
        rfl
      refine s_val (u := ?_) [1] rfl (by kernel_rfl) trivial (fun ρ wc hbc hcn hk => ?_) ?_; rotate_left
      · obtain ⟨hcn, hfn⟩ := hcn
        simp at hk
        go_simp
        rfl
      refine s_val (u := ?_) [7] rfl (by kernel_rfl) trivial (fun ρ wc hbc hcn hk => ?_) ?_; rotate_left
      · obtain ⟨hcn, hfn⟩ := hcn
        simp at hk
        go_simp
        rfl
      refine s_val (u := ?_) [38, 39] rfl (by kernel_rfl) trivial (fun ρ wc hbc hcn hk => ?_) ?_; rotate_left
      · obtain ⟨hcn, hfn⟩ := hcn
        simp at hk
        go_simp
        rfl
      refine s_val (u := ?_) [40] rfl (by kernel_rfl) trivial (fun ρ wc hbc hcn hk => ?_) ?_; rotate_left
      · obtain ⟨hcn, hfn⟩ := hcn
        simp at hk
        have hxx : wc.cell? ⟨b, off + k, none⟩ = some (.int .u16 z) := (hbc.cell (p := ⟨b, off + k, none⟩) hbl).trans hcell
        go_simp
        rfl
      refine s_val (u := .int .i64 z) [41] rfl (by kernel_rfl) trivial (fun ρ wc hbc hcn hk => ?_) ?_
      · obtain ⟨hcn, hfn⟩ := hcn
        simp at hk
        go_simp
        rw [IntKind.wrap_i64]
        omega
      refine s_call (T := Is (.tuple #[.agg #[.int .i64 rr], .int .i64 ec])) 8 [37, 42] rfl (by kernel_rfl) trivial (stable_is _) (stableS_is _ _) (fun ρ wc hbc hcn hk => ?_) ?_
      · obtain ⟨hcn, hfn⟩ := hcn
        simp at hk
        refine ⟨_, by go_simp; rfl, ?_⟩
        refine (Charge_is M z rr ec _ HRE.out hM (by omega) hzk.1).mono ?_
        rintro e w' ⟨rfl, hbq⟩
        refine ⟨_, rfl, ?_, hbq⟩
        unfold Is
        rfl
      refine s_val (u := ?_) [43] rfl (by kernel_rfl) trivial (fun ρ wc hbc hcn hk => ?_) ?_; rotate_left
      · obtain ⟨hcn, hfn⟩ := hcn
        simp at hk
        go_simp
        rfl
      refine s_val (u := ?_) [36] rfl (by kernel_rfl) trivial (fun ρ wc hbc hcn hk => ?_) ?_; rotate_left
      · obtain ⟨hcn, hfn⟩ := hcn
        simp at hk
        go_simp
        rfl
      refine s_val (u := ?_) [36] rfl (by kernel_rfl) trivial (fun ρ wc hbc hcn hk => ?_) ?_; rotate_left
      · obtain ⟨hcn, hfn⟩ := hcn
        simp at hk
        go_simp
        rfl
      refine s_new (T := PtrF wr.heap.size 1) [] rfl (by kernel_rfl) trivial (stable_ptr _ _) (stableS_ptr _ _ _) (fun ρ wc hbc hcn hk => ?_) ?_
      · have hsz2 : wr.heap.size ≤ wc.heap.size := hbc.size
        exact ⟨.pointer (some ⟨wc.heap.size, 0, none⟩), wc.alloc (.cells #[.int .i64 0] 25), by go_simp, PtrF.alloc wc _ _ hsz2 (by simp), (Below.refl _ _).alloc (Nat.le_refl _) _⟩
      refine s_store (T := VarF wr.heap.size #[.int .i64 rr]) 8 [8, 44] rfl rfl (by kernel_rfl) trivial (stable_var _ _) (fun ρ wc hbc hcn hk => ?_) ?_
      · simp at hk
        obtain ⟨⟨bb, h8, q1, q2, q3, q4⟩, h44⟩ := hk
        obtain ⟨y, hy⟩ := Option.isSome_iff_exists.1 (q3 0 (by omega))
        have hq4 := q4 0
        refine ⟨wc.setCell ⟨bb, 0, none⟩ (.int .i64 rr), by go_simp, ⟨bb, h8, q1, by simp [World.setCell]; exact q2, fun j hj => ?_, fun j => by simp [q4]⟩, store1 q1 (q3 0 (by omega))⟩
        obtain rfl : j = 0 := by simp at hj; omega
        exact World.cell?_setCell_same' _ _ _ (q3 0 (by omega))
      refine s_val (u := ?_) [45] rfl (by kernel_rfl) trivial (fun ρ wc hbc hcn hk => ?_) ?_; rotate_left
      · obtain ⟨hcn, hfn⟩ := hcn
        simp at hk
        go_simp
        rfl
      refine s_end_lit 88 rfl (fun ff w5 hb5 hk => ?_)
      refine hKK _ _ ?_
      clear hKK KK
      have h8 := allN_at9 hk 8 (by omega) (by omega)
      simp [KnowsV, look] at h8
      simp [AllN] at hk
      simp only [frameL, hk]
      obtain ⟨bn, e8, g1, g2, g3, g4⟩ := h8
      rw [e8]
      have hn8 : w5.cell? ⟨bn, 0, none⟩ = some (.int .i64 rr) := g3 0 (by simp)
      have hnm : bn ≠ w2.heap.size := by omega
      have hm5 : w5.cell? ⟨w2.heap.size, 0, none⟩ = some (.int .i64 M) := (hb5.cell (p := ⟨w2.heap.size, 0, none⟩) hsz).trans hcm5
      have hf5 : w5.frozen? ⟨w2.heap.size, 0, none⟩ = false := (hb5.frozen (p := ⟨w2.heap.size, 0, none⟩) hsz).trans hfm5
      have hc5 : w5.cell? ⟨b, off + k, none⟩ = some (.int .u16 z) := (hb5.cell (p := ⟨b, off + k, none⟩) hbl).trans hcell
      have hsz5 : wr.heap.size ≤ w5.heap.size := hb5.size
      have hw2r : w.heap.size ≤ wr.heap.size := HB.out.size
      have hw02 : w.heap.size < w2.heap.size := by omega
      have HX5 : Hid (∀ q, (w5.setCell ⟨w2.heap.size, 0, none⟩ (.int .i64 rr)).cell? ⟨w.heap.size, q, none⟩ = (#[.int .i64 dep, .int .i64 lw, .int .i64 o] : Array Value)[q]?) :=
        Lib.hid (fun q => (World.cell?_setCell_other w5 ⟨w2.heap.size, 0, none⟩ ⟨w.heap.size, q, none⟩ _ (by intro e; injection e with e1; omega)).trans ((hb5.cell (p := ⟨w.heap.size, q, none⟩) (by show w.heap.size < wr.heap.size; omega)).trans (HXL.out q)))
      have HB5 : Hid (Below w.heap.size w (w5.setCell ⟨w2.heap.size, 0, none⟩ (.int .i64 rr))) := Lib.hid ((bel_drew HB.out).trans (hb5.mono hw2r) |>.setCell (by show w.heap.size ≤ w2.heap.size; omega) _)
      have HM5 : Hid ((w5.setCell ⟨w2.heap.size, 0, none⟩ (.int .i64 rr)).cell? ⟨w2.heap.size, 0, none⟩ = some (.int .i64 rr)) := Lib.hid (World.cell?_setCell_same' _ _ _ (by rw [hm5]; rfl))
      have HF5 : Hid ((w5.setCell ⟨w2.heap.size, 0, none⟩ (.int .i64 rr)).frozen? ⟨w2.heap.size, 0, none⟩ = false) := Lib.hid (by simp [hf5])
      have hr0 : decide (rr < 0) = false := by rw [decide_eq_false_iff_not]; omega
      have hk88 : (k : Int) < 100 := by omega
      clear hb5 hk e8 g1 g2 g3 g4 hcell hcm5 hfm5
      by_cases hzm : z ≤ M
      · obtain ⟨c1, c2⟩ := charge_yes hzm
        have hr1 : rr = M - z := by rw [← HRE.out.1]; exact c1
        have he1 : ec = 0 := by rw [← HRE.out.2]; exact c2
        have HR1 := Lib.hid hr1
        subst he1
        clear c1 c2 hr1 HRE hzm
        go_wp2
        go_roundw
        case rel => exact ⟨k + 1, rr, S + z, by omega, by go_num, rfl, by have := HR1.out; omega, by omega, by have := HR1.out; omega, HM5.out, HF5.out, HX5.out, by simp [World.setCell]; omega, HB5.out⟩
        case measure => simp [intOf]; omega
      · obtain ⟨c1, c2⟩ := charge_no (m := M) (c := z) (by omega)
        have hr1 : rr = M := by rw [← HRE.out.1]; exact c1
        have he1 : ec = 8 := by rw [← HRE.out.2]; exact c2
        subst hr1
        subst he1
        have tz : decide (z ≤ rr) = false := by rw [decide_eq_false_iff_not]; exact hzm
        clear c1 c2 HRE
        go_wp2
        go_quiet (fail)
        go_wp2
        exact ⟨⟨k + 1, rr, S, by omega, by go_num, rfl, hM, hS, hsum, HM5.out, HF5.out, HX5.out, by simp [World.setCell]; omega, ⟨HB5.out.os, HB5.out.tape, HB5.out.output, HB5.out.size, HB5.out.block⟩⟩, by simp [intOf]; omega⟩
    · obtain rfl : k = zs.length := by omega
      have hxl := HXL.out
      have hS2 : Hid (startI lw - M = S) := Lib.hid (by rw [HP.out]; omega)
      have hmx := HMX.out
      by_cases hneg : lw < 0
      · have hS0 : S ≤ 0 := by omega
        clear hmx
        go_wp2_with fail
        refine (Used_is dep lw o M S _ hS2.out hM (by omega) (by omega) (by omega)).mono ?_
        rintro e w9 ⟨rfl, hb9⟩
        have HB9 := Lib.hid (HB.out.trans (hb9.mono HB.out.size))
        clear hb9
        go_wp2
        go_ret
        exact ⟨rfl, HB9.out⟩
      · have hS0 : S ≤ lw := by omega
        clear hmx
        go_wp2_with fail
        refine (Used_is dep lw o M S _ hS2.out hM (by omega) (by omega) (by omega)).mono ?_
        rintro e w9 ⟨rfl, hb9⟩
        have HB9 := Lib.hid (HB.out.trans (hb9.mono HB.out.size))
        clear hb9
        go_wp2
        go_ret
        exact ⟨rfl, HB9.out⟩

set_option maxHeartbeats 4000000 in
set_option maxRecDepth 100000 in
theorem Never9_walk (w : World) (dep lw o : Int) (A : Option Addr) (c : Nat) (zs : List Int) (hA : Ri w .u16 A zs) (hz : ∀ k, 0 ≤ zat zs k ∧ zat zs k < 65536) (hlm : zs.length ≤ 9223372036854775807) (hlc : zs.length ≤ c) (hcm : c ≤ 9223372036854775807)
    (l0 : -9223372036854775808 ≤ lw) (l1 : lw ≤ 9223372036854775807) :
    Calls Try.prog 4 #[.agg #[.int .i64 dep, .int .i64 lw, .int .i64 o], .slice A zs.length c] w fun e w' => e = .returned (.bool true) ∧ Below w.heap.size w w' := by
  by_cases h1 : zs.length ≤ 100
  · by_cases h2 : lw ≤ 1125899906842624
    · by_cases h3 : -1125899906842624 ≤ lw
      · have hp := start_bd lw l1
        refine Never9_main w dep lw o A c zs hA hz hlc hcm h3 h2 h1 (startI lw) rfl hp.1 ?_ ?_
        · unfold startI; split <;> omega
        · unfold startI; split <;> omega
      · have t1 : decide ((100 : Int) < (zs.length : Int)) = false := by rw [decide_eq_false_iff_not]; omega
        have t2 : decide ((1125899906842624 : Int) < lw) = false := by rw [decide_eq_false_iff_not]; omega
        have t3 : decide (lw < (-1125899906842624 : Int)) = true := decide_eq_true (by omega)
        clear h1 h2 h3
        go_enter Try.func4, Try.ntmps4
        go_wp2_with fail
        refine (awake_any _).mono ?_
        rintro e w1 ⟨rfl, hb1⟩
        have xl1 := blk_below (blk_new w #[.int .i64 dep, .int .i64 lw, .int .i64 o] 23) hb1 (by simp)
        have B1 : Below w.heap.size w w1 := ((Below.refl w.heap.size w).alloc (Nat.le_refl _) _).trans (hb1.mono (by simp))
        have HB1 := Lib.hid B1
        clear hb1 B1
        go_wp2_with fail
        refine (awake_any _).mono ?_
        rintro e w2 ⟨rfl, hb2⟩
        have HB2 := Lib.hid (HB1.out.trans (hb2.mono HB1.out.size))
        clear hb2
        go_wp2
        go_ret
        exact ⟨rfl, HB2.out⟩
    · have t1 : decide ((100 : Int) < (zs.length : Int)) = false := by rw [decide_eq_false_iff_not]; omega
      have t2 : decide ((1125899906842624 : Int) < lw) = true := decide_eq_true (by omega)
      clear h1 h2
      go_enter Try.func4, Try.ntmps4
      go_wp2_with fail
      refine (awake_any _).mono ?_
      rintro e w1 ⟨rfl, hb1⟩
      have xl1 := blk_below (blk_new w #[.int .i64 dep, .int .i64 lw, .int .i64 o] 23) hb1 (by simp)
      have B1 : Below w.heap.size w w1 := ((Below.refl w.heap.size w).alloc (Nat.le_refl _) _).trans (hb1.mono (by simp))
      have HB1 := Lib.hid B1
      clear hb1 B1
      go_wp2_with fail
      refine (awake_any _).mono ?_
      rintro e w2 ⟨rfl, hb2⟩
      have HB2 := Lib.hid (HB1.out.trans (hb2.mono HB1.out.size))
      clear hb2
      go_wp2
      go_ret
      exact ⟨rfl, HB2.out⟩
  · have t1 : decide ((100 : Int) < (zs.length : Int)) = true := decide_eq_true (by omega)
    clear h1
    go_enter Try.func4, Try.ntmps4
    go_wp2_with fail
    refine (awake_any _).mono ?_
    rintro e w1 ⟨rfl, hb1⟩
    have xl1 := blk_below (blk_new w #[.int .i64 dep, .int .i64 lw, .int .i64 o] 23) hb1 (by simp)
    have B1 : Below w.heap.size w w1 := ((Below.refl w.heap.size w).alloc (Nat.le_refl _) _).trans (hb1.mono (by simp))
    have HB1 := Lib.hid B1
    clear hb1 B1
    go_wp2_with fail
    refine (awake_any _).mono ?_
    rintro e w2 ⟨rfl, hb2⟩
    have HB2 := Lib.hid (HB1.out.trans (hb2.mono HB1.out.size))
    clear hb2
    go_wp2
    go_ret
    exact ⟨rfl, HB2.out⟩
end Go.Proofs.Ytlbfinacofjedaa
