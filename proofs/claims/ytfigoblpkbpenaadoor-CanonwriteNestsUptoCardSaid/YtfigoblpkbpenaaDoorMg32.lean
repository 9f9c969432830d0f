/- The texts WriD (what is wanted of them), one after the other. -/
import Derived.Test.YtfigoblpkbpenaaDoorMg1
import Derived.Test.YtfigoblpkbpenaaDoorMg2
import Derived.Test.YtfigoblpkbpenaaDoorMg3
import Derived.Test.YtfigoblpkbpenaaDoorMg4
import Derived.Test.YtfigoblpkbpenaaDoorMg5
import Derived.Test.YtfigoblpkbpenaaDoorMg6
import Derived.Test.YtfigoblpkbpenaaDoorMg7
import Derived.Test.YtfigoblpkbpenaaDoorMg8
import Derived.Test.YtfigoblpkbpenaaDoorMg9
import Derived.Test.YtfigoblpkbpenaaDoorMg10
import Derived.Test.YtfigoblpkbpenaaDoorMg11
import Derived.Test.YtfigoblpkbpenaaDoorMg12
import Derived.Test.YtfigoblpkbpenaaDoorMg13
import Derived.Test.YtfigoblpkbpenaaDoorMg14
import Derived.Test.YtfigoblpkbpenaaDoorMg15
import Derived.Test.YtfigoblpkbpenaaDoorMg16
import Derived.Test.YtfigoblpkbpenaaDoorMg17
import Derived.Test.YtfigoblpkbpenaaDoorMg18
import Derived.Test.YtfigoblpkbpenaaDoorMg19
import Derived.Test.YtfigoblpkbpenaaDoorMg20
import Derived.Test.YtfigoblpkbpenaaDoorMg21
import Derived.Test.YtfigoblpkbpenaaDoorMg22
import Derived.Test.YtfigoblpkbpenaaDoorMg23
import Derived.Test.YtfigoblpkbpenaaDoorMg24
import Derived.Test.YtfigoblpkbpenaaDoorMg26
import Derived.Test.YtfigoblpkbpenaaDoorMg27
import Derived.Test.YtfigoblpkbpenaaDoorMg28
import Derived.Test.YtfigoblpkbpenaaDoorMg29
import Derived.Test.YtfigoblpkbpenaaDoorMg30
import Derived.Test.YtfigoblpkbpenaaDoorMg31
import Derived.Lib.SliceRun
/- Package canonwrite: an object's data and pointers, and the objects behind them. -/
namespace Go.Proofs.YtfigoblpkbpenaaDoor
open Go.ChangeShapes Go.WideShapes Go.ChangeAt Go.RowKit
set_option linter.unusedVariables false
set_option linter.unusedSimpArgs false
set_option maxRecDepth 100000
attribute [local simp] AllK KnowsV look Is

theorem wp_region_a8k {P : Program} {id : Nat} {o0 o1 o2 o3 o4 o5 o6 o7 t : Oper} (m : Nat) (S : Nat → Prop) {Q : Exit → Act → World → Prop} {a : Act} {w : World} (hm : P.follows .mixedOrders = true) (hB : chainAB a.tmps.size [o0, o1, o2, o3, o4, o5, o6, o7] t = true)
    (h : ChainA P #[o0, o1, o2, o3, o4, o5, o6, o7, t] [o0, o1, o2, o3, o4, o5, o6, o7] t m S a w.drew Q [o0, o1, o2, o3, o4, o5, o6, o7] 0 [] []) : (Code.region id #[o0, o1, o2, o3, o4, o5, o6, o7, t] true).wp P Q a w :=
  wp_region_a [o0, o1, o2, o3, o4, o5, o6, o7] t m S rfl hm hB h
/-- number m itself, a call that may write the blocks of S -/
theorem a_spc {P : Program} {ops : Array Oper} {l : List Oper} {t : Oper} {m : Nat} {S : Nat → Prop} {a0 : Act} {w0 : World} {Q : Exit → Act → World → Prop} {o : Oper} {r : List Oper} {i : Nat} {F G : List (Tmp × Fact)} {d : Tmp} {T : Fact} (f : FuncId) (L : List Tmp) (hm : (i == m) = true) (hd : o.dst = some d) (hL : (L.all fun s => (o.looksAt ops).contains s) = true) (hg : GuardOK ops F a0 o) (hs : stable T)
    (h : ∀ ρ w, Below w0.heap.size w0 w → Plain ρ → AllK F a0 w ρ L → ∃ args, (execOp ρ o).run P w = .ok (.enter f args) w ∧ Calls P f args w fun e w' => ∃ v, e = .returned v ∧ T v w' ∧ Keeps S w w') (hr : ChainA P ops l t m S a0 w0 Q r (i + 1) ((d, T) :: F) ((d, T) :: G)) : ChainA P ops l t m S a0 w0 Q (o :: r) i F G := by
  have hE : before l i m = true := by unfold before; rw [hm]; rfl
  refine ⟨d, T, T, hd, hs, hs, fun hne => absurd (by simpa using hm) hne, fun _ _ h => h, fun a w hK hb hk => ?_, hr⟩
  rw [if_pos hE] at hk
  rw [if_pos (wanted_of hg hk)]
  obtain ⟨args, h1, h2⟩ := h a.eval w (hb hE) (plain_eval a) (allK_of hk hL)
  unfold Oper.wp
  rw [h1]
  refine h2.mono fun e w' ⟨v, he, hT, hbel⟩ => ?_
  subst he
  exact ⟨v, rfl, hT, by rw [hm, if_pos rfl]; exact hbel⟩
def WrF (wb q cap base : Nat) (cur : List Int) (u : Value) : Fact := fun v w => v = u ∧ Wr w wb q cap base cur
theorem stable_wrf (wb q cap base : Nat) (cur : List Int) (u : Value) : stable (WrF wb q cap base cur u) := fun v w w' h hb => ⟨h.1, h.2.below hb⟩
theorem undrewS {S : Nat → Prop} {w wc : World} (h : Keeps S w.drew wc) : Keeps S w wc := ⟨h.os, h.tape, h.output, h.size, h.block⟩

set_option maxHeartbeats 4000000 in
theorem Wcontents_any (w0 : World) (wb q cap : Nat) (hwb : w0.heap.size ≤ wb) (hne : wb ≠ q) (hcap : cap ≤ 268435456) (k e n : Int) (d : List Int) (ks : List Nd) (hD : ∀ y ∈ ks, DispC w0 wb q cap y) (hv : ∀ y ∈ ks, validN y = true) (cur : List Int) (A : Option Addr) (c : Nat) (B : Option Addr) (c2 : Nat) (w : World)
    (hx : NdR w0 A c B c2 (.mk k e n d ks)) (hroom : (cur.length : Int) + ((d.length + 7) / 8 + ks.length : Nat) + canK ks ≤ cap) (h : Wr w wb q cap w0.heap.size cur) (hb : Below w0.heap.size w0 w) :
    Calls Tryd.prog 49 #[.pointer (some ⟨wb, 0, none⟩), .agg #[.int .i64 k, .int .i64 e, .int .i64 n, .slice A d.length c, .slice B ks.length c2]] w fun r w' => r = .returned (.tuple #[]) ∧ Keeps (KS wb q) w w' ∧ Wr w' wb q cap w0.heap.size (placeK ((cur ++ padW d ((d.length + 7) / 8)) ++ List.replicate ks.length 0) (cur.length + (d.length + 7) / 8) ks) := by
  have hq := h.q
  have hwlt := h.blk.lt
  have hcn := canK_nn hv
  have HNB : Hid (¬ KS wb q w.heap.size) := Lib.hid (by unfold KS; omega)
  have hpl : (padW d ((d.length + 7) / 8)).length = (d.length + 7) / 8 := padW_length (by omega)
  have hxo := hx.open
  have HDA := Lib.hid (fun W (h2 : Wr W wb q cap w0.heap.size cur) (h3 : Below w0.heap.size w0 W) => Wdata_any w0 wb q cap hwb hne (by omega) A c d cur W hxo.2.2.2.1 hxo.2.2.2.2.1 hxo.2.2.2.2.2.2.2.1 hxo.2.2.2.2.2.1 (by have := hxo.2.2.2.2.2.2.1; unfold maxLen; omega) (by omega) h2 h3)
  have HW := Lib.hid (fun (W : World) (h : Keeps (KS wb q) w W) => hb.trans (ks_below h hb.size hwb hq.1))
  have HC2 := Lib.hid hxo.2.2.2.2.2.2.2.2.1
  have HKS := Lib.hid hx.kids
  have HW1 := Lib.hid (h.alloc (.cells #[.int .i64 k, .int .i64 e, .int .i64 n, .slice A d.length c, .slice B ks.length c2] 25))
  have HK1 : Hid (Keeps (KS wb q) w (w.alloc (.cells #[.int .i64 k, .int .i64 e, .int .i64 n, .slice A d.length c, .slice B ks.length c2] 25))) := Lib.hid (ks_alloc (Keeps.refl _ _) _)
  have HB1 := Lib.hid (Blk.fresh w #[.int .i64 k, .int .i64 e, .int .i64 n, .slice A d.length c, .slice B ks.length c2] 25)
  have HRF := Lib.hid (fun W (cu : List Int) (a : Nat) (h1 : Wr W wb q cap w0.heap.size cu) (h2 : Below w0.heap.size w0 W) (h3 : a + ks.length ≤ cu.length) (h4 : (cu.length : Int) + canK ks ≤ cap) => Wrefer_any w0 wb q cap hwb hq.1 hcap ks hD hv cu a B c2 W hxo.2.2.2.2.2.2.2.2.1 (ReadS.of_ks HKS.out h2 hwb hq.1) h3 h4 h1 h2)
  have HNE := Lib.hid hne
  have HPL := Lib.hid hpl
  have HRM := Lib.hid hroom
  have HCN := Lib.hid hcn
  generalize padW d ((d.length + 7) / 8) = pw at *
  obtain ⟨M, hM⟩ : ∃ M, (d.length + 7) / 8 = M := ⟨_, rfl⟩
  rw [hM] at HPL HRM
  rw [hM]
  have hkl : ks.length ≤ 268435456 := by have := HRM.out; have := HCN.out; omega
  obtain ⟨res, hres⟩ : ∃ res, placeK ((cur ++ pw) ++ List.replicate ks.length 0) (cur.length + M) ks = res := ⟨_, rfl⟩
  have HRES : Hid (placeK ((cur ++ pw) ++ List.replicate ks.length 0) (cur ++ pw).length ks = res) := Lib.hid (by rw [← hres, List.length_append, HPL.out])
  rw [hres]
  clear hx hxo h hb hD hv hroom hq hcn hpl hM hwb hne hres
  go_enter Tryd.func49, Tryd.ntmps49
  go_wp2_with fail
  refine (HDA.out _ HW1.out (HW.out _ HK1.out)).mono ?_
  rintro r w2 ⟨rfl, hk2, hw2⟩
  have HB2 := Lib.hid (HB1.out.keepsS hk2 HNB.out)
  have HK2 := Lib.hid (HK1.out.trans hk2)
  have HW2 := Lib.hid hw2
  clear hk2 hw2 HDA HW1 HK1 HB1
  have hL : (cur ++ pw).length = cur.length + M := by rw [List.length_append, HPL.out]
  have HL := Lib.hid hL
  have HRM2 : Hid ((cur ++ pw).length + ks.length ≤ cap) := Lib.hid (by rw [hL]; have := HRM.out; have := HCN.out; omega)
  have HRM3 : Hid ((((cur ++ pw) ++ List.replicate ks.length 0).length : Int) + canK ks ≤ cap) := Lib.hid (by rw [List.length_append, List.length_replicate, hL]; have := HRM.out; omega)
  clear hL
  clear HL
  generalize cur ++ pw = cu at *
  go_wp2_with fail
  have HBd : Hid (∀ wc, Keeps (KS wb q) w2.drew wc → Blk wc w.heap.size #[.int .i64 k, .int .i64 e, .int .i64 n, .slice A d.length c, .slice B ks.length c2]) := Lib.hid (fun wc h => HB2.out.keepsS (undrewS h) HNB.out)
  have HBb : Hid (∀ wc, Below w2.drew.heap.size w2.drew wc → Wr wc wb q cap w0.heap.size cu) := Lib.hid (fun wc h => HW2.out.below (bel_undrew13 h))
  refine wp_region_a8k 5 (KS wb q) (by kernel_rfl) (by kernel_rfl) ?_
  refine a_val_l (u := ?_) [0] (by kernel_rfl) rfl (by kernel_rfl) trivial (fun ρ wc hbc hcn hk => ?_) ?_; rotate_left
  · obtain ⟨hcn, -⟩ := hcn
    simp at hk
    go_simp
    rfl
  refine a_val (u := ?_) [0] (by kernel_rfl) rfl rfl (by kernel_rfl) trivial (fun ρ wc hbc hcn hk => ?_) ?_; rotate_left
  · obtain ⟨hcn, -⟩ := hcn
    simp at hk
    go_simp
    rfl
  refine a_val_l (u := ?_) [3] (by kernel_rfl) rfl (by kernel_rfl) trivial (fun ρ wc hbc hcn hk => ?_) ?_; rotate_left
  · obtain ⟨hcn, -⟩ := hcn
    simp at hk
    go_simp
    rfl
  refine a_val_l (u := ?_) [10] (by kernel_rfl) rfl (by kernel_rfl) trivial (fun ρ wc hbc hcn hk => ?_) ?_; rotate_left
  · obtain ⟨hcn, -⟩ := hcn
    simp at hk
    have x1 := (HBd.out wc hbc).cell
    go_simp
    rfl
  refine a_val (u := ?_) [11] (by kernel_rfl) rfl rfl (by kernel_rfl) trivial (fun ρ wc hbc hcn hk => ?_) ?_; rotate_left
  · obtain ⟨hcn, -⟩ := hcn
    simp at hk
    go_simp
    rfl
  refine a_spc (T := WrF wb q cap w0.heap.size (cu ++ List.replicate ks.length 0) (.int .i64 cu.length)) 19 [9, 12] rfl rfl (by kernel_rfl) trivial (stable_wrf _ _ _ _ _ _) (fun ρ wc hbc hcn hk => ?_) ?_
  · obtain ⟨hcn, hfn⟩ := hcn
    simp at hk
    refine ⟨_, by go_simp; rfl, ?_⟩
    refine (Wzeros_any wb q cap w0.heap.size ks.length cu wc (HBb.out wc hbc) HNE.out HRM2.out (by omega)).mono ?_
    rintro e w' ⟨rfl, hk', hw'⟩
    exact ⟨_, rfl, ⟨rfl, hw'⟩, hk'⟩
  refine a_val_l (u := ?_) [3] (by kernel_rfl) rfl (by kernel_rfl) trivial (fun ρ wc hbc hcn hk => ?_) ?_; rotate_left
  · obtain ⟨hcn, -⟩ := hcn
    simp at hk
    go_simp
    rfl
  refine a_val_l (u := ?_) [14] (by kernel_rfl) rfl (by kernel_rfl) trivial (fun ρ wc hbc hcn hk => ?_) ?_; rotate_left
  · obtain ⟨hcn, -⟩ := hcn
    simp at hk
    have x1 := (HBd.out wc hbc).cell
    go_simp
    rfl
  refine a_end_lit 17 rfl (fun ff w9 hb9 hk => ?_)
  have h13 : WrF wb q cap w0.heap.size (cu ++ List.replicate ks.length 0) (.int .i64 cu.length) (ff 13) w9 := allN_atF hk 13 (by decide) (by decide)
  simp [AllN] at hk
  simp only [frameL, hk, Nat.zero_add, Nat.reduceAdd]
  clear hk
  obtain ⟨e13, hw9⟩ := h13
  rw [e13]
  have HW9 := Lib.hid hw9
  have HK9 := Lib.hid (HK2.out.trans (undrewS hb9))
  clear hw9 hb9 e13 HBd HBb HB2 HW2 HK2
  go_wp2_with fail
  refine (HRF.out w9 _ cu.length HW9.out (HW.out _ HK9.out) (by simp) HRM3.out).mono ?_
  rintro r w5 ⟨rfl, hk5, hw5⟩
  have HK5 := Lib.hid (HK9.out.trans hk5)
  have HW5 := Lib.hid hw5
  clear hk5 hw5
  go_wp2
  go_end0
  exact ⟨rfl, HK5.out, by rw [← HRES.out]; exact HW5.out⟩
end Go.Proofs.YtfigoblpkbpenaaDoor
