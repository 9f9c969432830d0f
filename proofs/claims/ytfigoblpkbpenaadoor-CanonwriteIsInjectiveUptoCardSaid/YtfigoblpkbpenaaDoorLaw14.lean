/- A law of layer 14: CanonwriteMatchesReference. -/
import Derived.Test.YtfigoblpkbpenaaDoorAwake14
import Derived.Test.YtfigoblpkbpenaaDoorMg1
import Derived.Test.YtfigoblpkbpenaaDoorMg2
import Derived.Test.YtfigoblpkbpenaaDoorMg3
import Derived.Test.YtfigoblpkbpenaaDoorMg4
import Derived.Test.YtfigoblpkbpenaaDoorMg5
import Derived.Test.YtfigoblpkbpenaaDoorMg6
import Derived.Test.YtfigoblpkbpenaaDoorMg7
import Derived.Test.YtfigoblpkbpenaaDoorMg8
import Derived.Test.YtfigoblpkbpenaaDoorMg9
import Derived.Test.YtfigoblpkbpenaaDoorMg10
import Derived.Test.YtfigoblpkbpenaaDoorMg11
import Derived.Test.YtfigoblpkbpenaaDoorMg12
import Derived.Test.YtfigoblpkbpenaaDoorMg13
import Derived.Test.YtfigoblpkbpenaaDoorMg14
import Derived.Test.YtfigoblpkbpenaaDoorMg15
import Derived.Test.YtfigoblpkbpenaaDoorMg16
import Derived.Test.YtfigoblpkbpenaaDoorMg17
import Derived.Test.YtfigoblpkbpenaaDoorMg18
import Derived.Test.YtfigoblpkbpenaaDoorMg19
import Derived.Test.YtfigoblpkbpenaaDoorMg20
import Derived.Test.YtfigoblpkbpenaaDoorMg21
import Derived.Test.YtfigoblpkbpenaaDoorMg22
import Derived.Test.YtfigoblpkbpenaaDoorMg36
namespace Go.Proofs.YtfigoblpkbpenaaDoor
open Go.ChangeShapes Go.WideShapes Go.ChangeAt Go.RowKit
set_option linter.unusedVariables false
set_option linter.unusedSimpArgs false
set_option maxRecDepth 100000
attribute [local simp] AllK KnowsV look Is

theorem right_parts {x : Nd} (h : rightN x = true) : fewN x = true ∧ validN x = true ∧ trimmedN x = true := by
  unfold rightN at h
  simp only [Bool.and_eq_true] at h
  exact h

theorem few_size {x : Nd} (h : fewN x = true) : sizeN x ≤ 3000 := by
  unfold fewN at h
  rw [decide_eq_true_iff] at h
  exact h.1
theorem got_parts14 {base : Nat} {l : List Int} {v : Value} {w : World} (h : GotQ base l v w) : ∃ A c, v = .slice A l.length c ∧ l.length ≤ c ∧ c ≤ maxLen ∧ Ri w .u64 A l := Got.slice h
theorem hold_parts14 {l : List Int} {v : Value} {w : World} (h : HoldF l v w) : ∃ A c, v = .slice A l.length c ∧ l.length ≤ c ∧ c ≤ maxLen ∧ Ri w .u64 A l := by
  obtain ⟨A, c, h1, h2, h3, h4, h5⟩ := h
  exact ⟨A, c, h1, h4, h5, h2⟩
attribute [local irreducible] validN fewN trimmedN canN canO rightN sizeN targN canK writeF objW objK bodyN
set_option maxHeartbeats 4000000 in
set_option maxRecDepth 100000 in
theorem MR14_walk (x : Nd) (A1 : Option Addr) (c1 : Nat) (B1 : Option Addr) (e1 : Nat) (w : World) (hT : TabOK w) (hx : NdR w A1 c1 B1 e1 x) (hsx : sizeN x ≤ 1048576) :
    Calls Tryd.prog 3 #[.agg #[.int .i64 x.k, .int .i64 x.e, .int .i64 x.n, .slice A1 x.d.length c1, .slice B1 x.ks.length e1]] w fun e w' => e = .returned (.bool true) ∧ Below w.heap.size w w' := by
  have HT := Lib.hid hT
  have Hp := Lib.hid hx
  have HSX : Hid (sizeN x ≤ 1048576) := Lib.hid hsx
  have HSX2 : Hid (sizeN x ≤ 1099511627776) := Lib.hid (by omega)
  have HBX := Lib.hid hx.byt
  clear hT hx hsx
  go_enter Tryd.func3, Tryd.ntmps3
  go_wp2_with fail
  refine abs_world (F := fun W => NdR W A1 c1 B1 e1 x ∧ Blk W w.heap.size #[.int .i64 x.k, .int .i64 x.e, .int .i64 x.n, .slice A1 x.d.length c1, .slice B1 x.ks.length e1] ∧ Below w.heap.size w W) ⟨?_, ?_, ?_⟩ ?_
  · exact (NdR.on Hp.out ((Below.refl _ _).alloc (Nat.le_refl _) _) (Nat.le_refl _))
  · exact Blk.fresh _ _ _
  · exact ((Below.refl w.heap.size w).alloc (by first | exact Nat.le_refl _ | (simp; done) | (simp; omega)) _)
  clear Hp
  rintro W1 ⟨hp, hl, hb⟩
  have Hp := Lib.hid hp
  have Hl := Lib.hid hl
  have HB := Lib.hid hb
  clear hb hp hl
  refine (awake14_any _ (HT.out.on HB.out)).mono ?_
  rintro r w2 ⟨rfl, hb⟩
  have fp := Hp.out.on hb (Nat.le_refl _)
  have fl := Hl.out.below hb
  have HB0 := Lib.hid (bel_on HB.out hb)
  clear hb Hp Hl HB
  have HB := HB0
  clear HB0
  have Hp := Lib.hid fp
  clear fp
  have Hl := Lib.hid fl
  clear fl
  obtain ⟨xl, yl, zl⟩ := Hl.out
  go_wp2_with fail
  clear xl yl zl
  refine (RefRight13 x A1 c1 B1 e1 _ Hp.out HSX2.out).mono ?_
  rintro r w3 ⟨rfl, hb⟩
  have fp := Hp.out.on hb (Nat.le_refl _)
  have fl := Hl.out.below hb
  have HB0 := Lib.hid (bel_on HB.out hb)
  clear hb Hp Hl HB
  have HB := HB0
  clear HB0
  have Hp := Lib.hid fp
  clear fp
  have Hl := Lib.hid fl
  clear fl
  obtain ⟨xl, yl, zl⟩ := Hl.out
  cases hrx : rightN x with
  | false =>
    clear hrx
    go_wp2_with fail
    clear xl yl zl
    refine (awake14_any _ (HT.out.on HB.out)).mono ?_
    rintro r w4 ⟨rfl, hb⟩
    have fp := Hp.out.on hb (Nat.le_refl _)
    have fl := Hl.out.below hb
    have HB0 := Lib.hid (bel_on HB.out hb)
    clear hb Hp Hl HB
    have HB := HB0
    clear HB0
    have Hp := Lib.hid fp
    clear fp
    have Hl := Lib.hid fl
    clear fl
    go_wp2
    go_ret
    exact ⟨rfl, HB.out⟩
  | true =>
    obtain ⟨hfx, hvx, hmx⟩ := right_parts hrx
    have hqx := few_size hfx
    have hcx := can_few hvx hqx
    have HVX := Lib.hid hvx
    have HMX := Lib.hid hmx
    have HCX : Hid (canN x ≤ 18000000) := Lib.hid hcx.2
    have HWX : Hid ((writeF x).length ≤ 18000001) := Lib.hid (by have := writeF_length hvx; omega)
    clear hrx hfx hvx hmx hqx hcx
    go_wp2_with fail
    clear xl yl zl
    rename_i KK hKK
    refine wp_region_chain (by kernel_rfl) (by kernel_rfl) ?_
    refine chain_val (u := ?_) [1] rfl (by kernel_rfl) trivial (fun ρ wc hbc hcn hk => ?_) ?_; rotate_left
    · obtain ⟨hcn, -⟩ := hcn
      simp at hk
      obtain ⟨xl, yl, zl⟩ := Hl.out.drew.below hbc
      go_simp
      rfl
    refine chain_call (T := GotQ w3.heap.size (writeF x)) 10 [11] rfl (by kernel_rfl) trivial (stable_gotq _ _) (fun ρ wc hbc hcn hk => ?_) ?_
    · obtain ⟨hcn, hfn⟩ := hcn
      simp at hk
      refine ⟨_, by go_simp; rfl, ?_⟩
      refine (CWrite_any x A1 c1 B1 e1 wc (HT.out.on (bel_on (bel_drew HB.out) hbc)) (Hp.out.on (w' := wc) (N := w3.heap.size) ⟨hbc.os, hbc.tape, hbc.output, hbc.size, hbc.block⟩ (Nat.le_refl _)) HSX.out HVX.out HMX.out (by have := HCX.out; omega)).mono ?_
      rintro e w' ⟨v, rfl, hg, hbq⟩
      exact ⟨_, rfl, hg.mono hbc.size, hbq⟩
    refine chain_val (u := ?_) [1] rfl (by kernel_rfl) trivial (fun ρ wc hbc hcn hk => ?_) ?_; rotate_left
    · obtain ⟨hcn, -⟩ := hcn
      simp at hk
      obtain ⟨xl, yl, zl⟩ := Hl.out.drew.below hbc
      go_simp
      rfl
    refine chain_call (T := HoldF (writeF x)) 11 [13] rfl (by kernel_rfl) trivial (stable_holdf _) (fun ρ wc hbc hcn hk => ?_) ?_
    · obtain ⟨hcn, hfn⟩ := hcn
      simp at hk
      refine ⟨_, by go_simp; rfl, ?_⟩
      refine (RefWrite14 x A1 c1 B1 e1 wc (Hp.out.on (w' := wc) (N := w3.heap.size) ⟨hbc.os, hbc.tape, hbc.output, hbc.size, hbc.block⟩ (Nat.le_refl _)) HVX.out HSX.out (by have := HCX.out; omega)).mono ?_
      rintro e w' ⟨v, rfl, hg, hbq⟩
      exact ⟨_, rfl, hg, hbq⟩
    refine chain_call (T := Is (.bool true)) 9 [12, 14] rfl (by kernel_rfl) trivial (stable_is _) (fun ρ wc hbc hcn hk => ?_) ?_
    · obtain ⟨hcn, hfn⟩ := hcn
      simp at hk
      obtain ⟨q1, q2⟩ := hk
      obtain ⟨A7, c7, e7, -, -, r7⟩ := got_parts14 q1
      obtain ⟨A8, c8, e8, -, -, r8⟩ := hold_parts14 q2
      refine ⟨_, by go_simp; rfl, ?_⟩
      refine (SameWords_w A7 A8 c7 c8 (writeF x) (writeF x) _ _ true wc r7 r8 rfl rfl (by have := HWX.out; omega) (by have := HWX.out; omega) (by simp [sameB])).mono ?_
      rintro e w' ⟨rfl, hbq⟩
      exact ⟨_, rfl, rfl, hbq⟩
    refine chain_val (u := ?_) [15] rfl (by kernel_rfl) trivial (fun ρ wc hbc hcn hk => ?_) ?_; rotate_left
    · obtain ⟨hcn, -⟩ := hcn
      simp at hk
      go_simp
      rfl
    refine chain_end_lit 16 (by kernel_rfl) (fun ff w7 hb7 hk => ?_)
    refine hKK _ _ ?_
    simp [AllN] at hk
    simp only [frameL, hk, Nat.zero_add, Nat.reduceAdd]
    have hb7' : Below w3.heap.size w3 w7 := ⟨hb7.os, hb7.tape, hb7.output, hb7.size, hb7.block⟩
    have HB7 := Lib.hid (bel_on HB.out hb7')
    clear hb7 hk hb7'
    go_wp2
    go_ret
    exact ⟨rfl, HB7.out⟩
end Go.Proofs.YtfigoblpkbpenaaDoor
