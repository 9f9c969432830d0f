/- A law of layer 14: CanonwriteIsInjective. -/
import Derived.Test.YtfigoblpkbpenaaDoorLaw14
import Derived.Test.YtfigoblpkbpenaaDoorMg1
import Derived.Test.YtfigoblpkbpenaaDoorMg2
import Derived.Test.YtfigoblpkbpenaaDoorMg3
import Derived.Test.YtfigoblpkbpenaaDoorMg4
import Derived.Test.YtfigoblpkbpenaaDoorMg5
import Derived.Test.YtfigoblpkbpenaaDoorMg6
import Derived.Test.YtfigoblpkbpenaaDoorMg7
import Derived.Test.YtfigoblpkbpenaaDoorMg8
import Derived.Test.YtfigoblpkbpenaaDoorMg9
import Derived.Test.YtfigoblpkbpenaaDoorMg10
import Derived.Test.YtfigoblpkbpenaaDoorMg11
import Derived.Test.YtfigoblpkbpenaaDoorMg17
import Derived.Test.YtfigoblpkbpenaaDoorMg18
import Derived.Test.YtfigoblpkbpenaaDoorMg19
import Derived.Test.YtfigoblpkbpenaaDoorMg20
import Derived.Test.YtfigoblpkbpenaaDoorMg21
import Derived.Test.YtfigoblpkbpenaaDoorMg37
import Derived.Test.YtfigoblpkbpenaaDoorMg38
import Derived.Test.YtfigoblpkbpenaaDoorMg39
import Derived.Test.YtfigoblpkbpenaaDoorMg40
namespace Go.Proofs.YtfigoblpkbpenaaDoor
open Go.ChangeShapes Go.WideShapes Go.ChangeAt Go.RowKit
set_option linter.unusedVariables false
set_option linter.unusedSimpArgs false
set_option maxRecDepth 100000
attribute [local simp] AllK KnowsV look Is

theorem RefEqual_14 (x y : Nd) (A : Option Addr) (c : Nat) (B : Option Addr) (c2 : Nat) (A1 : Option Addr) (c3 : Nat) (B1 : Option Addr) (c4 : Nat) (v : Bool) (w : World) (hx : NdR w A c B c2 x) (hy : NdR w A1 c3 B1 c4 y) (hv : eqN x y = v) :
    Calls Tryd.prog 12 #[.agg #[.int .i64 x.k, .int .i64 x.e, .int .i64 x.n, .slice A x.d.length c, .slice B x.ks.length c2], .agg #[.int .i64 y.k, .int .i64 y.e, .int .i64 y.n, .slice A1 y.d.length c3, .slice B1 y.ks.length c4]] w fun r w' => r = .returned (.bool v) ∧ Below w.heap.size w w' := hv ▸ RefEqual_node x y A c B c2 A1 c3 B1 c4 w hx hy
attribute [local irreducible] validN fewN trimmedN canN canO rightN sizeN targN canK writeF objW objK bodyN
set_option maxHeartbeats 4000000 in
set_option maxRecDepth 100000 in
theorem Inj14_walk (x y : Nd) (A1 : Option Addr) (c1 : Nat) (B1 : Option Addr) (e1 : Nat) (A2 : Option Addr) (c2 : Nat) (B2 : Option Addr) (e2 : Nat) (w : World) (hT : TabOK w) (hx : NdR w A1 c1 B1 e1 x) (hy : NdR w A2 c2 B2 e2 y) (hsx : sizeN x ≤ 1048576) (hsy : sizeN y ≤ 1048576) :
    Calls Tryd.prog 4 #[.agg #[.int .i64 x.k, .int .i64 x.e, .int .i64 x.n, .slice A1 x.d.length c1, .slice B1 x.ks.length e1], .agg #[.int .i64 y.k, .int .i64 y.e, .int .i64 y.n, .slice A2 y.d.length c2, .slice B2 y.ks.length e2]] w fun e w' => e = .returned (.bool true) ∧ Below w.heap.size w w' := by
  have HT := Lib.hid hT
  have Hp := Lib.hid hx
  have HSX : Hid (sizeN x ≤ 1048576) := Lib.hid hsx
  have HSX2 : Hid (sizeN x ≤ 1099511627776) := Lib.hid (by omega)
  have HBX := Lib.hid hx.byt
  have Hq := Lib.hid hy
  have HSY : Hid (sizeN y ≤ 1048576) := Lib.hid hsy
  have HSY2 : Hid (sizeN y ≤ 1099511627776) := Lib.hid (by omega)
  have HBY := Lib.hid hy.byt
  clear hT hx hsx hy hsy
  go_enter Tryd.func4, Tryd.ntmps4
  go_wp2_with fail
  refine abs_world (F := fun W => NdR W A1 c1 B1 e1 x ∧ NdR W A2 c2 B2 e2 y ∧ Blk W w.heap.size #[.int .i64 x.k, .int .i64 x.e, .int .i64 x.n, .slice A1 x.d.length c1, .slice B1 x.ks.length e1] ∧ Blk W (w.heap.size + 1) #[.int .i64 y.k, .int .i64 y.e, .int .i64 y.n, .slice A2 y.d.length c2, .slice B2 y.ks.length e2] ∧ Below w.heap.size w W) ⟨?_, ?_, ?_, ?_, ?_⟩ ?_
  · exact (NdR.on (NdR.on Hp.out ((Below.refl _ _).alloc (Nat.le_refl _) _) (Nat.le_refl _)) ((Below.refl _ _).alloc (Nat.le_refl _) _) (Nat.le_refl _))
  · exact (NdR.on (NdR.on Hq.out ((Below.refl _ _).alloc (Nat.le_refl _) _) (Nat.le_refl _)) ((Below.refl _ _).alloc (Nat.le_refl _) _) (Nat.le_refl _))
  · exact (Blk.fresh _ _ _).alloc _
  · exact Blk.new (by simp)
  · exact (((Below.refl w.heap.size w).alloc (by first | exact Nat.le_refl _ | (simp; done) | (simp; omega)) _).alloc (by first | exact Nat.le_refl _ | (simp; done) | (simp; omega)) _)
  clear Hp Hq
  rintro W1 ⟨hp, hq, hl, hg, hb⟩
  have Hp := Lib.hid hp
  have Hq := Lib.hid hq
  have Hl := Lib.hid hl
  have Hg := Lib.hid hg
  have HB := Lib.hid hb
  clear hb hp hq hl hg
  refine (awake14_any _ (HT.out.on HB.out)).mono ?_
  rintro r w2 ⟨rfl, hb⟩
  have fp := Hp.out.on hb (Nat.le_refl _)
  have fq := Hq.out.on hb (Nat.le_refl _)
  have fl := Hl.out.below hb
  have fg := Hg.out.below hb
  have HB0 := Lib.hid (bel_on HB.out hb)
  clear hb Hp Hq Hl Hg HB
  have HB := HB0
  clear HB0
  have Hp := Lib.hid fp
  clear fp
  have Hq := Lib.hid fq
  clear fq
  have Hl := Lib.hid fl
  clear fl
  have Hg := Lib.hid fg
  clear fg
  obtain ⟨xl, yl, zl⟩ := Hl.out
  obtain ⟨xg, yg, zg⟩ := Hg.out
  go_wp2_with fail
  clear xl yl zl xg yg zg
  refine (RefRight13 x A1 c1 B1 e1 _ Hp.out HSX2.out).mono ?_
  rintro r w3 ⟨rfl, hb⟩
  have fp := Hp.out.on hb (Nat.le_refl _)
  have fq := Hq.out.on hb (Nat.le_refl _)
  have fl := Hl.out.below hb
  have fg := Hg.out.below hb
  have HB0 := Lib.hid (bel_on HB.out hb)
  clear hb Hp Hq Hl Hg HB
  have HB := HB0
  clear HB0
  have Hp := Lib.hid fp
  clear fp
  have Hq := Lib.hid fq
  clear fq
  have Hl := Lib.hid fl
  clear fl
  have Hg := Lib.hid fg
  clear fg
  obtain ⟨xl, yl, zl⟩ := Hl.out
  obtain ⟨xg, yg, zg⟩ := Hg.out
  cases hrx : rightN x with
  | false =>
    clear hrx
    go_wp2_with fail
    clear xl yl zl xg yg zg
    refine (awake14_any _ (HT.out.on HB.out)).mono ?_
    rintro r w4 ⟨rfl, hb⟩
    have fp := Hp.out.on hb (Nat.le_refl _)
    have fq := Hq.out.on hb (Nat.le_refl _)
    have fl := Hl.out.below hb
    have fg := Hg.out.below hb
    have HB0 := Lib.hid (bel_on HB.out hb)
    clear hb Hp Hq Hl Hg HB
    have HB := HB0
    clear HB0
    have Hp := Lib.hid fp
    clear fp
    have Hq := Lib.hid fq
    clear fq
    have Hl := Lib.hid fl
    clear fl
    have Hg := Lib.hid fg
    clear fg
    go_wp2
    go_ret
    exact ⟨rfl, HB.out⟩
  | true =>
    go_wp2_with fail
    clear xl yl zl xg yg zg
    refine (RefRight13 y A2 c2 B2 e2 _ Hq.out HSY2.out).mono ?_
    rintro r w4 ⟨rfl, hb⟩
    have fp := Hp.out.on hb (Nat.le_refl _)
    have fq := Hq.out.on hb (Nat.le_refl _)
    have fl := Hl.out.below hb
    have fg := Hg.out.below hb
    have HB0 := Lib.hid (bel_on HB.out hb)
    clear hb Hp Hq Hl Hg HB
    have HB := HB0
    clear HB0
    have Hp := Lib.hid fp
    clear fp
    have Hq := Lib.hid fq
    clear fq
    have Hl := Lib.hid fl
    clear fl
    have Hg := Lib.hid fg
    clear fg
    obtain ⟨xl, yl, zl⟩ := Hl.out
    obtain ⟨xg, yg, zg⟩ := Hg.out
    cases hry : rightN y with
    | false =>
      clear hrx hry
      go_wp2_with fail
      clear xl yl zl xg yg zg
      refine (awake14_any _ (HT.out.on HB.out)).mono ?_
      rintro r w5 ⟨rfl, hb⟩
      have fp := Hp.out.on hb (Nat.le_refl _)
      have fq := Hq.out.on hb (Nat.le_refl _)
      have fl := Hl.out.below hb
      have fg := Hg.out.below hb
      have HB0 := Lib.hid (bel_on HB.out hb)
      clear hb Hp Hq Hl Hg HB
      have HB := HB0
      clear HB0
      have Hp := Lib.hid fp
      clear fp
      have Hq := Lib.hid fq
      clear fq
      have Hl := Lib.hid fl
      clear fl
      have Hg := Lib.hid fg
      clear fg
      go_wp2
      go_ret
      exact ⟨rfl, HB.out⟩
    | true =>
      obtain ⟨hfx, hvx, hmx⟩ := right_parts hrx
      have hqx := few_size hfx
      have hcx := can_few hvx hqx
      have HVX := Lib.hid hvx
      have HMX := Lib.hid hmx
      have HCX : Hid (canN x ≤ 18000000) := Lib.hid hcx.2
      have HWX : Hid ((writeF x).length ≤ 18000001) := Lib.hid (by have := writeF_length hvx; omega)
      clear hrx hfx hvx hmx hqx hcx
      obtain ⟨hfy, hvy, hmy⟩ := right_parts hry
      have hqy := few_size hfy
      have hcy := can_few hvy hqy
      have HVY := Lib.hid hvy
      have HMY := Lib.hid hmy
      have HCY : Hid (canN y ≤ 18000000) := Lib.hid hcy.2
      have HWY : Hid ((writeF y).length ≤ 18000001) := Lib.hid (by have := writeF_length hvy; omega)
      clear hry hfy hvy hmy hqy hcy
      have hse : sameB (writeF x) (writeF y) = eqN x y := by
        rw [Bool.eq_iff_iff, eqN_iff]
        unfold sameB
        rw [decide_eq_true_iff]
        exact ⟨fun h => write_inj HVX.out HVY.out HMX.out HMY.out HBX.out HBY.out (by have := HCX.out; omega) (by have := HCY.out; omega) h, fun h => by rw [h]⟩
      obtain ⟨v, hv⟩ : ∃ v, eqN x y = v := ⟨_, rfl⟩
      rw [hv] at hse
      have HSE := Lib.hid hse
      have HEQ := Lib.hid hv
      clear hse hv
      go_wp2_with fail
      clear xl yl zl xg yg zg
      rename_i KK hKK
      refine wp_region_chain (by kernel_rfl) (by kernel_rfl) ?_
      refine chain_val (u := ?_) [2] rfl (by kernel_rfl) trivial (fun ρ wc hbc hcn hk => ?_) ?_; rotate_left
      · obtain ⟨hcn, -⟩ := hcn
        simp at hk
        obtain ⟨xl, yl, zl⟩ := Hl.out.drew.below hbc
        go_simp
        rfl
      refine chain_call (T := GotQ w4.heap.size (writeF x)) 10 [18] rfl (by kernel_rfl) trivial (stable_gotq _ _) (fun ρ wc hbc hcn hk => ?_) ?_
      · obtain ⟨hcn, hfn⟩ := hcn
        simp at hk
        refine ⟨_, by go_simp; rfl, ?_⟩
        refine (CWrite_any x A1 c1 B1 e1 wc (HT.out.on (bel_on (bel_drew HB.out) hbc)) (Hp.out.on (w' := wc) (N := w4.heap.size) ⟨hbc.os, hbc.tape, hbc.output, hbc.size, hbc.block⟩ (Nat.le_refl _)) HSX.out HVX.out HMX.out (by have := HCX.out; omega)).mono ?_
        rintro e w' ⟨v, rfl, hg, hbq⟩
        exact ⟨_, rfl, hg.mono hbc.size, hbq⟩
      refine chain_val (u := ?_) [3] rfl (by kernel_rfl) trivial (fun ρ wc hbc hcn hk => ?_) ?_; rotate_left
      · obtain ⟨hcn, -⟩ := hcn
        simp at hk
        obtain ⟨xg, yg, zg⟩ := Hg.out.drew.below hbc
        go_simp
        rfl
      refine chain_call (T := GotQ w4.heap.size (writeF y)) 10 [20] rfl (by kernel_rfl) trivial (stable_gotq _ _) (fun ρ wc hbc hcn hk => ?_) ?_
      · obtain ⟨hcn, hfn⟩ := hcn
        simp at hk
        refine ⟨_, by go_simp; rfl, ?_⟩
        refine (CWrite_any y A2 c2 B2 e2 wc (HT.out.on (bel_on (bel_drew HB.out) hbc)) (Hq.out.on (w' := wc) (N := w4.heap.size) ⟨hbc.os, hbc.tape, hbc.output, hbc.size, hbc.block⟩ (Nat.le_refl _)) HSY.out HVY.out HMY.out (by have := HCY.out; omega)).mono ?_
        rintro e w' ⟨v, rfl, hg, hbq⟩
        exact ⟨_, rfl, hg.mono hbc.size, hbq⟩
      refine chain_call (T := Is (.bool v)) 9 [19, 21] rfl (by kernel_rfl) trivial (stable_is _) (fun ρ wc hbc hcn hk => ?_) ?_
      · obtain ⟨hcn, hfn⟩ := hcn
        simp at hk
        obtain ⟨q1, q2⟩ := hk
        obtain ⟨A7, c7, e7, -, -, r7⟩ := got_parts14 q1
        obtain ⟨A8, c8, e8, -, -, r8⟩ := got_parts14 q2
        refine ⟨_, by go_simp; rfl, ?_⟩
        refine (SameWords_w A7 A8 c7 c8 (writeF x) (writeF y) _ _ v wc r7 r8 rfl rfl (by have := HWX.out; omega) (by have := HWY.out; omega) HSE.out).mono ?_
        rintro e w' ⟨rfl, hbq⟩
        exact ⟨_, rfl, rfl, hbq⟩
      refine chain_val (u := ?_) [2] rfl (by kernel_rfl) trivial (fun ρ wc hbc hcn hk => ?_) ?_; rotate_left
      · obtain ⟨hcn, -⟩ := hcn
        simp at hk
        obtain ⟨xl, yl, zl⟩ := Hl.out.drew.below hbc
        go_simp
        rfl
      refine chain_val (u := ?_) [3] rfl (by kernel_rfl) trivial (fun ρ wc hbc hcn hk => ?_) ?_; rotate_left
      · obtain ⟨hcn, -⟩ := hcn
        simp at hk
        obtain ⟨xg, yg, zg⟩ := Hg.out.drew.below hbc
        go_simp
        rfl
      refine chain_call (T := Is ?_) 12 [23, 24] rfl (by kernel_rfl) trivial (stable_is _) (fun ρ wc hbc hcn hk => ?_) ?_; rotate_left
      · obtain ⟨hcn, hfn⟩ := hcn
        simp at hk
        refine ⟨_, by go_simp; rfl, ?_⟩
        refine (RefEqual_14 x y A1 c1 B1 e1 A2 c2 B2 e2 v wc (Hp.out.on (w' := wc) (N := w4.heap.size) ⟨hbc.os, hbc.tape, hbc.output, hbc.size, hbc.block⟩ (Nat.le_refl _)) (Hq.out.on (w' := wc) (N := w4.heap.size) ⟨hbc.os, hbc.tape, hbc.output, hbc.size, hbc.block⟩ (Nat.le_refl _)) HEQ.out).mono ?_
        rintro e w' ⟨rfl, hbq⟩
        refine ⟨_, rfl, ?_, hbq⟩
        unfold Is
        rfl
      refine chain_val (u := .bool true) [22, 25] rfl (by kernel_rfl) trivial (fun ρ wc hbc hcn hk => ?_) ?_
      · obtain ⟨hcn, -⟩ := hcn
        simp at hk
        cases v <;> (go_simp; try rfl)
      refine chain_val (u := ?_) [26] rfl (by kernel_rfl) trivial (fun ρ wc hbc hcn hk => ?_) ?_; rotate_left
      · obtain ⟨hcn, -⟩ := hcn
        simp at hk
        go_simp
        rfl
      refine chain_end_lit 27 (by kernel_rfl) (fun ff w7 hb7 hk => ?_)
      refine hKK _ _ ?_
      simp [AllN] at hk
      simp only [frameL, hk, Nat.zero_add, Nat.reduceAdd]
      have hb7' : Below w4.heap.size w4 w7 := ⟨hb7.os, hb7.tape, hb7.output, hb7.size, hb7.block⟩
      have HB7 := Lib.hid (bel_on HB.out hb7')
      clear hb7 hk hb7'
      go_wp2
      go_ret
      exact ⟨rfl, HB7.out⟩
end Go.Proofs.YtfigoblpkbpenaaDoor
