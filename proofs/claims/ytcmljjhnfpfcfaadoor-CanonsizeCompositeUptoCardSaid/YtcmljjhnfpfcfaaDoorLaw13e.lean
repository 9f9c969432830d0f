/- A law of layer 13: CanonsizeKeeps. -/
import Derived.Test.YtcmljjhnfpfcfaaDoorLaw13
import Derived.Test.YtcmljjhnfpfcfaaDoorMg1
import Derived.Test.YtcmljjhnfpfcfaaDoorMg2
import Derived.Test.YtcmljjhnfpfcfaaDoorMg3
import Derived.Test.YtcmljjhnfpfcfaaDoorMg4
import Derived.Test.YtcmljjhnfpfcfaaDoorMg6
import Derived.Test.YtcmljjhnfpfcfaaDoorMg7
import Derived.Test.YtcmljjhnfpfcfaaDoorMg9
import Derived.Test.YtcmljjhnfpfcfaaDoorMg10
import Derived.Test.YtcmljjhnfpfcfaaDoorMg11
import Derived.Test.YtcmljjhnfpfcfaaDoorMg32
namespace Go.Proofs.YtcmljjhnfpfcfaaDoor
open Go.ChangeShapes Go.WideShapes Go.ChangeAt Go.RowKit
set_option linter.unusedVariables false
set_option linter.unusedSimpArgs false
set_option maxRecDepth 100000
attribute [local simp] AllK KnowsV look Is

theorem canK_pos {l : List Nd} (h : ∀ y ∈ l, validN y = true) : 0 ≤ canK l := by
  induction l with
  | nil => simp [canK]
  | cons y ys ih =>
    have h3 := (can_size y (h y (List.mem_cons_self ..))).1
    have h4 := ih (fun z hz => h z (List.mem_cons_of_mem _ hz))
    simp only [canK]
    omega
theorem RefEqual_13 (x y : Nd) (A : Option Addr) (c : Nat) (B : Option Addr) (c2 : Nat) (A1 : Option Addr) (c3 : Nat) (B1 : Option Addr) (c4 : Nat) (v : Bool) (w : World) (hx : NdR w A c B c2 x) (hy : NdR w A1 c3 B1 c4 y) (hv : eqN x y = v) :
    Calls Tryd.prog 20 #[.agg #[.int .i64 x.k, .int .i64 x.e, .int .i64 x.n, .slice A x.d.length c, .slice B x.ks.length c2], .agg #[.int .i64 y.k, .int .i64 y.e, .int .i64 y.n, .slice A1 y.d.length c3, .slice B1 y.ks.length c4]] w fun r w' => r = .returned (.bool v) ∧ Below w.heap.size w w' := hv ▸ RefEqual_node x y A c B c2 A1 c3 B1 c4 w hx hy
theorem CObject_w (x : Nd) (A : Option Addr) (c : Nat) (B : Option Addr) (c2 : Nat) (v : Int) (w : World) (hT : TabOK w) (hx : NdR w A c B c2 x) (hs : sizeN x ≤ 1099511627776) (hv : validN x = true) (ht : trimmedN x = true) (h : canO x = v) :
    Calls Tryd.prog 10 #[.agg #[.int .i64 x.k, .int .i64 x.e, .int .i64 x.n, .slice A x.d.length c, .slice B x.ks.length c2]] w fun r w' => r = .returned (.int .i64 v) ∧ Below w.heap.size w w' := by
  subst h
  exact CObject_any x A c B c2 w hT hx hs hv ht
theorem CNode_w (x : Nd) (A : Option Addr) (c : Nat) (B : Option Addr) (c2 : Nat) (v : Int) (w : World) (hT : TabOK w) (hx : NdR w A c B c2 x) (hs : sizeN x ≤ 1099511627776) (hv : validN x = true) (ht : trimmedN x = true) (h : canN x = v) :
    Calls Tryd.prog 12 #[.agg #[.int .i64 x.k, .int .i64 x.e, .int .i64 x.n, .slice A x.d.length c, .slice B x.ks.length c2]] w fun r w' => r = .returned (.int .i64 v) ∧ Below w.heap.size w w' := by
  subst h
  exact CNode_any x A c B c2 w hT hx hs hv ht
theorem CTotal_w (x : Nd) (A : Option Addr) (c : Nat) (B : Option Addr) (c2 : Nat) (v : Int) (w : World) (hT : TabOK w) (hx : NdR w A c B c2 x) (hs : sizeN x ≤ 1099511627776) (hv : validN x = true) (ht : trimmedN x = true) (h : canN x = v) :
    Calls Tryd.prog 14 #[.agg #[.int .i64 x.k, .int .i64 x.e, .int .i64 x.n, .slice A x.d.length c, .slice B x.ks.length c2]] w fun r w' => r = .returned (.int .i64 (v + 1)) ∧ Below w.heap.size w w' := by
  subst h
  exact CTotal_any x A c B c2 w hT hx hs hv ht
attribute [local irreducible] validN fewN trimmedN canN canO rightN sizeN
set_option maxHeartbeats 4000000 in
set_option maxRecDepth 100000 in
theorem Keep13_walk (x : Nd) (A1 : Option Addr) (c1 : Nat) (B1 : Option Addr) (e1 : Nat) (w : World) (hT : TabOK w) (hx : NdR w A1 c1 B1 e1 x) (hsx : sizeN x ≤ 1048576) :
    Calls Tryd.prog 7 #[.agg #[.int .i64 x.k, .int .i64 x.e, .int .i64 x.n, .slice A1 x.d.length c1, .slice B1 x.ks.length e1]] w fun e w' => e = .returned (.bool true) ∧ Below w.heap.size w w' := by
  have HT := Lib.hid hT
  have Hp := Lib.hid hx
  have HSX : Hid (sizeN x ≤ 1099511627776) := Lib.hid (by omega)
  clear hT hx
  go_enter Tryd.func7, Tryd.ntmps7
  go_wp2_with fail
  refine abs_world (F := fun W => NdR W A1 c1 B1 e1 x ∧ Blk W w.heap.size #[.int .i64 x.k, .int .i64 x.e, .int .i64 x.n, .slice A1 x.d.length c1, .slice B1 x.ks.length e1] ∧ Below w.heap.size w W) ⟨?_, ?_, ?_⟩ ?_
  · exact (NdR.on Hp.out ((Below.refl _ _).alloc (Nat.le_refl _) _) (Nat.le_refl _))
  · exact Blk.fresh _ _ _
  · exact ((Below.refl w.heap.size w).alloc (by first | exact Nat.le_refl _ | (simp; done) | (simp; omega)) _)
  clear Hp
  rintro W1 ⟨hp, hl, hb⟩
  have Hp := Lib.hid hp
  have Hl := Lib.hid hl
  have HB := Lib.hid hb
  clear hb hp hl
  refine (awake13_any _ (HT.out.on HB.out)).mono ?_
  rintro r w2 ⟨rfl, hb⟩
  have fp := Hp.out.on hb (Nat.le_refl _)
  have fl := Hl.out.below hb
  have HB0 := Lib.hid (bel_on HB.out hb)
  clear hb Hp Hl HB
  have HB := HB0
  clear HB0
  have Hp := Lib.hid fp
  clear fp
  have Hl := Lib.hid fl
  clear fl
  obtain ⟨xl, yl, zl⟩ := Hl.out
  go_wp2_with fail
  clear xl yl zl
  refine (RefRight13 x A1 c1 B1 e1 _ Hp.out HSX.out).mono ?_
  rintro r w3 ⟨rfl, hb⟩
  have fp := Hp.out.on hb (Nat.le_refl _)
  have fl := Hl.out.below hb
  have HB0 := Lib.hid (bel_on HB.out hb)
  clear hb Hp Hl HB
  have HB := HB0
  clear HB0
  have Hp := Lib.hid fp
  clear fp
  have Hl := Lib.hid fl
  clear fl
  cases hri : rightN x with
  | false =>
    clear hri
    go_wp2_with fail
    refine (awake13_any _ (HT.out.on HB.out)).mono ?_
    rintro r w4 ⟨rfl, hb⟩
    have fp := Hp.out.on hb (Nat.le_refl _)
    have fl := Hl.out.below hb
    have HB0 := Lib.hid (bel_on HB.out hb)
    clear hb Hp Hl HB
    have HB := HB0
    clear HB0
    have Hp := Lib.hid fp
    clear fp
    have Hl := Lib.hid fl
    clear fl
    go_wp2
    go_ret
    exact ⟨rfl, HB.out⟩
  | true =>
    obtain ⟨hfx, hvx, hmx⟩ := right_parts hri
    have HVX := Lib.hid hvx
    have HMX := Lib.hid hmx
    have hcb := can_size x hvx
    have hco := canO_size hvx
    have HCB : Hid (0 ≤ canN x ∧ canN x ≤ 1000000000000) := Lib.hid (by omega)
    have hco0 : 0 ≤ canO x ∧ canO x ≤ canN x := ⟨hco.1, by rw [canN_eq]; have := canK_pos (valid_targ hvx); omega⟩
    clear hri hfx hvx hmx hcb hco
    obtain ⟨xl, yl, zl⟩ := Hl.out
    go_wp2_with fail
    clear xl yl zl
    refine (RefCopy_node x A1 c1 B1 e1 _ Hp.out HSX.out).mono ?_
    rintro r w4 ⟨v, rfl, ⟨A2, c2, B2, e2, hi2, rfl, -, hno⟩, hb⟩
    have fp := Hp.out.on hb (Nat.le_refl _)
    have fl := Hl.out.below hb
    have HB0 := Lib.hid (bel_on HB.out hb)
    clear hb Hp Hl HB
    have HB := HB0
    clear HB0
    have Hp := Lib.hid fp
    clear fp
    have Hl := Lib.hid fl
    clear fl
    have hn := hno.nd
    clear hno
    have Hq := Lib.hid hn
    clear hn
    go_wp2_with fail
    refine abs_world (F := fun W => NdR W A1 c1 B1 e1 x ∧ Blk W w.heap.size #[.int .i64 x.k, .int .i64 x.e, .int .i64 x.n, .slice A1 x.d.length c1, .slice B1 x.ks.length e1] ∧ NdR W A2 c2 B2 e2 x ∧ Blk W w4.heap.size #[.int .i64 x.k, .int .i64 x.e, .int .i64 x.n, .slice A2 x.d.length c2, .slice B2 x.ks.length e2] ∧ Below w.heap.size w W) ⟨?_, ?_, ?_, ?_, ?_⟩ ?_
    · exact (NdR.on Hp.out ((Below.refl _ _).alloc (Nat.le_refl _) _) (Nat.le_refl _))
    · exact (Hl.out.alloc _)
    · exact (NdR.on Hq.out ((Below.refl _ _).alloc (Nat.le_refl _) _) (Nat.le_refl _))
    · exact Blk.fresh _ _ _
    · exact (HB.out.alloc (by first | exact Nat.le_refl _ | (have := HB.out.size; simp; omega) | (have := HB.out.size; omega) | (simp; done) | (simp; omega)) _)
    clear Hp Hl Hq HB
    rintro W5 ⟨hp, hl, hq, hg, hb⟩
    have Hp := Lib.hid hp
    have Hl := Lib.hid hl
    have Hq := Lib.hid hq
    have Hg := Lib.hid hg
    have HB := Lib.hid hb
    clear hb hp hl hq hg
    have hco := hco0
    obtain ⟨o, ho⟩ : ∃ o, canO x = o := ⟨_, rfl⟩
    obtain ⟨s, hs⟩ : ∃ s, canN x = s := ⟨_, rfl⟩
    rw [ho] at hco
    have hcb := HCB.out
    rw [hs] at hcb hco
    have HO := Lib.hid ho
    have HS := Lib.hid hs
    clear ho hs hco0
    refine (CObject_w x A2 c2 B2 e2 o _ (HT.out.on HB.out) Hq.out HSX.out HVX.out HMX.out HO.out).mono ?_
    rintro r w6 ⟨rfl, hb⟩
    have fp := Hp.out.on hb (Nat.le_refl _)
    have fl := Hl.out.below hb
    have fq := Hq.out.on hb (Nat.le_refl _)
    have fg := Hg.out.below hb
    have HB0 := Lib.hid (bel_on HB.out hb)
    clear hb Hp Hl Hq Hg HB
    have HB := HB0
    clear HB0
    have Hp := Lib.hid fp
    clear fp
    have Hl := Lib.hid fl
    clear fl
    have Hq := Lib.hid fq
    clear fq
    have Hg := Lib.hid fg
    clear fg
    obtain ⟨xg, yg, zg⟩ := Hg.out
    go_wp2_with fail
    clear xg yg zg
    refine (CNode_w x A2 c2 B2 e2 s _ (HT.out.on HB.out) Hq.out HSX.out HVX.out HMX.out HS.out).mono ?_
    rintro r w7 ⟨rfl, hb⟩
    have fp := Hp.out.on hb (Nat.le_refl _)
    have fl := Hl.out.below hb
    have fq := Hq.out.on hb (Nat.le_refl _)
    have fg := Hg.out.below hb
    have HB0 := Lib.hid (bel_on HB.out hb)
    clear hb Hp Hl Hq Hg HB
    have HB := HB0
    clear HB0
    have Hp := Lib.hid fp
    clear fp
    have Hl := Lib.hid fl
    clear fl
    have Hq := Lib.hid fq
    clear fq
    have Hg := Lib.hid fg
    clear fg
    obtain ⟨xg, yg, zg⟩ := Hg.out
    go_wp2_with fail
    clear xg yg zg
    refine (CTotal_w x A2 c2 B2 e2 s _ (HT.out.on HB.out) Hq.out HSX.out HVX.out HMX.out HS.out).mono ?_
    rintro r w8 ⟨rfl, hb⟩
    have fp := Hp.out.on hb (Nat.le_refl _)
    have fl := Hl.out.below hb
    have fq := Hq.out.on hb (Nat.le_refl _)
    have fg := Hg.out.below hb
    have HB0 := Lib.hid (bel_on HB.out hb)
    clear hb Hp Hl Hq Hg HB
    have HB := HB0
    clear HB0
    have Hp := Lib.hid fp
    clear fp
    have Hl := Lib.hid fl
    clear fl
    have Hq := Lib.hid fq
    clear fq
    have Hg := Lib.hid fg
    clear fg
    obtain ⟨xg, yg, zg⟩ := Hg.out
    obtain ⟨xl, yl, zl⟩ := Hl.out
    go_wp2_with fail
    clear xg yg zg xl yl zl
    refine (RefEqual_13 x x A2 c2 B2 e2 A1 c1 B1 e1 true _ Hq.out Hp.out (by simp [eqN])).mono ?_
    rintro r w9 ⟨rfl, hb⟩
    have fp := Hp.out.on hb (Nat.le_refl _)
    have fl := Hl.out.below hb
    have fq := Hq.out.on hb (Nat.le_refl _)
    have fg := Hg.out.below hb
    have HB0 := Lib.hid (bel_on HB.out hb)
    clear hb Hp Hl Hq Hg HB
    have HB := HB0
    clear HB0
    have Hp := Lib.hid fp
    clear fp
    have Hl := Lib.hid fl
    clear fl
    have Hq := Lib.hid fq
    clear fq
    have Hg := Lib.hid fg
    clear fg
    have t1 : decide (0 ≤ o) = true := decide_eq_true hco.1
    have t2 : decide (o ≤ s) = true := decide_eq_true hco.2
    obtain ⟨xl, yl, zl⟩ := Hl.out
    go_wp2_with fail
    clear xl yl zl
    refine (CNode_w x A1 c1 B1 e1 s _ (HT.out.on HB.out) Hp.out HSX.out HVX.out HMX.out HS.out).mono ?_
    rintro r w10 ⟨rfl, hb⟩
    have fp := Hp.out.on hb (Nat.le_refl _)
    have fl := Hl.out.below hb
    have fq := Hq.out.on hb (Nat.le_refl _)
    have fg := Hg.out.below hb
    have HB0 := Lib.hid (bel_on HB.out hb)
    clear hb Hp Hl Hq Hg HB
    have HB := HB0
    clear HB0
    have Hp := Lib.hid fp
    clear fp
    have Hl := Lib.hid fl
    clear fl
    have Hq := Lib.hid fq
    clear fq
    have Hg := Lib.hid fg
    clear fg
    go_wp2
    go_ret
    exact ⟨rfl, HB.out⟩
end Go.Proofs.YtcmljjhnfpfcfaaDoor
