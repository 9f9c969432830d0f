/- Laws of layer 18: FnvMatchesReference. -/
import Derived.Test.YtekcmifgdlmljaaAwake18
namespace Go.Proofs.Ytekcmifgdlmljaa
open Go.ChangeShapes Go.WideShapes Go.ChangeAt Go.RowKit
set_option linter.unusedVariables false
set_option linter.unusedSimpArgs false
set_option maxRecDepth 100000
attribute [local irreducible] fnvA fnvB fnvS bytesOf
theorem RefBytes_w (A : Option Addr) (c : Nat) (l : List Int) (w : World) (hr : Ri w .u64 A l) (hb : Wds l) (hm : l.length ≤ 17592186044415) :
    Calls Try.prog 13 #[.slice A l.length c] w fun e w' => ∃ A' c', e = .returned (.slice A' (bytesOf l).length c') ∧ Ri w' .u8 A' (bytesOf l) ∧ Below w.heap.size w w' := by
  refine (RefBytes_any A c l w hr hb hm).mono ?_
  rintro e w' ⟨v, rfl, hg, hb⟩
  obtain ⟨A', c', rfl, -, -, h⟩ := hg.slice
  exact ⟨A', c', rfl, h, hb⟩
set_option maxHeartbeats 2000000 in
theorem MR18_walk (s : Int) (A : Option Addr) (c : Nat) (b : List Int) (B : Option Addr) (d : Nat) (l : List Int) (w : World) (hs0 : 0 ≤ s) (hs1 : s < 18446744073709551616) (hrr : Ri w .u8 A b) (hbr : Bts b) (hnr : A = none → c = 0) (hcr : b.length ≤ c) (hmr : c ≤ maxLen) (hrq : Ri w .u64 B l) (hbq : Wds l) (hnq : B = none → d = 0) (hcq : l.length ≤ d) (hmq : d ≤ maxLen) :
    Calls Try.prog 3 #[.int .u64 s, .slice A b.length c, .slice B l.length d] w fun e w' => e = .returned (.bool true) ∧ Below w.heap.size w w' := by
  have Hr := Lib.hid hrr
  have HBr := Lib.hid hbr
  have HNr := Lib.hid hnr
  have HCr := Lib.hid hcr
  have HMr := Lib.hid hmr
  clear hrr hbr hnr hcr hmr
  have Hq := Lib.hid hrq
  have HBq := Lib.hid hbq
  have HNq := Lib.hid hnq
  have HCq := Lib.hid hcq
  have HMq := Lib.hid hmq
  clear hrq hbq hnq hcq hmq
  have HS := Lib.hid (And.intro hs0 hs1)
  go_enter Try.func3, Try.ntmps3
  go_wp2_with fail
  refine (awake18_any _).mono ?_
  rintro r w1 ⟨rfl, hb⟩
  have fr := Hr.out.below hb (Nat.le_refl _)
  have fq := Hq.out.below hb (Nat.le_refl _)
  have HB0 := Lib.hid (hb)
  clear hb Hr Hq
  have HB := HB0
  clear HB0
  have Hr := Lib.hid fr
  clear fr
  have Hq := Lib.hid fq
  clear fq
  by_cases hlb : b.length ≤ 1000
  · by_cases hll : l.length ≤ 100
    · have t1 : ¬ ((1000 : Int) < (b.length : Int)) := by omega
      have t2 : ¬ ((100 : Int) < (l.length : Int)) := by omega
      obtain ⟨v1, hv1⟩ : ∃ v, fnvA s b = v := ⟨_, rfl⟩
      obtain ⟨v2, hv2⟩ : ∃ v, fnvA fnvS b = v := ⟨_, rfl⟩
      obtain ⟨v3, hv3⟩ : ∃ v, fnvA fnvS (bytesOf l) = v := ⟨_, rfl⟩
      have HV1 := Lib.hid hv1
      have HV2 := Lib.hid hv2
      have HV3 := Lib.hid hv3
      clear hv1 hv2 hv3
      have HY := Lib.hid (bytesOf_bts l)
      have hyl := bytesOf_length l
      go_wp2_with fail
      refine (FAdd_w s A c _ b v1 _ rfl HV1.out HS.out.1 HS.out.2 Hr.out HBr.out (by omega) HCr.out HMr.out HNr.out).mono ?_
      rintro r w2 ⟨rfl, hb⟩
      have fr := Hr.out.below hb (Nat.le_refl _)
      have fq := Hq.out.below hb (Nat.le_refl _)
      have HB0 := Lib.hid (bel_on HB.out hb)
      clear hb Hr Hq HB
      have HB := HB0
      clear HB0
      have Hr := Lib.hid fr
      clear fr
      have Hq := Lib.hid fq
      clear fq
      go_wp2_with fail
      refine (RefAdd18_w s A c _ b v1 _ rfl HV1.out HS.out.1 HS.out.2 Hr.out HBr.out (by omega)).mono ?_
      rintro r w3 ⟨rfl, hb⟩
      have fr := Hr.out.below hb (Nat.le_refl _)
      have fq := Hq.out.below hb (Nat.le_refl _)
      have HB0 := Lib.hid (bel_on HB.out hb)
      clear hb Hr Hq HB
      have HB := HB0
      clear HB0
      have Hr := Lib.hid fr
      clear fr
      have Hq := Lib.hid fq
      clear fq
      go_wp2_with fail
      refine (FSum_w A c _ b v2 _ rfl HV2.out Hr.out HBr.out (by omega) HCr.out HMr.out HNr.out).mono ?_
      rintro r w4 ⟨rfl, hb⟩
      have fr := Hr.out.below hb (Nat.le_refl _)
      have fq := Hq.out.below hb (Nat.le_refl _)
      have HB0 := Lib.hid (bel_on HB.out hb)
      clear hb Hr Hq HB
      have HB := HB0
      clear HB0
      have Hr := Lib.hid fr
      clear fr
      have Hq := Lib.hid fq
      clear fq
      go_wp2_with fail
      refine (RefSum18_w A c _ b v2 _ rfl HV2.out Hr.out HBr.out (by omega)).mono ?_
      rintro r w5 ⟨rfl, hb⟩
      have fr := Hr.out.below hb (Nat.le_refl _)
      have fq := Hq.out.below hb (Nat.le_refl _)
      have HB0 := Lib.hid (bel_on HB.out hb)
      clear hb Hr Hq HB
      have HB := HB0
      clear HB0
      have Hr := Lib.hid fr
      clear fr
      have Hq := Lib.hid fq
      clear fq
      clear Hr
      go_wp2_with fail
      refine (FWords_w B d _ l v3 _ rfl HV3.out Hq.out HBq.out (by omega) HCq.out HMq.out HNq.out).mono ?_
      rintro r w6 ⟨rfl, hb⟩
      have fq := Hq.out.below hb (Nat.le_refl _)
      have HB0 := Lib.hid (bel_on HB.out hb)
      clear hb Hq HB
      have HB := HB0
      clear HB0
      have Hq := Lib.hid fq
      clear fq
      go_wp2_with fail
      refine (RefBytes_w B d l _ Hq.out HBq.out (by omega)).mono ?_
      rintro r w7 ⟨A1, c1, rfl, hn, hb⟩
      have fq := Hq.out.below hb (Nat.le_refl _)
      have HB0 := Lib.hid (bel_on HB.out hb)
      clear hb Hq HB
      have HB := HB0
      clear HB0
      have Hq := Lib.hid fq
      clear fq
      have Hy := Lib.hid hn
      clear hn
      go_wp2_with fail
      refine (RefSum18_w A1 c1 _ (bytesOf l) v3 _ hyl HV3.out Hy.out HY.out (by omega)).mono ?_
      rintro r w8 ⟨rfl, hb⟩
      have fq := Hq.out.below hb (Nat.le_refl _)
      have fy := Hy.out.below hb (Nat.le_refl _)
      have HB0 := Lib.hid (bel_on HB.out hb)
      clear hb Hq Hy HB
      have HB := HB0
      clear HB0
      have Hq := Lib.hid fq
      clear fq
      have Hy := Lib.hid fy
      clear fy
      go_wp2
      go_ret
      exact ⟨rfl, HB.out⟩
    · have t1 : ¬ ((1000 : Int) < (b.length : Int)) := by omega
      have t2 : (100 : Int) < (l.length : Int) := by omega
      go_wp2_with fail
      refine (awake18_any _).mono ?_
      rintro r w2 ⟨rfl, hb⟩
      have fr := Hr.out.below hb (Nat.le_refl _)
      have fq := Hq.out.below hb (Nat.le_refl _)
      have HB0 := Lib.hid (bel_on HB.out hb)
      clear hb Hr Hq HB
      have HB := HB0
      clear HB0
      have Hr := Lib.hid fr
      clear fr
      have Hq := Lib.hid fq
      clear fq
      go_wp2
      go_ret
      exact ⟨rfl, HB.out⟩
  · have t1 : (1000 : Int) < (b.length : Int) := by omega
    go_wp2_with fail
    refine (awake18_any _).mono ?_
    rintro r w2 ⟨rfl, hb⟩
    have fr := Hr.out.below hb (Nat.le_refl _)
    have fq := Hq.out.below hb (Nat.le_refl _)
    have HB0 := Lib.hid (bel_on HB.out hb)
    clear hb Hr Hq HB
    have HB := HB0
    clear HB0
    have Hr := Lib.hid fr
    clear fr
    have Hq := Lib.hid fq
    clear fq
    go_wp2
    go_ret
    exact ⟨rfl, HB.out⟩
end Go.Proofs.Ytekcmifgdlmljaa
