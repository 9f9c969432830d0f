/- A law of layer 18: FnvComposes. -/
import Derived.Test.YtekcmifgdlmljaaAwake18
namespace Go.Proofs.Ytekcmifgdlmljaa
open Go.ChangeShapes Go.WideShapes Go.ChangeAt Go.RowKit
set_option linter.unusedVariables false
set_option linter.unusedSimpArgs false
set_option maxRecDepth 100000
attribute [local irreducible] fnvA fnvB fnvS bytesOf
set_option maxHeartbeats 2000000 in
theorem Comp18_walk (s : Int) (A : Option Addr) (c : Nat) (a : List Int) (B : Option Addr) (d : Nat) (b : List Int) (w : World) (hs0 : 0 ≤ s) (hs1 : s < 18446744073709551616) (hrr : Ri w .u8 A a) (hbr : Bts a) (hnr : A = none → c = 0) (hcr : a.length ≤ c) (hmr : c ≤ maxLen) (hrq : Ri w .u8 B b) (hbq : Bts b) (hnq : B = none → d = 0) (hcq : b.length ≤ d) (hmq : d ≤ maxLen) :
    Calls Try.prog 4 #[.int .u64 s, .slice A a.length c, .slice B b.length d] w fun e w' => e = .returned (.bool true) ∧ Below w.heap.size w w' := by
  have Hr := Lib.hid hrr
  have HBr := Lib.hid hbr
  have HNr := Lib.hid hnr
  have HCr := Lib.hid hcr
  have HMr := Lib.hid hmr
  clear hrr hbr hnr hcr hmr
  have Hq := Lib.hid hrq
  have HBq := Lib.hid hbq
  have HNq := Lib.hid hnq
  have HCq := Lib.hid hcq
  have HMq := Lib.hid hmq
  clear hrq hbq hnq hcq hmq
  have HS := Lib.hid (And.intro hs0 hs1)
  obtain ⟨i0, hi, hz0, hz1, hz2⟩ := info_parts int8_info
  go_enter Try.func4, Try.ntmps4
  go_wp2_with fail
  refine (awake18_any _).mono ?_
  rintro r w1 ⟨rfl, hb⟩
  have fr := Hr.out.below hb (Nat.le_refl _)
  have fq := Hq.out.below hb (Nat.le_refl _)
  have HB0 := Lib.hid (hb)
  clear hb Hr Hq
  have HB := HB0
  clear HB0
  have Hr := Lib.hid fr
  clear fr
  have Hq := Lib.hid fq
  clear fq
  by_cases hla : a.length ≤ 500
  · by_cases hlb : b.length ≤ 500
    · have t1 : ¬ ((500 : Int) < (a.length : Int)) := by omega
      have t2 : ¬ ((500 : Int) < (b.length : Int)) := by omega
      obtain ⟨v1, hv1⟩ : ∃ v, fnvA s a = v := ⟨_, rfl⟩
      obtain ⟨v2, hv2⟩ : ∃ v, fnvA v1 b = v := ⟨_, rfl⟩
      obtain ⟨u1, hu1⟩ : ∃ v, fnvA fnvS a = v := ⟨_, rfl⟩
      obtain ⟨u2, hu2⟩ : ∃ v, fnvA u1 b = v := ⟨_, rfl⟩
      have hv3 : fnvA s (a ++ b) = v2 := by rw [fnvA_app, hv1, hv2]
      have hu3 : fnvA fnvS (a ++ b) = u2 := by rw [fnvA_app, hu1, hu2]
      have HV0 : Hid (0 ≤ v1 ∧ v1 < 18446744073709551616) := Lib.hid (by rw [← hv1]; exact fnvA_bd _ _ HS.out.1 HS.out.2)
      have HU0 : Hid (0 ≤ u1 ∧ u1 < 18446744073709551616) := Lib.hid (by rw [← hu1]; exact fnvA_bd _ _ (by unfold fnvS; decide) (by unfold fnvS; decide))
      have HV1 := Lib.hid hv1
      have HV2 := Lib.hid hv2
      have HV3 := Lib.hid hv3
      have HU1 := Lib.hid hu1
      have HU2 := Lib.hid hu2
      have HU3 := Lib.hid hu3
      have HV4 : Hid (fnvA s [] = s) := Lib.hid (by unfold fnvA; rfl)
      clear hv1 hv2 hv3 hu1 hu2 hu3
      have HE := Lib.hid (Got.empty_made w1 (base := w1.heap.size) 5 .u8 (Nat.le_refl _))
      have HR2 := Lib.hid (Hr.out.alloc (.cells #[] 5))
      go_wp2_with (first
        | (at_builtin; refine wpList_appN rfl (.tmp 21) (.tmp 22) 23 rfl Try.underlying23 hi hz0 hz1 hz2 rfl HE.out rfl HR2.out HNr.out (by unfold maxLen; simp; omega) (by simp; omega) (by simp) ?_; intro v8 w8 hg8 hb8
           have HG8 := Lib.hid hg8
           have HB8 : Hid (Below w1.heap.size w1 w8) := Lib.hid (((Below.refl _ _).alloc (Nat.le_refl _) _).trans hb8)
           have HQ8 := Lib.hid (Hq.out.below HB8.out (Nat.le_refl _))
           clear hg8 hb8)
        | (at_builtin; refine wpList_appN rfl (.tmp 23) (.tmp 24) 23 rfl Try.underlying23 hi hz0 hz1 hz2 rfl HG8.out rfl HQ8.out HNq.out (by unfold maxLen; simp; omega) (by simp; omega) HB8.out.size ?_; intro v9 w9 hg9 hb9
           have HG9 := Lib.hid hg9
           have HB9 : Hid (Below w1.heap.size w1 w9) := Lib.hid (HB8.out.trans hb9)
           clear hg9 hb9))
      obtain ⟨A9, c9, rfl, hc9, hm9, hr9, hn9⟩ := HG9.out.full
      have Hr9 := Lib.hid (Hr.out.below HB9.out (Nat.le_refl _))
      have Hq9 := Lib.hid (Hq.out.below HB9.out (Nat.le_refl _))
      have HY := Lib.hid hr9
      have HNY := Lib.hid hn9
      have HCY := Lib.hid hc9
      have HMY := Lib.hid hm9
      have HBY : Hid (Bts (a ++ b)) := Lib.hid (fun z hz => by rcases List.mem_append.1 hz with h | h; exact HBr.out z h; exact HBq.out z h)
      have hly : (([] ++ a) ++ b).length ≤ 1000 := by simp; omega
      have HBF := Lib.hid (bel_on HB.out HB9.out)
      clear hr9 hn9 hc9 hm9 HG8 HG9 HE HR2 HQ8 HB8 HB9 Hr Hq HB
      simp only [List.nil_append] at HY HCY hly ⊢
      obtain ⟨m9, hm9e⟩ : ∃ m, (a ++ b).length = m := ⟨_, rfl⟩
      rw [hm9e] at HCY hly ⊢
      have HL9 := Lib.hid hm9e
      clear hm9e
      have Hr := Hr9
      have Hq := Hq9
      have Hy := HY
      have HB := HBF
      clear Hr9 Hq9 HY HBF
      have HCy := HCY
      have HMy := HMY
      have HNy := HNY
      have HBy := HBY
      clear HCY HMY HNY HBY
      skip
      refine (FAdd_w s A9 c9 _ (a ++ b) v2 _ HL9.out HV3.out HS.out.1 HS.out.2 Hy.out HBy.out (by omega) HCy.out HMy.out HNy.out).mono ?_
      rintro r w2 ⟨rfl, hb⟩
      have fr := Hr.out.below hb (Nat.le_refl _)
      have fq := Hq.out.below hb (Nat.le_refl _)
      have fy := Hy.out.below hb (Nat.le_refl _)
      have HB0 := Lib.hid (bel_on HB.out hb)
      clear hb Hr Hq Hy HB
      have HB := HB0
      clear HB0
      have Hr := Lib.hid fr
      clear fr
      have Hq := Lib.hid fq
      clear fq
      have Hy := Lib.hid fy
      clear fy
      go_wp2_with fail
      refine (FAdd_w s A c _ a v1 _ rfl HV1.out HS.out.1 HS.out.2 Hr.out HBr.out (by omega) HCr.out HMr.out HNr.out).mono ?_
      rintro r w3 ⟨rfl, hb⟩
      have fr := Hr.out.below hb (Nat.le_refl _)
      have fq := Hq.out.below hb (Nat.le_refl _)
      have fy := Hy.out.below hb (Nat.le_refl _)
      have HB0 := Lib.hid (bel_on HB.out hb)
      clear hb Hr Hq Hy HB
      have HB := HB0
      clear HB0
      have Hr := Lib.hid fr
      clear fr
      have Hq := Lib.hid fq
      clear fq
      have Hy := Lib.hid fy
      clear fy
      go_wp2_with fail
      refine (FAdd_w v1 B d _ b v2 _ rfl HV2.out HV0.out.1 HV0.out.2 Hq.out HBq.out (by omega) HCq.out HMq.out HNq.out).mono ?_
      rintro r w4 ⟨rfl, hb⟩
      have fr := Hr.out.below hb (Nat.le_refl _)
      have fq := Hq.out.below hb (Nat.le_refl _)
      have fy := Hy.out.below hb (Nat.le_refl _)
      have HB0 := Lib.hid (bel_on HB.out hb)
      clear hb Hr Hq Hy HB
      have HB := HB0
      clear HB0
      have Hr := Lib.hid fr
      clear fr
      have Hq := Lib.hid fq
      clear fq
      have Hy := Lib.hid fy
      clear fy
      go_wp2_with fail
      refine (FSum_w A9 c9 _ (a ++ b) u2 _ HL9.out HU3.out Hy.out HBy.out (by omega) HCy.out HMy.out HNy.out).mono ?_
      rintro r w5 ⟨rfl, hb⟩
      have fr := Hr.out.below hb (Nat.le_refl _)
      have fq := Hq.out.below hb (Nat.le_refl _)
      have fy := Hy.out.below hb (Nat.le_refl _)
      have HB0 := Lib.hid (bel_on HB.out hb)
      clear hb Hr Hq Hy HB
      have HB := HB0
      clear HB0
      have Hr := Lib.hid fr
      clear fr
      have Hq := Lib.hid fq
      clear fq
      have Hy := Lib.hid fy
      clear fy
      go_wp2_with fail
      refine (FSum_w A c _ a u1 _ rfl HU1.out Hr.out HBr.out (by omega) HCr.out HMr.out HNr.out).mono ?_
      rintro r w6 ⟨rfl, hb⟩
      have fr := Hr.out.below hb (Nat.le_refl _)
      have fq := Hq.out.below hb (Nat.le_refl _)
      have fy := Hy.out.below hb (Nat.le_refl _)
      have HB0 := Lib.hid (bel_on HB.out hb)
      clear hb Hr Hq Hy HB
      have HB := HB0
      clear HB0
      have Hr := Lib.hid fr
      clear fr
      have Hq := Lib.hid fq
      clear fq
      have Hy := Lib.hid fy
      clear fy
      go_wp2_with fail
      refine (FAdd_w u1 B d _ b u2 _ rfl HU2.out HU0.out.1 HU0.out.2 Hq.out HBq.out (by omega) HCq.out HMq.out HNq.out).mono ?_
      rintro r w7 ⟨rfl, hb⟩
      have fr := Hr.out.below hb (Nat.le_refl _)
      have fq := Hq.out.below hb (Nat.le_refl _)
      have fy := Hy.out.below hb (Nat.le_refl _)
      have HB0 := Lib.hid (bel_on HB.out hb)
      clear hb Hr Hq Hy HB
      have HB := HB0
      clear HB0
      have Hr := Lib.hid fr
      clear fr
      have Hq := Lib.hid fq
      clear fq
      have Hy := Lib.hid fy
      clear fy
      go_wp2_with fail
      refine (FAdd_w s none 0 0 [] s _ rfl HV4.out HS.out.1 HS.out.2 (Ri.nil _ _ _) (fun z hz => by cases hz) (by decide) (by decide) (by decide) (fun _ => rfl)).mono ?_
      rintro r w8 ⟨rfl, hb⟩
      have fr := Hr.out.below hb (Nat.le_refl _)
      have fq := Hq.out.below hb (Nat.le_refl _)
      have fy := Hy.out.below hb (Nat.le_refl _)
      have HB0 := Lib.hid (bel_on HB.out hb)
      clear hb Hr Hq Hy HB
      have HB := HB0
      clear HB0
      have Hr := Lib.hid fr
      clear fr
      have Hq := Lib.hid fq
      clear fq
      have Hy := Lib.hid fy
      clear fy
      go_wp2
      go_ret
      exact ⟨rfl, HB.out⟩
    · have t1 : ¬ ((500 : Int) < (a.length : Int)) := by omega
      have t2 : (500 : Int) < (b.length : Int) := by omega
      go_wp2_with fail
      refine (awake18_any _).mono ?_
      rintro r w2 ⟨rfl, hb⟩
      have fr := Hr.out.below hb (Nat.le_refl _)
      have fq := Hq.out.below hb (Nat.le_refl _)
      have HB0 := Lib.hid (bel_on HB.out hb)
      clear hb Hr Hq HB
      have HB := HB0
      clear HB0
      have Hr := Lib.hid fr
      clear fr
      have Hq := Lib.hid fq
      clear fq
      go_wp2
      go_ret
      exact ⟨rfl, HB.out⟩
  · have t1 : (500 : Int) < (a.length : Int) := by omega
    go_wp2_with fail
    refine (awake18_any _).mono ?_
    rintro r w2 ⟨rfl, hb⟩
    have fr := Hr.out.below hb (Nat.le_refl _)
    have fq := Hq.out.below hb (Nat.le_refl _)
    have HB0 := Lib.hid (bel_on HB.out hb)
    clear hb Hr Hq HB
    have HB := HB0
    clear HB0
    have Hr := Lib.hid fr
    clear fr
    have Hq := Lib.hid fq
    clear fq
    go_wp2
    go_ret
    exact ⟨rfl, HB.out⟩
end Go.Proofs.Ytekcmifgdlmljaa
