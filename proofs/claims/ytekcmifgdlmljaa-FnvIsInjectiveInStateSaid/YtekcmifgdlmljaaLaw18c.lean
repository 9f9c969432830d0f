/- A law of layer 18: FnvIsInjectiveInState. -/
import Derived.Test.YtekcmifgdlmljaaAwake18
namespace Go.Proofs.Ytekcmifgdlmljaa
open Go.ChangeShapes Go.WideShapes Go.ChangeAt Go.RowKit
set_option linter.unusedVariables false
set_option linter.unusedSimpArgs false
set_option maxRecDepth 100000
attribute [local irreducible] fnvA fnvB fnvS bytesOf
set_option maxHeartbeats 2000000 in
theorem Inj18_walk (s t : Int) (A : Option Addr) (c : Nat) (b : List Int) (x y : Int) (w : World) (hs0 : 0 ≤ s) (hs1 : s < 18446744073709551616) (ht0 : 0 ≤ t) (ht1 : t < 18446744073709551616) (hc0 : 0 ≤ x) (hc1 : x < 256) (hd0 : 0 ≤ y) (hd1 : y < 256) (hrr : Ri w .u8 A b) (hbr : Bts b) (hnr : A = none → c = 0) (hcr : b.length ≤ c) (hmr : c ≤ maxLen) :
    Calls Try.prog 5 #[.int .u64 s, .int .u64 t, .slice A b.length c, .int .u8 x, .int .u8 y] w fun e w' => e = .returned (.bool true) ∧ Below w.heap.size w w' := by
  have Hr := Lib.hid hrr
  have HBr := Lib.hid hbr
  have HNr := Lib.hid hnr
  have HCr := Lib.hid hcr
  have HMr := Lib.hid hmr
  clear hrr hbr hnr hcr hmr
  have HS := Lib.hid (And.intro hs0 hs1)
  have HT := Lib.hid (And.intro ht0 ht1)
  have HC0 := Lib.hid (And.intro hc0 hc1)
  have HD0 := Lib.hid (And.intro hd0 hd1)
  go_enter Try.func5, Try.ntmps5
  go_wp2_with fail
  refine (awake18_any _).mono ?_
  rintro r w1 ⟨rfl, hb⟩
  have fr := Hr.out.below hb (Nat.le_refl _)
  have HB0 := Lib.hid (hb)
  clear hb Hr
  have HB := HB0
  clear HB0
  have Hr := Lib.hid fr
  clear fr
  by_cases hlb : b.length ≤ 500
  · have t1 : ¬ ((500 : Int) < (b.length : Int)) := by omega
    obtain ⟨v1, hv1⟩ : ∃ v, fnvA s b = v := ⟨_, rfl⟩
    obtain ⟨v2, hv2⟩ : ∃ v, fnvA t b = v := ⟨_, rfl⟩
    obtain ⟨u1, hu1⟩ : ∃ v, fnvA s [x] = v := ⟨_, rfl⟩
    obtain ⟨u2, hu2⟩ : ∃ v, fnvA s [y] = v := ⟨_, rfl⟩
    have e1 : (v1 == v2) = (s == t) := by
      have h := fnvA_inj b s t HBr.out HS.out.1 HS.out.2 HT.out.1 HT.out.2
      rw [hv1, hv2] at h
      rw [Bool.eq_iff_iff, beq_iff_eq, beq_iff_eq]
      exact h
    have e2 : (u1 == u2) = (x == y) := by
      have h := fnvA_one (s := s) HS.out.1 HS.out.2 HC0.out.1 HC0.out.2 HD0.out.1 HD0.out.2
      rw [hu1, hu2] at h
      rw [Bool.eq_iff_iff, beq_iff_eq, beq_iff_eq]
      exact h
    have HV1 := Lib.hid hv1
    have HV2 := Lib.hid hv2
    have HU1 := Lib.hid hu1
    have HU2 := Lib.hid hu2
    have t5 : ((v1 == v2) == (s == t)) = true := by rw [e1]; simp
    have t6 : ((u1 == u2) == (x == y)) = true := by rw [e2]; simp
    clear hv1 hv2 hu1 hu2 e1 e2
    go_wp2_with fail
    refine (FAdd_w s A c _ b v1 _ rfl HV1.out HS.out.1 HS.out.2 Hr.out HBr.out (by omega) HCr.out HMr.out HNr.out).mono ?_
    rintro r w2 ⟨rfl, hb⟩
    have fr := Hr.out.below hb (Nat.le_refl _)
    have HB0 := Lib.hid (bel_on HB.out hb)
    clear hb Hr HB
    have HB := HB0
    clear HB0
    have Hr := Lib.hid fr
    clear fr
    go_wp2_with fail
    refine (FAdd_w t A c _ b v2 _ rfl HV2.out HT.out.1 HT.out.2 Hr.out HBr.out (by omega) HCr.out HMr.out HNr.out).mono ?_
    rintro r w3 ⟨rfl, hb⟩
    have fr := Hr.out.below hb (Nat.le_refl _)
    have HB0 := Lib.hid (bel_on HB.out hb)
    clear hb Hr HB
    have HB := HB0
    clear HB0
    have Hr := Lib.hid fr
    clear fr
    clear Hr
    go_wp2_with fail
    refine abs_world (F := fun W => Ri W .u8 (some ⟨w3.heap.size, 0, none⟩) [x] ∧ Below w.heap.size w W) ⟨?_, ?_⟩ ?_
    · exact Ri.lit _ .u8 [x] 5
    · exact (HB.out.alloc (by first | exact Nat.le_refl _ | (have := HB.out.size; simp; omega) | (have := HB.out.size; omega) | (simp; done) | (simp; omega)) _)
    clear HB
    rintro W4 ⟨hk, hb⟩
    have Hk := Lib.hid hk
    have HB := Lib.hid hb
    clear hb hk
    refine (FAdd_w s (some ⟨w3.heap.size, 0, none⟩) 1 1 [x] u1 _ rfl HU1.out HS.out.1 HS.out.2 Hk.out (fun z hz => by obtain rfl := List.mem_singleton.1 hz; exact HC0.out) (by decide) (by decide) (by decide) (fun h => by cases h)).mono ?_
    rintro r w5 ⟨rfl, hb⟩
    have fk := Hk.out.below hb (Nat.le_refl _)
    have HB0 := Lib.hid (bel_on HB.out hb)
    clear hb Hk HB
    have HB := HB0
    clear HB0
    have Hk := Lib.hid fk
    clear fk
    clear Hk
    go_wp2_with fail
    refine abs_world (F := fun W => Ri W .u8 (some ⟨w5.heap.size, 0, none⟩) [y] ∧ Below w.heap.size w W) ⟨?_, ?_⟩ ?_
    · exact Ri.lit _ .u8 [y] 5
    · exact (HB.out.alloc (by first | exact Nat.le_refl _ | (have := HB.out.size; simp; omega) | (have := HB.out.size; omega) | (simp; done) | (simp; omega)) _)
    clear HB
    rintro W6 ⟨hk, hb⟩
    have Hk := Lib.hid hk
    have HB := Lib.hid hb
    clear hb hk
    refine (FAdd_w s (some ⟨w5.heap.size, 0, none⟩) 1 1 [y] u2 _ rfl HU2.out HS.out.1 HS.out.2 Hk.out (fun z hz => by obtain rfl := List.mem_singleton.1 hz; exact HD0.out) (by decide) (by decide) (by decide) (fun h => by cases h)).mono ?_
    rintro r w7 ⟨rfl, hb⟩
    have fk := Hk.out.below hb (Nat.le_refl _)
    have HB0 := Lib.hid (bel_on HB.out hb)
    clear hb Hk HB
    have HB := HB0
    clear HB0
    have Hk := Lib.hid fk
    clear fk
    clear Hk
    go_wp2
    go_ret
    exact ⟨rfl, HB.out⟩
  · have t1 : (500 : Int) < (b.length : Int) := by omega
    go_wp2_with fail
    refine (awake18_any _).mono ?_
    rintro r w2 ⟨rfl, hb⟩
    have fr := Hr.out.below hb (Nat.le_refl _)
    have HB0 := Lib.hid (bel_on HB.out hb)
    clear hb Hr HB
    have HB := HB0
    clear HB0
    have Hr := Lib.hid fr
    clear fr
    go_wp2
    go_ret
    exact ⟨rfl, HB.out⟩
end Go.Proofs.Ytekcmifgdlmljaa
