/- The laws of layer 1 on bytes and words. -/
import Derived.Test.YtlfaincapinpfaaLaw01b
namespace Go.Proofs.Ytlfaincapinpfaa
open Go.ChangeShapes Go.WideShapes Go.ChangeAt Go.RowKit
set_option linter.unusedVariables false
attribute [local irreducible] p2 fld ins sgn wordsOf bytesOf wordAt

set_option maxHeartbeats 2000000 in
theorem MatchesReference_walk (A B : Option Addr) (c d : Nat) (b l : List Int) (i x v p q : Int) (w : World) (hA : Ri w .u8 A b) (hb : Bts b) (hB : Ri w .u64 B l) (hl : Wds l)
    (hbm0 : b.length ≤ 9223372036854775807) (hbc : b.length ≤ c) (hcm : c ≤ 9223372036854775807) (hlm : l.length ≤ 9223372036854775807) (hi : -9223372036854775808 ≤ i) (hi2 : i ≤ 9223372036854775807)
    (hx : 0 ≤ x) (hx2 : x < 18446744073709551616) (hv : 0 ≤ v) (hv2 : v < 18446744073709551616) (hp : 0 ≤ p) (hp2 : p ≤ 255) (hq : 0 ≤ q) (hq2 : q ≤ 255) :
    Calls Try.prog 3 #[.slice A b.length c, .int .i64 i, .slice B l.length d, .int .u64 x, .int .u64 v, .int .u8 p, .int .u8 q] w fun e w' => e = .returned (.bool true) ∧ Below w.heap.size w w' := by
  by_cases hlong : b.length ≤ 1000 ∧ l.length ≤ 200
  · obtain ⟨hb1, hl1⟩ := hlong
    have hbm : b.length ≤ 140737488355328 := by omega
    go_enter Try.func3, Try.ntmps3
    go_wp2_with fail
    refine (awake_any _).mono ?_
    rintro e w1 ⟨rfl, hw1⟩
    go_wp2_with fail
    refine (Get_any _ _ _ _ _ (hA.below hw1 (Nat.le_refl _)) hb hbm hbc hcm hi hi2).mono ?_
    rintro e w' ⟨rfl, rfl⟩
    go_wp2_with fail
    refine (RefGet_any _ _ _ _ _ (hA.below hw1 (Nat.le_refl _)) hb hbm hi hi2).mono ?_
    rintro e w' ⟨rfl, rfl⟩
    go_wp2_with fail
    by_cases h8 : b.length % 8 = 0
    · refine (Words_yes _ _ _ _ (hA.below hw1 (Nat.le_refl _)) hb hbm hbc hcm h8).mono ?_
      rintro e w2 ⟨v2, rfl, hg2, hw2⟩
      have hb2 := bel_on hw1 hw2
      go_wp2_with fail
      refine (RefWords_yes _ _ _ _ (hA.below hb2 (Nat.le_refl _)) hb hbm h8).mono ?_
      rintro e w3 ⟨v3, rfl, hg3, hw3⟩
      have hb3 := bel_on hb2 hw3
      obtain ⟨A2, c2, rfl, _, _, hr2⟩ := hg2.slice
      obtain ⟨A3, c3, rfl, _, _, hr3⟩ := hg3.slice
      have hr2' := hr2.below hw3 (Nat.le_refl _)
      have hln : (wordsOf b).length ≤ 9223372036854775807 := by rw [wordsOf_length]; omega
      clear hg2 hg3 hr2 hw1 hw2 hw3 hb2
      go_wp2_with fail
      refine (Place_ex _ _ _ hp hp2 hq hq2).mono ?_
      rintro e w' ⟨a, n, rfl, hn1, ha, han, rfl⟩
      go_wp2_with fail
      refine (SameWords_any _ _ _ _ _ _ _ hr2' hr3 hln hln).mono ?_
      rintro e w' ⟨rfl, m, rfl⟩
      rw [sameB_self]
      have hb4 := bel_drewN hb3 m
      go_wp2_with fail
      refine (Bytes_any _ _ _ _ (hB.below hb4 (Nat.le_refl _)) hl (by omega)).mono ?_
      rintro e w5 ⟨v5, rfl, hg5, hw5⟩
      have hb5 := bel_on hb4 hw5
      go_wp2_with fail
      refine (RefBytes_any _ _ _ _ (hB.below hb5 (Nat.le_refl _)) hl (by omega)).mono ?_
      rintro e w6 ⟨v6, rfl, hg6, hw6⟩
      have hb6 := bel_on hb5 hw6
      obtain ⟨A5, c5, rfl, _, _, hr5⟩ := hg5.slice
      obtain ⟨A6, c6, rfl, _, _, hr6⟩ := hg6.slice
      have hr5' := hr5.below hw6 (Nat.le_refl _)
      have hlb : (bytesOf l).length ≤ 9223372036854775807 := by rw [bytesOf_length]; omega
      clear hg5 hg6 hr5 hw5 hw6 hb3 hb4 hb5 hr2' hr3
      go_wp2_with fail
      refine (Same_any _ _ _ _ _ _ _ hr5' hr6 hlb hlb).mono ?_
      rintro e w' ⟨rfl, m2, rfl⟩
      rw [sameB_self]
      have hb7 := bel_drewN hb6 m2
      have HB := Lib.hid hb7
      clear hb6 hb7 hr5' hr6
      have f1 := fld_bd x a n (by omega)
      go_wp2_with (first
        | (go_at_call 18; refine (Field_any _ _ _ _ (by omega) (by omega) (by omega) (by omega) (by omega)).mono ?_; rintro e w' ⟨rfl, rfl⟩)
        | (go_at_call 19; refine (RefField_any _ _ _ _ (by omega) (by omega) (by omega) (by omega) (by omega)).mono ?_; rintro e w' ⟨rfl, rfl⟩)
        | (go_at_call 20; refine (Signed_any _ _ _ _ (by omega) (by omega) (by omega) (by omega) (by omega)).mono ?_; rintro e w' ⟨rfl, rfl⟩)
        | (go_at_call 21; refine (RefSigned_any _ _ _ _ (by omega) (by omega) (by omega) (by omega) (by omega)).mono ?_; rintro e w' ⟨rfl, rfl⟩)
        | (go_at_call 22; refine (Insert_any _ _ _ _ _ (by omega) (by omega) (by omega) (by omega) (by omega) (by omega) (by omega)).mono ?_; rintro e w' ⟨rfl, rfl⟩)
        | (go_at_call 23; refine (RefInsert_any _ _ _ _ _ (by omega) (by omega) (by omega) (by omega) (by omega) (by omega) (by omega)).mono ?_; rintro e w' ⟨rfl, rfl⟩))
      go_ret
      exact ⟨rfl, HB.out⟩
    · refine (Words_no _ _ _ _ hbm h8).mono ?_
      rintro e w' ⟨rfl, rfl⟩
      go_wp2_with fail
      refine (RefWords_no _ _ _ _ hbm h8).mono ?_
      rintro e w' ⟨rfl, rfl⟩
      go_wp2_with fail
      refine (Place_ex _ _ _ hp hp2 hq hq2).mono ?_
      rintro e w' ⟨a, n, rfl, hn1, ha, han, rfl⟩
      go_wp2_with fail
      refine (SameWords_any none none 0 0 [] [] _ (Ri.nil _ _ _) (Ri.nil _ _ _) (by decide) (by decide)).mono ?_
      rintro e w' ⟨rfl, m, rfl⟩
      rw [sameB_self]
      have hb4 := bel_drewN hw1 m
      go_wp2_with fail
      refine (Bytes_any _ _ _ _ (hB.below hb4 (Nat.le_refl _)) hl (by omega)).mono ?_
      rintro e w5 ⟨v5, rfl, hg5, hw5⟩
      have hb5 := bel_on hb4 hw5
      go_wp2_with fail
      refine (RefBytes_any _ _ _ _ (hB.below hb5 (Nat.le_refl _)) hl (by omega)).mono ?_
      rintro e w6 ⟨v6, rfl, hg6, hw6⟩
      have hb6 := bel_on hb5 hw6
      obtain ⟨A5, c5, rfl, _, _, hr5⟩ := hg5.slice
      obtain ⟨A6, c6, rfl, _, _, hr6⟩ := hg6.slice
      have hr5' := hr5.below hw6 (Nat.le_refl _)
      have hlb : (bytesOf l).length ≤ 9223372036854775807 := by rw [bytesOf_length]; omega
      clear hg5 hg6 hr5 hw5 hw6 hb4 hb5 hw1
      go_wp2_with fail
      refine (Same_any _ _ _ _ _ _ _ hr5' hr6 hlb hlb).mono ?_
      rintro e w' ⟨rfl, m2, rfl⟩
      rw [sameB_self]
      have hb7 := bel_drewN hb6 m2
      have HB := Lib.hid hb7
      clear hb6 hb7 hr5' hr6
      have f1 := fld_bd x a n (by omega)
      go_wp2_with (first
        | (go_at_call 18; refine (Field_any _ _ _ _ (by omega) (by omega) (by omega) (by omega) (by omega)).mono ?_; rintro e w' ⟨rfl, rfl⟩)
        | (go_at_call 19; refine (RefField_any _ _ _ _ (by omega) (by omega) (by omega) (by omega) (by omega)).mono ?_; rintro e w' ⟨rfl, rfl⟩)
        | (go_at_call 20; refine (Signed_any _ _ _ _ (by omega) (by omega) (by omega) (by omega) (by omega)).mono ?_; rintro e w' ⟨rfl, rfl⟩)
        | (go_at_call 21; refine (RefSigned_any _ _ _ _ (by omega) (by omega) (by omega) (by omega) (by omega)).mono ?_; rintro e w' ⟨rfl, rfl⟩)
        | (go_at_call 22; refine (Insert_any _ _ _ _ _ (by omega) (by omega) (by omega) (by omega) (by omega) (by omega) (by omega)).mono ?_; rintro e w' ⟨rfl, rfl⟩)
        | (go_at_call 23; refine (RefInsert_any _ _ _ _ _ (by omega) (by omega) (by omega) (by omega) (by omega) (by omega) (by omega)).mono ?_; rintro e w' ⟨rfl, rfl⟩))
      go_ret
      exact ⟨rfl, HB.out⟩
  · go_enter Try.func3, Try.ntmps3
    by_cases hb1 : b.length ≤ 1000
    · have hl1 : 200 < l.length := by omega
      clear hlong
      go_wp2_with fail
      refine (awake_any _).mono ?_
      rintro e w1 ⟨rfl, hw1⟩
      go_wp2_with fail
      refine (awake_any _).mono ?_
      rintro e w2 ⟨rfl, hw2⟩
      have HB := Lib.hid (bel_on hw1 hw2)
      clear hw1 hw2
      go_wp2_with fail
      go_ret
      exact ⟨rfl, HB.out⟩
    · have hb2 : 1000 < b.length := by omega
      clear hlong hb1
      go_wp2_with fail
      refine (awake_any _).mono ?_
      rintro e w1 ⟨rfl, hw1⟩
      go_wp2_with fail
      refine (awake_any _).mono ?_
      rintro e w2 ⟨rfl, hw2⟩
      have HB := Lib.hid (bel_on hw1 hw2)
      clear hw1 hw2
      go_wp2_with fail
      go_ret
      exact ⟨rfl, HB.out⟩
end Go.Proofs.Ytlfaincapinpfaa
