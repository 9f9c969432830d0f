/- The laws of layer 1: round trip, and that nothing is modified or shared. -/
import Derived.Test.YtlfaincapinpfaaLaw01c
namespace Go.Proofs.Ytlfaincapinpfaa
open Go.ChangeShapes Go.WideShapes Go.ChangeAt Go.RowKit
set_option linter.unusedVariables false
attribute [local irreducible] p2 fld ins sgn wordsOf bytesOf wordAt

set_option maxHeartbeats 2000000 in
theorem RoundTrip_walk (A B : Option Addr) (c d : Nat) (b l : List Int) (i : Int) (w : World) (hA : Ri w .u8 A b) (hb : Bts b) (hB : Ri w .u64 B l) (hl : Wds l)
    (hbm0 : b.length ≤ 9223372036854775807) (hbc : b.length ≤ c) (hcm : c ≤ 9223372036854775807) (hlm : l.length ≤ 9223372036854775807) (hi : 0 ≤ i) (hi2 : i ≤ 255) :
    Calls Try.prog 4 #[.slice B l.length d, .slice A b.length c, .int .u8 i] w fun e w' => e = .returned (.bool true) ∧ Below w.heap.size w w' := by
  by_cases hlong : b.length ≤ 1000 ∧ l.length ≤ 200
  · obtain ⟨hb1, hl1⟩ := hlong
    have hbm : b.length ≤ 140737488355328 := by omega
    go_enter Try.func4, Try.ntmps4
    go_wp2_with fail
    refine (awake_any _).mono ?_
    rintro e w1 ⟨rfl, hw1⟩
    go_wp2_with fail
    refine (Bytes_any _ _ _ _ (hB.below hw1 (Nat.le_refl _)) hl (by omega)).mono ?_
    rintro e w2 ⟨v2, rfl, hg2, hw2⟩
    have hb2 := bel_on hw1 hw2
    obtain ⟨A2, c2, rfl, hc2, hm2, hr2⟩ := hg2.slice
    have hlb := bytesOf_length l
    have hbts := bytesOf_bts l
    have hm2' : c2 ≤ 9223372036854775807 := by unfold maxLen at hm2; omega
    have Hlb := Lib.hid hlb
    have hlb1 : (bytesOf l).length ≤ 1600 := by omega
    have hlb8 : (bytesOf l).length % 8 = 0 := by omega
    clear hg2 hw1 hw2 hlb
    go_wp2_with fail
    refine (Words_yes _ _ _ _ hr2 hbts (by omega) hc2 hm2' hlb8).mono ?_
    rw [wordsOf_bytesOf l hl]
    rintro e w3 ⟨v3, rfl, hg3, hw3⟩
    have hb3 := bel_on hb2 hw3
    obtain ⟨A3, c3, rfl, _, _, hr3⟩ := hg3.slice
    have hr2' := hr2.below hw3 (Nat.le_refl _)
    clear hg3 hw3 hb2 hr2
    have t1 : (((bytesOf l).length : Int) != 8 * (l.length : Int)) = false := by rw [Hlb.out]; simp
    go_wp2_with fail
    refine (SameWords_any _ _ _ _ _ _ _ hr3 (hB.below hb3 (Nat.le_refl _)) (by omega) (by omega)).mono ?_
    rintro e w' ⟨rfl, m, rfl⟩
    rw [sameB_self]
    have hb4 := bel_drewN hb3 m
    have hr4 : Ri (w3.drewN m) .u8 A2 (bytesOf l) := hr2'
    clear hr2' hr3 hb3
    have HB4 := Lib.hid hb4
    have HR4 := Lib.hid hr4
    clear hr4 hb4
    obtain ⟨I, rfl⟩ := Int.eq_ofNat_of_zero_le hi
    by_cases hl0 : 0 < l.length
    · go_wp2_with fail
      have eK : ((I : Int) % (l.length : Int)) = ((I % l.length : Nat) : Int) := by simp
      have hKlt : I % l.length < l.length := Nat.mod_lt _ hl0
      rw [eK]
      clear eK
      generalize I % l.length = K at *
      have hh : hasW (bytesOf l) (K : Int) = true := by unfold hasW; simp; rw [Hlb.out]; omega
      have hg : getW (bytesOf l) (K : Int) = zat l K := by
        unfold getW
        rw [hh, if_pos rfl, Int.toNat_natCast, wordAt_bytesOf l hl K hKlt]
      refine (Get_any _ _ _ _ _ HR4.out hbts (by omega) hc2 hm2' (by omega) (by omega)).mono ?_
      rw [hh, hg]
      rintro e w' ⟨rfl, rfl⟩
      clear hh hg
      obtain ⟨g, off, rfl, hcB⟩ := (hB.below HB4.out (Nat.le_refl _)).at hKlt
      have hcK := hcB K hKlt
      clear hcB
      have hK1 : (K : Int) < (l.length : Int) := by omega
      go_wp2_with fail
      by_cases h8 : b.length % 8 = 0
      · have HRA := Lib.hid (hA.below HB4.out (Nat.le_refl _))
        refine (Words_yes _ _ _ _ HRA.out hb hbm hbc hcm h8).mono ?_
        rintro e w5 ⟨v5, rfl, hg5, hw5⟩
        have hb5 := bel_on HB4.out hw5
        obtain ⟨A5, c5, rfl, _, _, hr5⟩ := hg5.slice
        clear hg5 hcK
        have t8 : ((b.length : Int) % 8 == 0) = true := by simp; omega
        have hwl := wordsOf_length b
        have hwm : (wordsOf b).length ≤ 17592186044416 := by omega
        have hwd := wordsOf_wds hb
        clear hwl
        go_wp2_with fail
        refine (Bytes_any _ _ _ _ hr5 hwd hwm).mono ?_
        rw [bytesOf_wordsOf b hb h8]
        rintro e w6 ⟨v6, rfl, hg6, hw6⟩
        have hb6 := bel_on hb5 hw6
        obtain ⟨A6, c6, rfl, _, _, hr6⟩ := hg6.slice
        clear hg6 hr5 hw5 hw6 hb5
        go_wp2_with fail
        refine (Same_any _ _ _ _ _ _ _ hr6 (hA.below hb6 (Nat.le_refl _)) (by omega) (by omega)).mono ?_
        rintro e w' ⟨rfl, m2, rfl⟩
        rw [sameB_self]
        have HB7 := Lib.hid (bel_drewN hb6 m2)
        clear hb6 hr6
        go_wp2_with fail
        go_ret
        exact ⟨rfl, HB7.out⟩
      · refine (Words_no _ _ _ _ hbm h8).mono ?_
        rintro e w' ⟨rfl, rfl⟩
        have t8 : ((b.length : Int) % 8 == 0) = false := by simp; omega
        clear hcK
        go_wp2_with fail
        go_ret
        exact ⟨rfl, HB4.out⟩
    · go_wp2_with fail
      by_cases h8 : b.length % 8 = 0
      · have HRA := Lib.hid (hA.below HB4.out (Nat.le_refl _))
        refine (Words_yes _ _ _ _ HRA.out hb hbm hbc hcm h8).mono ?_
        rintro e w5 ⟨v5, rfl, hg5, hw5⟩
        have hb5 := bel_on HB4.out hw5
        obtain ⟨A5, c5, rfl, _, _, hr5⟩ := hg5.slice
        clear hg5
        have t8 : ((b.length : Int) % 8 == 0) = true := by simp; omega
        have hwl := wordsOf_length b
        have hwm : (wordsOf b).length ≤ 17592186044416 := by omega
        have hwd := wordsOf_wds hb
        clear hwl
        go_wp2_with fail
        refine (Bytes_any _ _ _ _ hr5 hwd hwm).mono ?_
        rw [bytesOf_wordsOf b hb h8]
        rintro e w6 ⟨v6, rfl, hg6, hw6⟩
        have hb6 := bel_on hb5 hw6
        obtain ⟨A6, c6, rfl, _, _, hr6⟩ := hg6.slice
        clear hg6 hr5 hw5 hw6 hb5
        go_wp2_with fail
        refine (Same_any _ _ _ _ _ _ _ hr6 (hA.below hb6 (Nat.le_refl _)) (by omega) (by omega)).mono ?_
        rintro e w' ⟨rfl, m2, rfl⟩
        rw [sameB_self]
        have HB7 := Lib.hid (bel_drewN hb6 m2)
        clear hb6 hr6
        go_wp2_with fail
        go_ret
        exact ⟨rfl, HB7.out⟩
      · refine (Words_no _ _ _ _ hbm h8).mono ?_
        rintro e w' ⟨rfl, rfl⟩
        have t8 : ((b.length : Int) % 8 == 0) = false := by simp; omega
        go_wp2_with fail
        go_ret
        exact ⟨rfl, HB4.out⟩
  · go_enter Try.func4, Try.ntmps4
    by_cases hb1 : b.length ≤ 1000
    · have hl1 : 200 < l.length := by omega
      clear hlong
      go_wp2_with fail
      refine (awake_any _).mono ?_
      rintro e w1 ⟨rfl, hw1⟩
      go_wp2_with fail
      refine (awake_any _).mono ?_
      rintro e w2 ⟨rfl, hw2⟩
      have HB := Lib.hid (bel_on hw1 hw2)
      clear hw1 hw2
      go_wp2_with fail
      go_ret
      exact ⟨rfl, HB.out⟩
    · have hb2 : 1000 < b.length := by omega
      clear hlong hb1
      go_wp2_with fail
      refine (awake_any _).mono ?_
      rintro e w1 ⟨rfl, hw1⟩
      go_wp2_with fail
      refine (awake_any _).mono ?_
      rintro e w2 ⟨rfl, hw2⟩
      have HB := Lib.hid (bel_on hw1 hw2)
      clear hw1 hw2
      go_wp2_with fail
      go_ret
      exact ⟨rfl, HB.out⟩

theorem Words_ex (A : Option Addr) (c : Nat) (b : List Int) (w : World) (hr : Ri w .u8 A b) (hb : Bts b) (hm : b.length ≤ 140737488355328) (hc : b.length ≤ c) (hc2 : c ≤ 9223372036854775807) :
    Calls Try.prog 11 #[.slice A b.length c] w fun e w' => ∃ A' c' ok zs, e = .returned (.tuple #[.slice A' zs.length c', .bool ok]) ∧ Got w' w.heap.size 24 .u64 (.slice A' zs.length c') zs ∧ zs.length ≤ b.length ∧ Below w.heap.size w w' := by
  by_cases h8 : b.length % 8 = 0
  · refine (Words_yes A c b w hr hb hm hc hc2 h8).mono fun e w' ⟨v, h1, h2, h3⟩ => ?_
    obtain ⟨A', c', rfl, _, _, _⟩ := h2.slice
    exact ⟨A', c', true, wordsOf b, h1, h2, by rw [wordsOf_length]; omega, h3⟩
  · refine (Words_no A c _ w hm h8).mono fun e w' ⟨h1, h2⟩ => ?_
    subst h2
    exact ⟨none, 0, false, [], h1, Got.empty _ _ _ _, Nat.zero_le _, Below.refl _ _⟩

set_option maxHeartbeats 2000000 in
theorem Keeps_walk (A B : Option Addr) (c d : Nat) (b l : List Int) (w : World) (hA : Ri w .u8 A b) (hb : Bts b) (hB : Ri w .u64 B l) (hl : Wds l) (hc0 : A = none → c = 0) (hd0 : B = none → d = 0)
    (hbm0 : b.length ≤ 9223372036854775807) (hbc : b.length ≤ c) (hcm : c ≤ 9223372036854775807) (hlm : l.length ≤ 9223372036854775807) :
    Calls Try.prog 7 #[.slice A b.length c, .slice B l.length d] w fun e w' => e = .returned (.bool true) ∧ Below w.heap.size w w' := by
  by_cases hlong : b.length ≤ 1000 ∧ l.length ≤ 200
  · obtain ⟨hb1, hl1⟩ := hlong
    have hbm : b.length ≤ 140737488355328 := by omega
    obtain ⟨i8, hi8, hy0, hy1, hy2⟩ := info_parts int8_info
    obtain ⟨i6, hi6, hz0, hz1, hz2⟩ := info_parts int64_info
    go_enter Try.func7, Try.ntmps7
    go_wp2_with fail
    refine (awake_any _).mono ?_
    rintro e w1 ⟨rfl, hw1⟩
    have HA1 := Lib.hid ((hA.below hw1 (Nat.le_refl _)).alloc (.cells #[] 5))
    go_wp2_with (first
      | (at_builtin; refine wpList_appN rfl (.tmp 25) (.tmp 26) 22 rfl Try.underlying22 hi8 hy0 hy1 hy2 rfl (Got.empty_made w1 5 .u8 (base := w1.heap.size) (Nat.le_refl _)) rfl HA1.out hc0 (by unfold maxLen; simp; omega) (by simp; omega) (by simp) ?_; intro v2 w2 hg2 hb2; have hw2 := bel_on hw1 (((Below.refl _ _).alloc (Nat.le_refl _) _).trans hb2); have HB1 := Lib.hid ((hB.below hw2 (Nat.le_refl _)).alloc (.cells #[] 24)))
      | (at_builtin; refine wpList_appN rfl (.tmp 28) (.tmp 29) 23 rfl Try.underlying23 hi6 hz0 hz1 hz2 rfl (Got.empty_made w2 24 .u64 (base := w2.heap.size) (Nat.le_refl _)) rfl HB1.out hd0 (by unfold maxLen; simp; omega) (by simp; omega) (by simp) ?_; intro v3 w3 hg3 hb3; have hw3 := bel_on hw2 (((Below.refl _ _).alloc (Nat.le_refl _) _).trans hb3)))
    have hb23 : Below w2.heap.size w2 w3 := ((Below.refl _ _).alloc (Nat.le_refl _) _).trans hb3
    have hg2' := hg2.below hb23 (Nat.le_refl _)
    have hr2 : ∃ A2 c2, v2 = .slice A2 b.length c2 ∧ Ri w3 .u8 A2 b := by
      obtain ⟨A2, c2, h1, _, _, h2⟩ := hg2'.slice
      exact ⟨A2, c2, by simpa using h1, by simpa using h2⟩
    have hr3 : ∃ A3 c3, v3 = .slice A3 l.length c3 ∧ Ri w3 .u64 A3 l := by
      obtain ⟨A3, c3, h1, _, _, h2⟩ := hg3.slice
      exact ⟨A3, c3, by simpa using h1, by simpa using h2⟩
    obtain ⟨A2, c2, rfl, hr2⟩ := hr2
    obtain ⟨A3, c3, rfl, hr3⟩ := hr3
    clear hb2 hb3 hg2 hb23 hg2' hg3 HA1 HB1
    have HW3 := Lib.hid hw3
    refine (Words_ex _ _ _ _ (hA.below hw3 (Nat.le_refl _)) hb hbm hbc hcm).mono ?_
    rintro e w5 ⟨A5, c5, ok5, z5, rfl, hg5, hn5, hw5⟩
    clear hw1 hw2 hw3
    generalize hz : z5.length = n5 at hg5 hn5
    have HZ := Lib.hid hz
    clear hz
    go_wp2_with fail
    refine (Bytes_any _ _ _ _ ((hB.below HW3.out (Nat.le_refl _)).below hw5 (Nat.le_refl _)) hl (by omega)).mono ?_
    rintro e w6 ⟨v6, rfl, hg6, hw6⟩
    obtain ⟨A6, c6, rfl, _, _, _⟩ := hg6.slice
    have hlb : (bytesOf l).length ≤ 1600 := by rw [bytesOf_length]; omega
    have hg5' := hg5.below hw6 (Nat.le_refl _)
    have hw56 := bel_on hw5 hw6
    have hs5 := hw5.size
    generalize hy : (bytesOf l).length = n6 at *
    have HY := Lib.hid hy
    have HG5 := Lib.hid hg5
    clear hy hg5 hw5 hw6
    go_wp2_with fail
    go_loopw [10] (fun i wr => ∃ (k : Nat) (zs : List Int), k ≤ n5 ∧ i = .int .i64 k ∧ Got wr w3.heap.size 24 .u64 (.slice A5 n5 c5) zs ∧ Got wr w5.heap.size 5 .u8 (.slice A6 n6 c6) (bytesOf l) ∧ Below w3.heap.size w3 wr) (fun i _ => n5 - (intOf i).toNat)
    case atStart => exact ⟨0, z5, by omega, rfl, hg5', hg6, hw56⟩
    case round =>
      clear hg5' hg6 hw56
      obtain ⟨k, zs, hk, rfl, hgz, hgy, hbz⟩ := hrel
      by_cases hlt : k < n5
      · obtain ⟨g, rfl, hg1, hg2, hnz⟩ := hgz.addr (by omega)
        have hcell := (hgz.cast (congrArg (fun n => Value.slice (some ⟨g, 0, none⟩) n c5) hnz) rfl).cell k (by omega)
        have hfree := (hgz.cast (congrArg (fun n => Value.slice (some ⟨g, 0, none⟩) n c5) hnz) rfl).free k
        have HNZ := Lib.hid hnz
        have HGZ := Lib.hid hgz
        have HGY := Lib.hid hgy
        have HBZ := Lib.hid hbz
        have hgl : g < w5.heap.size := by
          rcases HG5.out.addr (by omega) with ⟨g', e, _, h', _⟩
          injection e with e
          injection e with e
          omega
        clear hgz hgy hbz hnz
        have hk1 : (k : Int) < (n5 : Int) := by omega
        go_wp2
        go_roundw
        case rel =>
          exact ⟨k + 1, _, by omega, by go_num, ((HGZ.out.cast (congrArg (fun n => Value.slice (some ⟨g, 0, none⟩) n c5) HNZ.out) rfl).put k _).cast (by rw [← HNZ.out]) rfl, HGY.out.far hgl _, HBZ.out.setCell hg1 _⟩
        case measure => simp [intOf]; omega
      · obtain rfl : k = n5 := by omega
        clear hgz
        have HBZ := Lib.hid hbz
        go_wp2
        go_loopw [11] (fun i wr => ∃ (j : Nat) (ys : List Int), j ≤ n6 ∧ i = .int .i64 j ∧ Got wr w5.heap.size 5 .u8 (.slice A6 n6 c6) ys ∧ Below w3.heap.size w3 wr) (fun i _ => n6 - (intOf i).toNat)
        case atStart => exact ⟨0, _, by omega, rfl, hgy, hbz⟩
        case round =>
          clear hgy hbz
          obtain ⟨j, ys, hj, rfl, hgy, hby⟩ := hrel
          by_cases hjt : j < n6
          · obtain ⟨g, rfl, hg1, hg2, hnz⟩ := hgy.addr (by omega)
            have hcell := (hgy.cast (congrArg (fun n => Value.slice (some ⟨g, 0, none⟩) n c6) hnz) rfl).cell j (by omega)
            have hfree := (hgy.cast (congrArg (fun n => Value.slice (some ⟨g, 0, none⟩) n c6) hnz) rfl).free j
            have HNZ := Lib.hid hnz
            have HGY := Lib.hid hgy
            have HBY := Lib.hid hby
            clear hgy hby hnz
            have hk1 : (j : Int) < (n6 : Int) := by omega
            go_wp2
            go_roundw
            case rel =>
              exact ⟨j + 1, _, by omega, by go_num, ((HGY.out.cast (congrArg (fun n => Value.slice (some ⟨g, 0, none⟩) n c6) HNZ.out) rfl).put j _).cast (by rw [← HNZ.out]) rfl, HBY.out.setCell (by show w3.heap.size ≤ g; omega) _⟩
            case measure => simp [intOf]; omega
          · obtain rfl : j = n6 := by omega
            have HBY := Lib.hid hby
            clear hgy hby
            go_wp2_with fail
            refine (Same_any _ _ _ _ _ _ _ ((hA.below HW3.out (Nat.le_refl _)).below HBY.out (Nat.le_refl _)) (hr2.below HBY.out (Nat.le_refl _)) (by omega) (by omega)).mono ?_
            rintro e w' ⟨rfl, m2, rfl⟩
            rw [sameB_self]
            have hb7 := bel_drewN HBY.out m2
            have HB7 := Lib.hid hb7
            clear hb7
            go_wp2_with fail
            refine (SameWords_any _ _ _ _ _ _ _ ((hB.below HW3.out (Nat.le_refl _)).below HB7.out (Nat.le_refl _)) (hr3.below HB7.out (Nat.le_refl _)) (by omega) (by omega)).mono ?_
            rintro e w' ⟨rfl, m3, rfl⟩
            rw [sameB_self]
            have hb8 := bel_on HW3.out (bel_drewN HB7.out m3)
            rw [World.drewN_drewN] at hb8
            have HB8 := Lib.hid hb8
            clear hb8
            go_wp2_with fail
            go_ret
            exact ⟨rfl, HB8.out⟩
  · go_enter Try.func7, Try.ntmps7
    by_cases hb1 : b.length ≤ 1000
    · have hl1 : 200 < l.length := by omega
      clear hlong
      go_wp2_with fail
      refine (awake_any _).mono ?_
      rintro e w1 ⟨rfl, hw1⟩
      go_wp2_with fail
      refine (awake_any _).mono ?_
      rintro e w2 ⟨rfl, hw2⟩
      have HB := Lib.hid (bel_on hw1 hw2)
      clear hw1 hw2
      go_wp2_with fail
      go_ret
      exact ⟨rfl, HB.out⟩
    · have hb2 : 1000 < b.length := by omega
      clear hlong hb1
      go_wp2_with fail
      refine (awake_any _).mono ?_
      rintro e w1 ⟨rfl, hw1⟩
      go_wp2_with fail
      refine (awake_any _).mono ?_
      rintro e w2 ⟨rfl, hw2⟩
      have HB := Lib.hid (bel_on hw1 hw2)
      clear hw1 hw2
      go_wp2_with fail
      go_ret
      exact ⟨rfl, HB.out⟩
end Go.Proofs.Ytlfaincapinpfaa
