/- What the reference functions of layer 4 do, each by a contract. -/
import Derived.Test.YtmnhodbppadpdaaRef05
import Derived.Test.YtmnhodbppadpdaaMsgOwn
import Derived.Test.YtmnhodbppadpdaaFrameNum
namespace Go.Proofs.Ytmnhodbppadpdaa
open Go.ChangeShapes Go.WideShapes Go.ChangeAt Go.RowKit
set_option linter.unusedVariables false
set_option linter.unusedSimpArgs false

theorem entry_any (A : Option Addr) (c : Nat) (b : List Int) (k : Nat) (w : World) (hr : Ri w .u8 A b) (hb : Bts b) (hm : b.length ≤ 140737488355328) (hk : 4 * k + 3 < b.length) :
    Calls Try.prog 21 #[.slice A b.length c, .int .i64 k] w fun e w' => e = .returned (.int .i64 (ent b k)) ∧ ∃ m, w' = w.drewN m := by
  obtain ⟨g, off, rfl, hc⟩ := hr.at hk
  have c0 := hc (4 * k) (by omega)
  have c1 := hc (4 * k + 1) (by omega)
  have c2 := hc (4 * k + 2) (by omega)
  have c3 := hc (4 * k + 3) (by omega)
  have b0 := hb.at (4 * k)
  have b1 := hb.at (4 * k + 1)
  have b2 := hb.at (4 * k + 2)
  have b3 := hb.at (4 * k + 3)
  have i0 : 4 * (k : Int) < (b.length : Int) := by omega
  have i1 : 4 * (k : Int) + 1 < (b.length : Int) := by omega
  have i2 : 4 * (k : Int) + 2 < (b.length : Int) := by omega
  have i3 : 4 * (k : Int) + 3 < (b.length : Int) := by omega
  have HE : Hid (ent b k = zat b (4 * k) + 256 * zat b (4 * k + 1) + 65536 * zat b (4 * k + 2) + 16777216 * zat b (4 * k + 3)) := Lib.hid rfl
  clear hc hr
  go_enter Try.func21, Try.ntmps21
  go_wp2
  go_quiet (fail)
  go_wp2
  go_ret
  exact ⟨by rw [HE.out]; rfl, nq, rfl⟩

/-! ## Same -/
def sameS (a b : List (List Int)) : Bool := decide (a = b)
theorem sameS_self (a : List (List Int)) : sameS a a = true := by simp [sameS]
theorem sameS_no (a b : List (List Int)) (k : Nat) (h : sameB (seg a k) (seg b k) = false) : sameS a b = false := by
  unfold sameS
  simp
  rintro rfl
  rw [sameB_self] at h
  cases h
theorem sameS_len (a b : List (List Int)) (h : a.length ≠ b.length) : sameS a b = false := by
  unfold sameS
  simp
  rintro rfl
  exact h rfl
theorem sameS_yes (a b : List (List Int)) (hl : a.length = b.length) (h : ∀ i, i < a.length → sameB (seg a i) (seg b i) = true) : sameS a b = true := by
  unfold sameS
  simp
  exact ext_seg hl fun i hi => of_decide_eq_true (h i hi)

theorem SameWords_is (A B : Option Addr) (c d : Nat) (a b : List Int) (w : World) (ha : Ri w .u64 A a) (hb : Ri w .u64 B b) (hm : a.length ≤ 9223372036854775807) (hm2 : b.length ≤ 9223372036854775807) {x : Bool} (hx : sameB a b = x) :
    Calls Try.prog 28 #[.slice A a.length c, .slice B b.length d] w fun e w' => e = .returned (.bool x) ∧ ∃ m, w' = w.drewN m := by
  subst hx
  exact SameWords_any A B c d a b w ha hb hm hm2

theorem Sg.drewN {w : World} {A : Option Addr} {ls : List (List Int)} (h : Sg w A ls) (n : Nat) : Sg (w.drewN n) A ls := h

theorem Same4_any (A B : Option Addr) (c d : Nat) (a b : List (List Int)) (w : World) (ha : Sg w A a) (hb : Sg w B b) (hm : a.length ≤ 9223372036854775807) (hm2 : b.length ≤ 9223372036854775807) :
    Calls Try.prog 14 #[.slice A a.length c, .slice B b.length d] w fun e w' => e = .returned (.bool (sameS a b)) ∧ ∃ m, w' = w.drewN m := by
  have Ha := Lib.hid ha
  have Hb := Lib.hid hb
  clear ha hb
  by_cases hl : a.length = b.length
  · have HL := Lib.hid hl
    have hlen : ((a.length : Int) != (b.length : Int)) = false := by simp [hl]
    have hlen2 : ((a.length : Int) == (b.length : Int)) = true := by simp [hl]
    clear hl
    go_enter Try.func14, Try.ntmps14
    go_wp2
    go_loopw [5] (fun i wr => ∃ k : Nat, k ≤ a.length ∧ i = .int .i64 k ∧ (∀ j, j < k → sameB (seg a j) (seg b j) = true) ∧ ∃ m, wr = w.drewN m) (fun i _ => a.length - (intOf i).toNat)
    case atStart => exact ⟨0, by omega, rfl, by intro j hj; omega, 0, rfl⟩
    case round =>
      obtain ⟨k, hk, rfl, hsame, hwr⟩ := hrel
      have HS := Lib.hid hsame
      have HW := Lib.hid hwr
      have HA2 : Hid (Sg wr A a) := Lib.hid (by obtain ⟨m, rfl⟩ := hwr; exact Ha.out.drewN m)
      have HB2 : Hid (Sg wr B b) := Lib.hid (by obtain ⟨m, rfl⟩ := hwr; exact Hb.out.drewN m)
      clear hsame hwr
      by_cases hlt : k < a.length
      · obtain ⟨g, off, A1, c1, rfl, hc1, hr1, -, hd1, hd2⟩ := HA2.out.one hlt
        have hltb : k < b.length := by rw [← HL.out]; exact hlt
        obtain ⟨g', off', A2, c2, rfl, hc2, hr2, -, he1, he2⟩ := HB2.out.one hltb
        have hi1 : (k : Int) < (a.length : Int) := by omega
        have hi2 : (k : Int) < (b.length : Int) := by omega
        have HR1 := Lib.hid hr1
        have HR2 := Lib.hid hr2
        clear hr1 hr2
        cases hx : sameB (seg a k) (seg b k)
        · have HX := Lib.hid hx
          clear hx
          go_wp2
          go_quiet ((go_at_call 28; exact Calls.quiet_of (SameWords_is _ _ _ _ _ _ _ (HR1.out.drewN _) (HR2.out.drewN _) (by omega) (by omega) HX.out)))
          go_wp2
          go_ret
          exact ⟨by rw [sameS_no a b k HX.out]; rfl, by obtain ⟨m, h⟩ := HW.out; exact ⟨_, by rw [h, World.drewN_drewN]⟩⟩
        · have HX := Lib.hid hx
          clear hx
          go_wp2
          go_quiet ((go_at_call 28; exact Calls.quiet_of (SameWords_is _ _ _ _ _ _ _ (HR1.out.drewN _) (HR2.out.drewN _) (by omega) (by omega) HX.out)))
          go_wp2
          go_roundw
          case rel => exact ⟨k + 1, by omega, by go_num, fun j hj => by
            by_cases e : j = k
            · subst e; exact HX.out
            · exact HS.out j (by omega), by obtain ⟨m, h⟩ := HW.out; exact ⟨_, by rw [h, World.drewN_drewN]⟩⟩
          case measure => simp [intOf]; omega
      · obtain rfl : k = a.length := by omega
        go_wp2
        go_ret
        exact ⟨by rw [sameS_yes a b HL.out HS.out]; rfl, HW.out⟩
  · have HL := Lib.hid (sameS_len a b hl)
    have hlen : ((a.length : Int) != (b.length : Int)) = true := by simp; omega
    have hlen2 : ((a.length : Int) == (b.length : Int)) = false := by simp; omega
    clear hl
    go_enter Try.func14, Try.ntmps14
    go_wp2
    go_ret
    exact ⟨by rw [HL.out]; rfl, 0, rfl⟩

/-! ## put, Serialize -/
theorem put_any (v : Value) (zs : List Int) (x : Int) (base : Nat) (w : World) (hg : Got w base 5 .u8 v zs) (hb : base ≤ w.heap.size) (hl : zs.length ≤ 140737488355000) (h0 : 0 ≤ x) (h1 : x < 4294967296) :
    Calls Try.prog 26 #[v, .int .i64 x] w fun e w' => ∃ v', e = .returned v' ∧ Got w' base 5 .u8 v' (zs ++ put4 x) ∧ Below base w w' := by
  obtain ⟨i0, hi, hz0, hz1, hz2⟩ := info_parts int8_info
  have HG := Lib.hid hg
  have hx1 : x / 16777216 < 256 := by omega
  have HP : Hid ([x % 256, x / 256 % 256, x / 65536 % 256, x / 16777216] = put4 x) := Lib.hid rfl
  have HR := Lib.hid (Ri.lit w .u8 [x % 256, x / 256 % 256, x / 65536 % 256, x / 16777216] 5)
  have HB : Hid (Below base w (w.alloc (.cells ([x % 256, x / 256 % 256, x / 65536 % 256, x / 16777216].map (Value.int .u8)).toArray 5))) := Lib.hid ((Below.refl _ _).alloc hb _)
  clear hg
  go_enter Try.func26, Try.ntmps26
  go_wp2_with (at_builtin; refine wpList_appN (ys := [x % 256, x / 256 % 256, x / 65536 % 256, x / 16777216]) rfl (.tmp 5) (.tmp 20) 22 rfl Try.underlying22 hi hz0 hz1 hz2 rfl (World.ownsRow.alloc HG.out _) rfl HR.out (fun h => by cases h) (by unfold maxLen; simp; omega) (by simp; omega) (by simp; omega) ?_; intro v2 w2 hg2 hb2)
  go_ret
  exact ⟨_, rfl, hg2, HB.out.trans hb2⟩

theorem RefSer_no (A : Option Addr) (c n : Nat) (w : World) (hn : n = 0 ∨ 512 < n) (hm : n ≤ 140737488355328) :
    Calls Try.prog 13 #[.slice A n c] w fun e w' => e = .returned (.tuple #[.slice none 0 0, .int .i64 1]) ∧ w = w' := by
  by_cases h : n = 0
  · subst h
    go_enter Try.func13, Try.ntmps13
    go_wp2
    go_ret2
    exact ⟨rfl, rfl⟩
  · have h1 : ¬ (n : Int) < 1 := by omega
    have h2 : (512 : Int) < (n : Int) := by omega
    clear hn h
    go_enter Try.func13, Try.ntmps13
    go_wp2
    go_ret2
    exact ⟨rfl, rfl⟩

def headL (ls : List (List Int)) : List Int := put4 ((ls.length : Int) - 1) ++ lensL ls ++ padL ls.length
theorem headL_length (ls : List (List Int)) (h : ls.length ≤ 512) : (headL ls).length ≤ 2056 := by
  unfold headL
  rw [List.length_append, List.length_append, put4_length, lensL_length, padL_length]
  split <;> omega

set_option maxHeartbeats 2000000 in
set_option maxRecDepth 100000 in
theorem RefSer_yes (A : Option Addr) (c : Nat) (ls : List (List Int)) (w : World) (hs : Sg w A ls) (hw : Wd2 ls) (h1 : 1 ≤ ls.length) (h2 : ls.length ≤ 512) (hf : ∀ j, (seg ls j).length ≤ 536870911) :
    Calls Try.prog 13 #[.slice A ls.length c] w fun e w' => ∃ v, e = .returned (.tuple #[v, .int .i64 0]) ∧ Got w' w.heap.size 5 .u8 v (serL ls) ∧ Below w.heap.size w w' := by
  obtain ⟨i0, hi, hz0, hz1, hz2⟩ := info_parts int8_info
  have Hs := Lib.hid hs
  have Hw := Lib.hid hw
  have HF := Lib.hid hf
  have hh := headL_length ls h2
  have hl1 : (1 : Int) ≤ (ls.length : Int) := by omega
  have hl2 : (ls.length : Int) ≤ 512 := by omega
  clear hs hw hf
  go_enter Try.func13, Try.ntmps13
  go_wp2_with fail
  refine (put_any _ [] _ w.heap.size w (Got.empty _ _ _ _) (Nat.le_refl _) (by simp) (by omega) (by omega)).mono ?_
  rintro e w1 ⟨v1, rfl, hg1, hb1⟩
  rw [List.nil_append] at hg1
  have HG1 := Lib.hid hg1
  have HB1 := Lib.hid hb1
  clear hg1 hb1
  go_wp2
  go_loopw [4, 5] (fun v x wr => ∃ k : Nat, k ≤ ls.length ∧ x = .int .i64 k ∧ Got wr w.heap.size 5 .u8 v (put4 ((ls.length : Int) - 1) ++ lensL (ls.take k)) ∧ Below w.heap.size w wr) (fun _ x _ => ls.length - (intOf x).toNat)
  case atStart => exact ⟨0, by omega, rfl, by simpa [lensL] using HG1.out, HB1.out⟩
  case round =>
    obtain ⟨k, hk, rfl, hgk, hbk⟩ := hrel
    by_cases hlt : k < ls.length
    · have hsg := Hs.out.below hbk (Nat.le_refl _)
      obtain ⟨b, off, A', c', rfl, hcell, hri, -, hc1, hc2⟩ := hsg.one hlt
      have hf := HF.out k
      have hk1 : (k : Int) < (ls.length : Int) := by omega
      have HT : Hid (lensL (ls.take (k + 1)) = lensL (ls.take k) ++ put4 (seg ls k).length) := Lib.hid (by rw [take_succ_seg _ _ hlt, lensL_append, lensL_one])
      have HL : Hid ((put4 ((ls.length : Int) - 1) ++ lensL (ls.take k)).length = 4 + 4 * k) := Lib.hid (by rw [List.length_append, put4_length, lensL_length, List.length_take]; omega)
      have hsz := hbk.size
      have HB := Lib.hid hbk
      have HG := Lib.hid hgk
      clear hsg hri hbk hgk
      go_wp2_with fail
      refine (put_any _ _ _ w.heap.size _ HG.out hsz (by rw [HL.out]; omega) (by omega) (by omega)).mono ?_
      rintro e w2 ⟨v2, rfl, hg2, hb2⟩
      have HG2 := Lib.hid hg2
      have HB2 := Lib.hid hb2
      clear hg2 hb2
      go_wp2
      go_roundw
      case rel => exact ⟨k + 1, by omega, by go_num, HG2.out.cast rfl (by rw [HT.out, List.append_assoc]), HB.out.trans HB2.out⟩
      case measure => simp [intOf]; omega
    · obtain rfl : k = ls.length := by omega
      rw [List.take_length] at hgk
      have HB := Lib.hid hbk
      have hsz := hbk.size
      have HL : Hid ((put4 ((ls.length : Int) - 1) ++ lensL ls).length = 4 + 4 * ls.length) := Lib.hid (by rw [List.length_append, put4_length, lensL_length])
      clear hbk
      by_cases hev : ls.length % 2 = 0
      · have t1 : ((ls.length : Int) % 2 == 0) = true := by rw [beq_iff_eq]; omega
        have HH : Hid (headL ls = put4 ((ls.length : Int) - 1) ++ lensL ls ++ put4 0) := Lib.hid (by unfold headL padL; rw [if_pos hev])
        have HG := Lib.hid hgk
        clear hgk hev
        go_wp2_with fail
        refine (put_any _ _ _ w.heap.size _ HG.out hsz (by rw [HL.out]; omega) (by omega) (by omega)).mono ?_
        rintro e w2 ⟨v2, rfl, hg2, hb2⟩
        rw [← HH.out] at hg2
        have HG2 := Lib.hid hg2
        have HB2 := Lib.hid (HB.out.trans hb2)
        clear hg2 hb2
        go_wp2
        go_loopw [4, 6] (fun v x wq => ∃ k : Nat, k ≤ ls.length ∧ x = .int .i64 k ∧ Got wq w.heap.size 5 .u8 v (headL ls ++ bodyL (ls.take k)) ∧ Below w.heap.size w wq) (fun _ x _ => ls.length - (intOf x).toNat)
        case atStart => exact ⟨0, by omega, rfl, by simpa [bodyL] using HG2.out, HB2.out⟩
        case round =>
          obtain ⟨k, hk, rfl, hgk, hbk⟩ := hrel
          by_cases hlt : k < ls.length
          · have hsg := Hs.out.below hbk (Nat.le_refl _)
            obtain ⟨b, off, A', c', rfl, hcell, hri, -, hc1, hc2⟩ := hsg.one hlt
            have hf := HF.out k
            have hk1 : (k : Int) < (ls.length : Int) := by omega
            have HT : Hid (bodyL (ls.take (k + 1)) = bodyL (ls.take k) ++ bytesOf (seg ls k)) := Lib.hid (by rw [take_succ_seg _ _ hlt, bodyL_append, bodyL_one])
            have hbl := bodyL_length (ls.take k)
            have hsl := sizeI_le HF.out k hk
            have hkk : (536870911 : Int) * k ≤ 536870911 * 512 := by omega
            have HL : Hid ((headL ls ++ bodyL (ls.take k)).length ≤ 2199023257560) := Lib.hid (by rw [List.length_append]; omega)
            have HBL : Hid ((bytesOf (seg ls k)).length = 8 * (seg ls k).length) := Lib.hid (bytesOf_length _)
            have hsz := hbk.size
            have HBK := Lib.hid hbk
            have HG := Lib.hid hgk
            have HRI := Lib.hid hri
            clear hsg hri hbk hgk hbl hsl hkk
            go_wp2_with fail
            refine (RefBytes_any _ _ _ _ HRI.out (Hw.out.at k) (by omega)).mono ?_
            rintro e w4 ⟨v4, rfl, hg4, hb4⟩
            obtain ⟨A4, c4, rfl, -, -, hr4, hn4⟩ := hg4.full
            have HG4 := Lib.hid (HG.out.below hb4 (Nat.le_refl _))
            have hsz4 := hb4.size
            have HB4 := Lib.hid (HBK.out.trans (hb4.mono hsz))
            have HR4 := Lib.hid hr4
            have HN4 := Lib.hid hn4
            clear hg4 hb4 hr4 hn4
            go_wp2_with (at_builtin; refine wpList_appN rfl (.tmp 44) (.tmp 49) 22 rfl Try.underlying22 hi hz0 hz1 hz2 rfl HG4.out rfl HR4.out HN4.out (by rw [HBL.out]; have := HL.out; unfold maxLen; omega) (by rw [HBL.out]; have := HL.out; omega) (by omega) ?_; intro v5 w5 hg5 hb5)
            go_roundw
            case rel => exact ⟨k + 1, by omega, by go_num, hg5.cast rfl (by rw [HT.out, List.append_assoc]), HB4.out.trans hb5⟩
            case measure => simp [intOf]; omega
          · obtain rfl : k = ls.length := by omega
            rw [List.take_length] at hgk
            go_wp2
            go_ret2
            exact ⟨_, rfl, hgk, hbk⟩
      · have t1 : ((ls.length : Int) % 2 == 0) = false := by rw [beq_eq_false_iff_ne]; omega
        have HH : Hid (headL ls = put4 ((ls.length : Int) - 1) ++ lensL ls) := Lib.hid (by unfold headL padL; rw [if_neg hev, List.append_nil])
        rw [← HH.out] at hgk
        have HG2 := Lib.hid hgk
        have HB2 := Lib.hid HB.out
        clear hgk hev
        go_wp2
        go_loopw [4, 6] (fun v x wq => ∃ k : Nat, k ≤ ls.length ∧ x = .int .i64 k ∧ Got wq w.heap.size 5 .u8 v (headL ls ++ bodyL (ls.take k)) ∧ Below w.heap.size w wq) (fun _ x _ => ls.length - (intOf x).toNat)
        case atStart => exact ⟨0, by omega, rfl, by simpa [bodyL] using HG2.out, HB2.out⟩
        case round =>
          obtain ⟨k, hk, rfl, hgk, hbk⟩ := hrel
          by_cases hlt : k < ls.length
          · have hsg := Hs.out.below hbk (Nat.le_refl _)
            obtain ⟨b, off, A', c', rfl, hcell, hri, -, hc1, hc2⟩ := hsg.one hlt
            have hf := HF.out k
            have hk1 : (k : Int) < (ls.length : Int) := by omega
            have HT : Hid (bodyL (ls.take (k + 1)) = bodyL (ls.take k) ++ bytesOf (seg ls k)) := Lib.hid (by rw [take_succ_seg _ _ hlt, bodyL_append, bodyL_one])
            have hbl := bodyL_length (ls.take k)
            have hsl := sizeI_le HF.out k hk
            have hkk : (536870911 : Int) * k ≤ 536870911 * 512 := by omega
            have HL : Hid ((headL ls ++ bodyL (ls.take k)).length ≤ 2199023257560) := Lib.hid (by rw [List.length_append]; omega)
            have HBL : Hid ((bytesOf (seg ls k)).length = 8 * (seg ls k).length) := Lib.hid (bytesOf_length _)
            have hsz := hbk.size
            have HBK := Lib.hid hbk
            have HG := Lib.hid hgk
            have HRI := Lib.hid hri
            clear hsg hri hbk hgk hbl hsl hkk
            go_wp2_with fail
            refine (RefBytes_any _ _ _ _ HRI.out (Hw.out.at k) (by omega)).mono ?_
            rintro e w4 ⟨v4, rfl, hg4, hb4⟩
            obtain ⟨A4, c4, rfl, -, -, hr4, hn4⟩ := hg4.full
            have HG4 := Lib.hid (HG.out.below hb4 (Nat.le_refl _))
            have hsz4 := hb4.size
            have HB4 := Lib.hid (HBK.out.trans (hb4.mono hsz))
            have HR4 := Lib.hid hr4
            have HN4 := Lib.hid hn4
            clear hg4 hb4 hr4 hn4
            go_wp2_with (at_builtin; refine wpList_appN rfl (.tmp 44) (.tmp 49) 22 rfl Try.underlying22 hi hz0 hz1 hz2 rfl HG4.out rfl HR4.out HN4.out (by rw [HBL.out]; have := HL.out; unfold maxLen; omega) (by rw [HBL.out]; have := HL.out; omega) (by omega) ?_; intro v5 w5 hg5 hb5)
            go_roundw
            case rel => exact ⟨k + 1, by omega, by go_num, hg5.cast rfl (by rw [HT.out, List.append_assoc]), HB4.out.trans hb5⟩
            case measure => simp [intOf]; omega
          · obtain rfl : k = ls.length := by omega
            rw [List.take_length] at hgk
            go_wp2
            go_ret2
            exact ⟨_, rfl, hgk, hbk⟩

/-! ## Parse -/
theorem RefWords_at (A : Option Addr) (c n : Nat) (b : List Int) (w : World) (hr : Ri w .u8 A b) (hb : Bts b) (hn : n = b.length) (h8 : n % 8 = 0) (hm : n ≤ 140737488355328) :
    Calls Try.prog 22 #[.slice A n c] w fun e w' => ∃ v, e = .returned (.tuple #[v, .bool true]) ∧ Got w' w.heap.size 43 .u64 v (wordsOf b) ∧ Below w.heap.size w w' := by
  subst hn
  exact RefWords_yes A c b w hr hb hm h8
def entN (b : List Int) (i : Nat) : Nat := (ent b i).toNat
theorem entN_eq {b : List Int} (hb : Bts b) (i : Nat) : ent b i = (entN b i : Int) := by have := (ent_bd hb i).1; unfold entN; omega
theorem entN_lt {b : List Int} (hb : Bts b) (i : Nat) : entN b i < 4294967296 := by have := (ent_bd hb i).2; have := (ent_bd hb i).1; unfold entN; omega
def atN (b : List Int) (k : Nat) : Nat := (atF b k).toNat
def tblN (n : Nat) : Nat := 8 * (n / 2) + 8
theorem atN_zero {b : List Int} (hb : Bts b) : atN b 0 = tblN (entN b 0 + 1) := by
  have h := entN_eq hb 0
  unfold atN atF tbl cntF tblN
  rw [h]; omega
theorem atN_succ {b : List Int} (hb : Bts b) (k : Nat) : atN b (k + 1) = atN b k + 8 * entN b (k + 1) := by
  have h := entN_eq hb (k + 1)
  have h2 := atF_le hb k
  have h3 := ent_bd hb 0
  have : 0 ≤ tbl (cntF b) := by unfold tbl cntF; omega
  unfold atN
  rw [atF, h]; omega
theorem atF_eq {b : List Int} (hb : Bts b) (k : Nat) : atF b k = (atN b k : Int) := by
  have h2 := atF_le hb k
  have h3 := ent_bd hb 0
  have : 0 ≤ tbl (cntF b) := by unfold tbl cntF; omega
  unfold atN; omega

theorem entry_i (A : Option Addr) (c : Nat) (b : List Int) (i : Int) (w : World) (hr : Ri w .u8 A b) (hb : Bts b) (hm : b.length ≤ 140737488355328) (h0 : 0 ≤ i) (hk : 4 * i + 3 < b.length) :
    Calls Try.prog 21 #[.slice A b.length c, .int .i64 i] w fun e w' => e = .returned (.int .i64 (entN b i.toNat)) ∧ Below w.heap.size w w' := by
  obtain ⟨k, rfl⟩ := Int.eq_ofNat_of_zero_le h0
  exact (entry_any A c b k w hr hb hm (by omega)).mono fun e w' ⟨h1, m, h2⟩ => ⟨h1.trans (by rw [entN_eq hb, Int.toNat_natCast]), by rw [h2]; exact bel_drewN (Below.refl _ _) m⟩

theorem okF_head {b : List Int} (h : ¬ headP b) : okF b = false := by unfold okF; rw [decide_eq_false_iff_not]; exact fun hh => h hh.1
theorem okF_step {b : List Int} {k : Nat} (hk : k < (cntF b).toNat) (h : ¬ stepP b k) : okF b = false := by unfold okF; rw [decide_eq_false_iff_not]; exact fun hh => h (hh.2.1 k hk)
theorem okF_end {b : List Int} (h : ¬ atF b (cntF b).toNat = b.length) : okF b = false := by unfold okF; rw [decide_eq_false_iff_not]; exact fun hh => h hh.2.2
theorem okF_yes {b : List Int} (h1 : headP b) (h2 : ∀ k, k < (cntF b).toNat → stepP b k) (h3 : atF b (cntF b).toNat = b.length) : okF b = true := decide_eq_true ⟨h1, h2, h3⟩
theorem parse_nil {b : List Int} (h : okF b = false) (w : World) (base : Nat) : Ending.returned (.tuple #[.slice none 0 0, .int .i64 1]) = Ending.returned (.tuple #[.slice none 0 0, .int .i64 (errF b)]) ∧ GotS w base (.slice none 0 0) (resF b) := by
  refine ⟨by simp [errF, h], ?_⟩
  simp only [resF, h]
  exact GotS.empty w base

theorem segF_eq (b : List Int) (k : Nat) : segF b k = wordsOf ((b.drop (atN b k)).take (8 * entN b (k + 1))) := rfl

attribute [local irreducible] atN entN

set_option maxHeartbeats 1000000 in
set_option maxRecDepth 100000 in
theorem RefParse_any (A : Option Addr) (c : Nat) (b : List Int) (w : World) (hr : Ri w .u8 A b) (hb : Bts b) (hm : b.length ≤ 140737488355328) (hcap : b.length ≤ c) (hcap2 : c ≤ 9223372036854775807) :
    Calls Try.prog 11 #[.slice A b.length c] w fun e w' => ∃ v, e = .returned (.tuple #[v, .int .i64 (errF b)]) ∧ GotS w' w.heap.size v (resF b) ∧ Below w.heap.size w w' := by
  have Hr := Lib.hid hr
  have Hb := Lib.hid hb
  have HC : Hid (cntF b = ((entN b 0 + 1 : Nat) : Int)) := Lib.hid (by unfold cntF; rw [entN_eq hb]; rfl)
  clear hr hb
  by_cases h4 : b.length < 4
  · have h4' : (b.length : Int) < 4 := by omega
    have HF := Lib.hid (okF_head (b := b) (fun h => by have := h.1; omega))
    go_enter Try.func11, Try.ntmps11
    go_wp2
    go_ret2
    exact ⟨_, (parse_nil HF.out w w.heap.size).1, (parse_nil HF.out w w.heap.size).2, Below.refl _ _⟩
  have h4' : ¬ (b.length : Int) < 4 := by omega
  obtain ⟨g, off, rfl, hcs⟩ := Hr.out.at (i := 0) (by omega)
  clear hcs
  have hn := entN_lt Hb.out 0
  go_enter Try.func11, Try.ntmps11
  go_wp2_with fail
  refine (entry_i _ _ _ _ _ Hr.out Hb.out hm (by omega) (by omega)).mono ?_
  rintro e w1 ⟨rfl, hb1⟩
  rw [show (0 : Int).toNat = 0 from rfl]
  have HB1 := Lib.hid hb1
  clear hb1
  by_cases h512 : 512 < entN b 0 + 1
  · have h5 : (512 : Int) < (entN b 0 : Int) + 1 := by omega
    have HF := Lib.hid (okF_head (b := b) (fun h => by have h2 := h.2.1; rw [HC.out] at h2; omega))
    go_wp2
    go_ret2
    exact ⟨_, (parse_nil HF.out w1 w.heap.size).1, (parse_nil HF.out w1 w.heap.size).2, HB1.out⟩
  have h5 : ¬ (512 : Int) < (entN b 0 : Int) + 1 := by omega
  have t5 : decide ((512 : Int) < (entN b 0 : Int) + 1) = false := by rw [decide_eq_false_iff_not]; exact h5
  go_wp2_with fail
  refine (TableBytes_any _ _ (by omega) (by omega)).mono ?_
  rintro e w' ⟨rfl, rfl⟩
  by_cases htb : (b.length : Int) < 8 * (((entN b 0 : Int) + 1) / 2) + 8
  · have HF := Lib.hid (okF_head (b := b) (fun h => by have h2 := h.2.2.1; rw [HC.out] at h2; unfold tbl at h2; omega))
    go_wp2
    go_ret2
    exact ⟨_, (parse_nil HF.out w1 w.heap.size).1, (parse_nil HF.out w1 w.heap.size).2, HB1.out⟩
  -- PARSE LOOP
  have t4 : decide ((b.length : Int) < 8 * (((entN b 0 : Int) + 1) / 2) + 8) = false := by rw [decide_eq_false_iff_not]; exact htb
  have HTB : Hid (tbl (cntF b) ≤ b.length) := Lib.hid (by rw [HC.out]; unfold tbl; omega)
  by_cases hev : (entN b 0 + 1) % 2 = 0
  · have t1 : (((entN b 0 : Int) + 1) % 2 == 0) = true := by rw [beq_iff_eq]; omega
    have HR1 := Lib.hid (Hr.out.below HB1.out (Nat.le_refl _))
    go_wp2_with fail
    refine (entry_i _ _ _ _ _ HR1.out Hb.out hm (by omega) (by omega)).mono ?_
    rintro e w2 ⟨rfl, hb2⟩
    rw [show ((entN b 0 : Int) + 1 + 1).toNat = entN b 0 + 2 by omega]
    have HB2 := Lib.hid (HB1.out.trans (hb2.mono HB1.out.size))
    clear hb2
    by_cases hpad : entN b (entN b 0 + 2) = 0
    · have t2 : ((entN b (entN b 0 + 2) : Int) != 0) = false := by rw [hpad]; rfl
      have HH : Hid (headP b) := Lib.hid ⟨by omega, by rw [HC.out]; omega, HTB.out, fun _ => by rw [HC.out, Int.toNat_natCast, entN_eq Hb.out, show entN b 0 + 1 + 1 = entN b 0 + 2 by omega, hpad]; rfl⟩
      clear hpad
      go_wp2_with fail
      refine (TableBytes_any _ _ (by omega) (by omega)).mono ?_
      rintro e w' ⟨rfl, rfl⟩
      have HA0 : Hid ((8 * (((entN b 0 : Int) + 1) / 2) + 8) = ((atN b 0 : Nat) : Int)) := Lib.hid (by rw [atN_zero Hb.out]; unfold tblN; omega)
      have hat0 : atN b 0 ≤ b.length := by have := HA0.out; omega
      rw [HA0.out]
      go_wp2
      go_loopw [5, 6, 7] (fun v a i wr => ∃ k : Nat, k ≤ entN b 0 + 1 ∧ i = .int .i64 ((k : Int) + 1) ∧ a = .int .i64 (atN b k) ∧ GotS wr w.heap.size v ((parseL b).take k) ∧ (∀ j, j < k → stepP b j) ∧ atN b k ≤ b.length ∧ Below w.heap.size w wr) (fun _ _ i _ => entN b 0 + 2 - (intOf i).toNat)
      case atStart => exact ⟨0, by omega, rfl, rfl, GotS.empty _ _, by intro j hj; omega, hat0, HB2.out⟩
      case round =>
        obtain ⟨k, hk, rfl, rfl, hgk, hst, hak, hbk⟩ := hrel
        have HST := Lib.hid hst
        have HGK := Lib.hid hgk
        have HBK := Lib.hid hbk
        have hszk := hbk.size
        clear hst hgk hbk
        by_cases hlt : k < entN b 0 + 1
        · have hi1 : (k : Int) + 1 ≤ (entN b 0 : Int) + 1 := by omega
          have HKN : Hid (k < (cntF b).toNat) := Lib.hid (by rw [HC.out]; omega)
          have hek := entN_lt Hb.out (k + 1)
          have HAS := Lib.hid (atN_succ Hb.out k)
          have HRK := Lib.hid (Hr.out.below HBK.out (Nat.le_refl _))
          go_wp2_with fail
          refine (entry_i _ _ _ _ _ HRK.out Hb.out hm (by omega) (by omega)).mono ?_
          rintro e w3 ⟨rfl, hb3⟩
          rw [show ((k : Int) + 1).toNat = k + 1 by omega]
          have HB3 := Lib.hid (HBK.out.trans (hb3.mono hszk))
          have hsz3 := hb3.size
          have HG3 := Lib.hid (HGK.out.below hb3 (Nat.le_refl _))
          have HR3 := Lib.hid (HRK.out.below hb3 (Nat.le_refl _))
          clear hb3
          by_cases hbig : 536870912 ≤ entN b (k + 1)
          · have h6 : (536870912 : Int) ≤ (entN b (k + 1) : Int) := by omega
            have HF := Lib.hid (okF_step (b := b) HKN.out (fun h => by have h2 := h.1; rw [entN_eq Hb.out] at h2; omega))
            go_wp2
            go_ret2
            exact ⟨_, (parse_nil HF.out w3 w.heap.size).1, (parse_nil HF.out w3 w.heap.size).2, HB3.out⟩
          have h6 : ¬ (536870912 : Int) ≤ (entN b (k + 1) : Int) := by omega
          by_cases hov : b.length < atN b k + 8 * entN b (k + 1)
          · have h7 : (b.length : Int) < (atN b k : Int) + 8 * (entN b (k + 1) : Int) := by omega
            have HF := Lib.hid (okF_step (b := b) HKN.out (fun h => by have h2 := h.2; rw [atF_eq Hb.out, HAS.out] at h2; omega))
            go_wp2
            go_ret2
            exact ⟨_, (parse_nil HF.out w3 w.heap.size).1, (parse_nil HF.out w3 w.heap.size).2, HB3.out⟩
          have h7 : ¬ (b.length : Int) < (atN b k : Int) + 8 * (entN b (k + 1) : Int) := by omega
          have HSP : Hid (stepP b k) := Lib.hid ⟨by rw [entN_eq Hb.out]; omega, by rw [atF_eq Hb.out, HAS.out]; omega⟩
          have HSEG : Hid (segF b k = wordsOf ((b.drop (atN b k)).take (8 * entN b (k + 1)))) := Lib.hid (segF_eq b k)
          generalize hS : entN b (k + 1) = s at *
          generalize hA : atN b k = a at *
          have HS0 := Lib.hid hS
          have HA1 := Lib.hid hA
          clear hS hA
          have h8c : (a : Int) + 8 * (s : Int) ≤ (c : Int) := by omega
          have t7 : decide (b.length < a + 8 * s) = false := by rw [decide_eq_false_iff_not]; exact hov
          have t7b : decide ((b.length : Int) < (a : Int) + 8 * (s : Int)) = false := by rw [decide_eq_false_iff_not]; exact h7
          have t6 : decide ((536870912 : Int) ≤ (s : Int)) = false := by rw [decide_eq_false_iff_not]; exact h6
          have HTK : Hid ((parseL b).take (k + 1) = (parseL b).take k ++ [wordsOf ((b.drop a).take (8 * s))]) := Lib.hid (by
            rw [take_succ_seg _ _ (by rw [parseL_length]; exact HKN.out), parseL_seg _ _ HKN.out, HSEG.out])
          have HTL : Hid (((parseL b).take k).length = k) := Lib.hid (by rw [List.length_take, parseL_length]; have := HKN.out; omega)
          have HKB : Hid (k ≤ 512) := Lib.hid (by omega)
          have hll : a + 8 * s ≤ b.length := by omega
          have HLL : Hid (((b.drop a).take (8 * s)).length = 8 * s) := Lib.hid (by rw [List.length_take, List.length_drop]; omega)
          have HBT : Hid (Bts ((b.drop a).take (8 * s))) := Lib.hid (fun z hz => Hb.out z (List.mem_of_mem_drop (List.mem_of_mem_take hz)))
          have HNEXT := Lib.hid hll
          clear hbig hov hek hak hk h7 h6
          by_cases hca : c = a
          · have hs0 : s = 0 := by omega
            have HS1 := Lib.hid hs0
            have HW := Lib.hid (RefWords_at (some ⟨g, off, none⟩) 0 0 ((b.drop a).take (8 * s)) w3 (by rw [HS1.out]; exact .inl rfl) HBT.out (by rw [HLL.out, HS1.out]) (by omega) (by omega))
            clear hs0 hll
            subst hca
            go_wp2_with fail
            (with_reducible refine HW.out.mono ?_)
            rintro e w4 ⟨v4, rfl, hg4, hb4⟩
            obtain ⟨A4, c4, rfl, hq1, hq2, hq3⟩ := hg4.slice
            clear hq1 hq2 hq3
            have hsz4 := hb4.size
            have HG4 := Lib.hid (hg4.mono (Nat.le_trans hszk hsz3))
            have HGS4 := Lib.hid (HG3.out.below hb4 (Nat.le_refl _))
            have HB4 := Lib.hid (HB3.out.trans (hb4.mono (Nat.le_trans hszk hsz3)))
            clear hg4 hb4
            go_wp2_with (at_builtin; refine wpList_appS rfl (.tmp 68) (.tmp 70) 23 rfl Try.underlying23 rfl HGS4.out HG4.out rfl (by rw [HTL.out]; have := HKB.out; omega) (by omega) ?_; intro v5 w5 hg5 hb5)
            go_roundw
            case rel => exact ⟨k + 1, by omega, by go_num, by rw [HAS.out]; go_num, by rw [HTK.out]; exact hg5, fun j hj => by
              by_cases e : j = k
              · subst e; exact HSP.out
              · exact HST.out j (by omega), by rw [HAS.out]; exact HNEXT.out, HB4.out.trans hb5⟩
            case measure => simp [intOf]; omega
          · have HRL := Lib.hid ((HR3.out.drop (n := a) rfl).take (8 * s))
            have HW := Lib.hid (RefWords_at (some ⟨g, off + a, none⟩) (c - a) (8 * s) ((b.drop a).take (8 * s)) w3 HRL.out HBT.out HLL.out.symm (by omega) (by omega))
            have hca2 : ¬ a = c := fun h => hca h.symm
            clear hll
            go_wp2_with fail
            (with_reducible refine HW.out.mono ?_)
            rintro e w4 ⟨v4, rfl, hg4, hb4⟩
            obtain ⟨A4, c4, rfl, hq1, hq2, hq3⟩ := hg4.slice
            clear hq1 hq2 hq3
            have hsz4 := hb4.size
            have HG4 := Lib.hid (hg4.mono (Nat.le_trans hszk hsz3))
            have HGS4 := Lib.hid (HG3.out.below hb4 (Nat.le_refl _))
            have HB4 := Lib.hid (HB3.out.trans (hb4.mono (Nat.le_trans hszk hsz3)))
            clear hg4 hb4
            go_wp2_with (at_builtin; refine wpList_appS rfl (.tmp 68) (.tmp 70) 23 rfl Try.underlying23 rfl HGS4.out HG4.out rfl (by rw [HTL.out]; have := HKB.out; omega) (by omega) ?_; intro v5 w5 hg5 hb5)
            go_roundw
            case rel => exact ⟨k + 1, by omega, by go_num, by rw [HAS.out]; go_num, by rw [HTK.out]; exact hg5, fun j hj => by
              by_cases e : j = k
              · subst e; exact HSP.out
              · exact HST.out j (by omega), by rw [HAS.out]; exact HNEXT.out, HB4.out.trans hb5⟩
            case measure => simp [intOf]; omega
        · obtain rfl : k = entN b 0 + 1 := by omega
          have hi1 : ¬ (((entN b 0 + 1 : Nat) : Int) + 1 ≤ (entN b 0 : Int) + 1) := by omega
          have HCN : Hid ((cntF b).toNat = entN b 0 + 1) := Lib.hid (by rw [HC.out]; omega)
          by_cases hend : atN b (entN b 0 + 1) = b.length
          · have t9 : ((atN b (entN b 0 + 1) : Int) != (b.length : Int)) = false := by rw [hend]; simp
            have HOK := Lib.hid (okF_yes HH.out (by rw [HCN.out]; exact HST.out) (by rw [HCN.out, atF_eq Hb.out, hend]))
            clear hend
            go_wp2
            go_ret2
            have HE0 : Hid (errF b = 0) := Lib.hid (by simp [errF, HOK.out])
            have h8 := HGK.out
            rw [List.take_of_length_le (by rw [parseL_length, HCN.out]; omega), show parseL b = resF b by simp [resF, HOK.out]] at h8
            exact ⟨_, by rw [HE0.out]; rfl, h8, HBK.out⟩
          · have t9 : ((atN b (entN b 0 + 1) : Int) != (b.length : Int)) = true := by rw [bne_iff_ne]; omega
            have HF := Lib.hid (okF_end (b := b) (by rw [HCN.out, atF_eq Hb.out]; omega))
            clear hend
            go_wp2
            go_ret2
            exact ⟨_, (parse_nil HF.out wr w.heap.size).1, (parse_nil HF.out wr w.heap.size).2, HBK.out⟩
    · have t2 : ((entN b (entN b 0 + 2) : Int) != 0) = true := by rw [bne_iff_ne]; omega
      have HF := Lib.hid (okF_head (b := b) (fun h => by have h2 := h.2.2.2 (by rw [HC.out]; omega); rw [HC.out, Int.toNat_natCast, entN_eq Hb.out, show entN b 0 + 1 + 1 = entN b 0 + 2 by omega] at h2; omega))
      clear hpad
      go_wp2
      go_ret2
      exact ⟨_, (parse_nil HF.out w2 w.heap.size).1, (parse_nil HF.out w2 w.heap.size).2, HB2.out⟩
  · have t1 : (((entN b 0 : Int) + 1) % 2 == 0) = false := by rw [beq_eq_false_iff_ne]; omega
    have HB2 := Lib.hid HB1.out
    have HH : Hid (headP b) := Lib.hid ⟨by omega, by rw [HC.out]; omega, HTB.out, fun h => by rw [HC.out] at h; omega⟩
    go_wp2_with fail
    refine (TableBytes_any _ _ (by omega) (by omega)).mono ?_
    rintro e w' ⟨rfl, rfl⟩
    have HA0 : Hid ((8 * (((entN b 0 : Int) + 1) / 2) + 8) = ((atN b 0 : Nat) : Int)) := Lib.hid (by rw [atN_zero Hb.out]; unfold tblN; omega)
    have hat0 : atN b 0 ≤ b.length := by have := HA0.out; omega
    rw [HA0.out]
    go_wp2
    go_loopw [5, 6, 7] (fun v a i wr => ∃ k : Nat, k ≤ entN b 0 + 1 ∧ i = .int .i64 ((k : Int) + 1) ∧ a = .int .i64 (atN b k) ∧ GotS wr w.heap.size v ((parseL b).take k) ∧ (∀ j, j < k → stepP b j) ∧ atN b k ≤ b.length ∧ Below w.heap.size w wr) (fun _ _ i _ => entN b 0 + 2 - (intOf i).toNat)
    case atStart => exact ⟨0, by omega, rfl, rfl, GotS.empty _ _, by intro j hj; omega, hat0, HB2.out⟩
    case round =>
      obtain ⟨k, hk, rfl, rfl, hgk, hst, hak, hbk⟩ := hrel
      have HST := Lib.hid hst
      have HGK := Lib.hid hgk
      have HBK := Lib.hid hbk
      have hszk := hbk.size
      clear hst hgk hbk
      by_cases hlt : k < entN b 0 + 1
      · have hi1 : (k : Int) + 1 ≤ (entN b 0 : Int) + 1 := by omega
        have HKN : Hid (k < (cntF b).toNat) := Lib.hid (by rw [HC.out]; omega)
        have hek := entN_lt Hb.out (k + 1)
        have HAS := Lib.hid (atN_succ Hb.out k)
        have HRK := Lib.hid (Hr.out.below HBK.out (Nat.le_refl _))
        go_wp2_with fail
        refine (entry_i _ _ _ _ _ HRK.out Hb.out hm (by omega) (by omega)).mono ?_
        rintro e w3 ⟨rfl, hb3⟩
        rw [show ((k : Int) + 1).toNat = k + 1 by omega]
        have HB3 := Lib.hid (HBK.out.trans (hb3.mono hszk))
        have hsz3 := hb3.size
        have HG3 := Lib.hid (HGK.out.below hb3 (Nat.le_refl _))
        have HR3 := Lib.hid (HRK.out.below hb3 (Nat.le_refl _))
        clear hb3
        by_cases hbig : 536870912 ≤ entN b (k + 1)
        · have h6 : (536870912 : Int) ≤ (entN b (k + 1) : Int) := by omega
          have HF := Lib.hid (okF_step (b := b) HKN.out (fun h => by have h2 := h.1; rw [entN_eq Hb.out] at h2; omega))
          go_wp2
          go_ret2
          exact ⟨_, (parse_nil HF.out w3 w.heap.size).1, (parse_nil HF.out w3 w.heap.size).2, HB3.out⟩
        have h6 : ¬ (536870912 : Int) ≤ (entN b (k + 1) : Int) := by omega
        by_cases hov : b.length < atN b k + 8 * entN b (k + 1)
        · have h7 : (b.length : Int) < (atN b k : Int) + 8 * (entN b (k + 1) : Int) := by omega
          have HF := Lib.hid (okF_step (b := b) HKN.out (fun h => by have h2 := h.2; rw [atF_eq Hb.out, HAS.out] at h2; omega))
          go_wp2
          go_ret2
          exact ⟨_, (parse_nil HF.out w3 w.heap.size).1, (parse_nil HF.out w3 w.heap.size).2, HB3.out⟩
        have h7 : ¬ (b.length : Int) < (atN b k : Int) + 8 * (entN b (k + 1) : Int) := by omega
        have HSP : Hid (stepP b k) := Lib.hid ⟨by rw [entN_eq Hb.out]; omega, by rw [atF_eq Hb.out, HAS.out]; omega⟩
        have HSEG : Hid (segF b k = wordsOf ((b.drop (atN b k)).take (8 * entN b (k + 1)))) := Lib.hid (segF_eq b k)
        generalize hS : entN b (k + 1) = s at *
        generalize hA : atN b k = a at *
        have HS0 := Lib.hid hS
        have HA1 := Lib.hid hA
        clear hS hA
        have h8c : (a : Int) + 8 * (s : Int) ≤ (c : Int) := by omega
        have t7 : decide (b.length < a + 8 * s) = false := by rw [decide_eq_false_iff_not]; exact hov
        have t7b : decide ((b.length : Int) < (a : Int) + 8 * (s : Int)) = false := by rw [decide_eq_false_iff_not]; exact h7
        have t6 : decide ((536870912 : Int) ≤ (s : Int)) = false := by rw [decide_eq_false_iff_not]; exact h6
        have HTK : Hid ((parseL b).take (k + 1) = (parseL b).take k ++ [wordsOf ((b.drop a).take (8 * s))]) := Lib.hid (by
          rw [take_succ_seg _ _ (by rw [parseL_length]; exact HKN.out), parseL_seg _ _ HKN.out, HSEG.out])
        have HTL : Hid (((parseL b).take k).length = k) := Lib.hid (by rw [List.length_take, parseL_length]; have := HKN.out; omega)
        have HKB : Hid (k ≤ 512) := Lib.hid (by omega)
        have hll : a + 8 * s ≤ b.length := by omega
        have HLL : Hid (((b.drop a).take (8 * s)).length = 8 * s) := Lib.hid (by rw [List.length_take, List.length_drop]; omega)
        have HBT : Hid (Bts ((b.drop a).take (8 * s))) := Lib.hid (fun z hz => Hb.out z (List.mem_of_mem_drop (List.mem_of_mem_take hz)))
        have HNEXT := Lib.hid hll
        clear hbig hov hek hak hk h7 h6
        by_cases hca : c = a
        · have hs0 : s = 0 := by omega
          have HS1 := Lib.hid hs0
          have HW := Lib.hid (RefWords_at (some ⟨g, off, none⟩) 0 0 ((b.drop a).take (8 * s)) w3 (by rw [HS1.out]; exact .inl rfl) HBT.out (by rw [HLL.out, HS1.out]) (by omega) (by omega))
          clear hs0 hll
          subst hca
          go_wp2_with fail
          (with_reducible refine HW.out.mono ?_)
          rintro e w4 ⟨v4, rfl, hg4, hb4⟩
          obtain ⟨A4, c4, rfl, hq1, hq2, hq3⟩ := hg4.slice
          clear hq1 hq2 hq3
          have hsz4 := hb4.size
          have HG4 := Lib.hid (hg4.mono (Nat.le_trans hszk hsz3))
          have HGS4 := Lib.hid (HG3.out.below hb4 (Nat.le_refl _))
          have HB4 := Lib.hid (HB3.out.trans (hb4.mono (Nat.le_trans hszk hsz3)))
          clear hg4 hb4
          go_wp2_with (at_builtin; refine wpList_appS rfl (.tmp 68) (.tmp 70) 23 rfl Try.underlying23 rfl HGS4.out HG4.out rfl (by rw [HTL.out]; have := HKB.out; omega) (by omega) ?_; intro v5 w5 hg5 hb5)
          go_roundw
          case rel => exact ⟨k + 1, by omega, by go_num, by rw [HAS.out]; go_num, by rw [HTK.out]; exact hg5, fun j hj => by
            by_cases e : j = k
            · subst e; exact HSP.out
            · exact HST.out j (by omega), by rw [HAS.out]; exact HNEXT.out, HB4.out.trans hb5⟩
          case measure => simp [intOf]; omega
        · have HRL := Lib.hid ((HR3.out.drop (n := a) rfl).take (8 * s))
          have HW := Lib.hid (RefWords_at (some ⟨g, off + a, none⟩) (c - a) (8 * s) ((b.drop a).take (8 * s)) w3 HRL.out HBT.out HLL.out.symm (by omega) (by omega))
          have hca2 : ¬ a = c := fun h => hca h.symm
          clear hll
          go_wp2_with fail
          (with_reducible refine HW.out.mono ?_)
          rintro e w4 ⟨v4, rfl, hg4, hb4⟩
          obtain ⟨A4, c4, rfl, hq1, hq2, hq3⟩ := hg4.slice
          clear hq1 hq2 hq3
          have hsz4 := hb4.size
          have HG4 := Lib.hid (hg4.mono (Nat.le_trans hszk hsz3))
          have HGS4 := Lib.hid (HG3.out.below hb4 (Nat.le_refl _))
          have HB4 := Lib.hid (HB3.out.trans (hb4.mono (Nat.le_trans hszk hsz3)))
          clear hg4 hb4
          go_wp2_with (at_builtin; refine wpList_appS rfl (.tmp 68) (.tmp 70) 23 rfl Try.underlying23 rfl HGS4.out HG4.out rfl (by rw [HTL.out]; have := HKB.out; omega) (by omega) ?_; intro v5 w5 hg5 hb5)
          go_roundw
          case rel => exact ⟨k + 1, by omega, by go_num, by rw [HAS.out]; go_num, by rw [HTK.out]; exact hg5, fun j hj => by
            by_cases e : j = k
            · subst e; exact HSP.out
            · exact HST.out j (by omega), by rw [HAS.out]; exact HNEXT.out, HB4.out.trans hb5⟩
          case measure => simp [intOf]; omega
      · obtain rfl : k = entN b 0 + 1 := by omega
        have hi1 : ¬ (((entN b 0 + 1 : Nat) : Int) + 1 ≤ (entN b 0 : Int) + 1) := by omega
        have HCN : Hid ((cntF b).toNat = entN b 0 + 1) := Lib.hid (by rw [HC.out]; omega)
        by_cases hend : atN b (entN b 0 + 1) = b.length
        · have t9 : ((atN b (entN b 0 + 1) : Int) != (b.length : Int)) = false := by rw [hend]; simp
          have HOK := Lib.hid (okF_yes HH.out (by rw [HCN.out]; exact HST.out) (by rw [HCN.out, atF_eq Hb.out, hend]))
          clear hend
          go_wp2
          go_ret2
          have HE0 : Hid (errF b = 0) := Lib.hid (by simp [errF, HOK.out])
          have h8 := HGK.out
          rw [List.take_of_length_le (by rw [parseL_length, HCN.out]; omega), show parseL b = resF b by simp [resF, HOK.out]] at h8
          exact ⟨_, by rw [HE0.out]; rfl, h8, HBK.out⟩
        · have t9 : ((atN b (entN b 0 + 1) : Int) != (b.length : Int)) = true := by rw [bne_iff_ne]; omega
          have HF := Lib.hid (okF_end (b := b) (by rw [HCN.out, atF_eq Hb.out]; omega))
          clear hend
          go_wp2
          go_ret2
          exact ⟨_, (parse_nil HF.out wr w.heap.size).1, (parse_nil HF.out wr w.heap.size).2, HBK.out⟩
end Go.Proofs.Ytmnhodbppadpdaa
