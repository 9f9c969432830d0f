/- The reference functions of layer 18. -/
import Derived.Test.YtekcmifgdlmljaaFnv
import Derived.Test.YtekcmifgdlmljaaRef01
namespace Go.Proofs.Ytekcmifgdlmljaa
open Go.ChangeShapes Go.WideShapes Go.ChangeAt Go.RowKit
set_option linter.unusedVariables false
set_option linter.unusedSimpArgs false
set_option maxRecDepth 100000

theorem p2_nat (k : Nat) : p2 k = ((2 ^ k : Nat) : Int) := by
  unfold p2
  rw [Int.toNat_natCast]
  simp
theorem xorN_step (L C k : Nat) : (xorN L C (k + 1) : Int) = xorN L C k + if (L : Int) / p2 k % 2 ≠ (C : Int) / p2 k % 2 then p2 k else 0 := by
  rw [p2_nat]
  have e1 : (L : Int) / ((2 ^ k : Nat) : Int) % 2 = ((L / 2 ^ k % 2 : Nat) : Int) := by norm_cast
  have e2 : (C : Int) / ((2 ^ k : Nat) : Int) % 2 = ((C / 2 ^ k % 2 : Nat) : Int) := by norm_cast
  rw [e1, e2]
  simp only [xorN]
  by_cases h : L / 2 ^ k % 2 = C / 2 ^ k % 2
  · rw [if_neg (fun hh => hh h), if_neg (fun hh => hh (by rw [h]))]; simp
  · rw [if_pos h, if_pos (fun hh => h (by omega))]; simp
theorem fnvB_ref (X : Int) : ((X * 1099511627776 % 18446744073709551616 + X * 256 % 18446744073709551616) % 18446744073709551616 + X * 179 % 18446744073709551616) % 18446744073709551616 = X * 1099511628211 % 18446744073709551616 := by omega
theorem Pow_q (n : Int) (w : World) (h0 : 0 ≤ n) (h1 : n ≤ 63) : Calls Try.prog 16 #[.int .i64 n] w fun e w' => e = .returned (.int .u64 (p2 n)) ∧ w' = w :=
  (Pow_any n w h0 h1).mono fun e w' h => ⟨h.1, h.2.symm⟩
set_option maxHeartbeats 2000000 in
theorem RefAdd18_any (s : Int) (A : Option Addr) (c : Nat) (b : List Int) (w : World) (hs0 : 0 ≤ s) (hs1 : s < 18446744073709551616) (hr : Ri w .u8 A b) (hb : Bts b) (hm : b.length ≤ 1099511627776) :
    Calls Try.prog 9 #[.int .u64 s, .slice A b.length c] w fun e w' => e = .returned (.int .u64 (fnvA s b)) ∧ ∃ m, w' = w.drewN m := by
  have HR := Lib.hid hr
  have HB := Lib.hid hb
  have HS0 := Lib.hid (And.intro hs0 hs1)
  have HT : Hid (∀ j (hj : j < b.length), fnvA s (b.take (j + 1)) = fnvB (fnvA s (b.take j)) (zat b j)) := Lib.hid (fun j hj => by
    rw [List.take_succ_eq_append_getElem hj, fnvA_app]
    have : b[j] = zat b j := by simp [zat, List.getD_eq_getElem?_getD, hj]
    rw [this]
    rfl)
  have HBD := Lib.hid (fun j => fnvA_bd (b.take j) s hs0 hs1)
  clear hr hb
  go_enter Try.func9, Try.ntmps9
  go_wp2
  go_loopw [0, 5] (fun v i wr => ∃ j : Nat, j ≤ b.length ∧ i = .int .i64 j ∧ v = .int .u64 (fnvA s (b.take j)) ∧ ∃ m, wr = w.drewN m) (fun _ i _ => b.length - (intOf i).toNat)
  case atStart => exact ⟨0, by omega, rfl, rfl, 0, rfl⟩
  case round =>
    obtain ⟨j, hj, rfl, rfl, hwr⟩ := hrel
    have HRW : Hid (Ri wr .u8 A b) := Lib.hid (by obtain ⟨m, rfl⟩ := hwr; exact HR.out.drewN m)
    have HWR := Lib.hid hwr
    clear hwr
    by_cases hlt : j < b.length
    · have hlt' : (j : Int) < (b.length : Int) := by omega
      obtain ⟨g, off, rfl, hc⟩ := HRW.out.at hlt
      have hcj := hc j hlt
      have hbj := HB.out.at j
      have hbd := HBD.out j
      have HN := Lib.hid (HT.out j hlt)
      obtain ⟨nx, hnx⟩ : ∃ nx, fnvA s (b.take (j + 1)) = nx := ⟨_, rfl⟩
      rw [hnx] at HN
      have HNN := Lib.hid hnx
      clear hnx
      generalize fnvA s (b.take j) = st at *
      obtain ⟨C, hC⟩ : ∃ C : Nat, zat b j = (C : Int) := ⟨(zat b j).toNat, by omega⟩
      obtain ⟨L, hL⟩ : ∃ L : Nat, st % 256 = (L : Int) := ⟨(st % 256).toNat, by omega⟩
      have HX : Hid (fnvX st (C : Int) = st - L + (xorN L C 8 : Nat)) := Lib.hid (by unfold fnvX; rw [hL, Int.toNat_natCast, Int.toNat_natCast])
      rw [hC] at hcj hbj HN
      have hCb : C < 256 := by omega
      have hLb : L < 256 := by omega
      have HLS : Hid (0 ≤ st - (L : Int)) := Lib.hid (by omega)
      have HXB := Lib.hid (fnvX_bd (c := C) hbd.1 hbd.2)
      have HL := Lib.hid hL
      clear hc hC
      go_wp2
      rw [HL.out]
      go_loopw [7, 9] (fun x i wr => ∃ k : Nat, k ≤ 8 ∧ i = .int .i64 k ∧ x = .int .u64 (xorN L C k : Nat) ∧ ∃ m, wr = w.drewN m) (fun _ i _ => 8 - (intOf i).toNat)
      case atStart => exact ⟨0, by omega, rfl, rfl, HWR.out⟩
      case round =>
        clear hL hcj
        obtain ⟨k, hk, rfl, rfl, hwr2⟩ := hrel
        have HW2 := Lib.hid hwr2
        clear hwr2
        by_cases hk8 : k < 8
        · have hk8' : (k : Int) < 8 := by omega
          have hp1 := p2_pos k
          have hp2 := p2_bd (k : Int) (by omega)
          have hst := xorN_step L C k
          obtain ⟨la, hla⟩ : ∃ la : Nat, (L : Int) / p2 k = (la : Int) := ⟨L / 2 ^ k, by rw [p2_nat]; norm_cast⟩
          obtain ⟨ca, hca⟩ : ∃ ca : Nat, (C : Int) / p2 k = (ca : Int) := ⟨C / 2 ^ k, by rw [p2_nat]; norm_cast⟩
          have hlb : (la : Int) ≤ L := by rw [← hla]; exact Int.ediv_le_self _ (by omega)
          have hcb : (ca : Int) ≤ C := by rw [← hca]; exact Int.ediv_le_self _ (by omega)
          rw [hla, hca] at hst
          have hxb : xorN L C k < 256 := Nat.lt_of_lt_of_le (xorN_lt L C k) (Nat.pow_le_pow_right (by decide) (show k ≤ 8 by omega))
          by_cases hne : (la : Int) % 2 = (ca : Int) % 2
          · rw [if_neg (by simpa using hne)] at hst
            have t1 : ((la : Int) % 2 != (ca : Int) % 2) = false := by simp [hne]
            have HST := Lib.hid hst
            clear hne hst
            go_wp2
            go_quiet ((go_at_call 16; exact Calls.quiet_of_same (Pow_q (k : Int) _ (by omega) (by omega))))
            go_wp2
            go_roundw
            case rel => exact ⟨k + 1, by omega, by go_num, by rw [HST.out]; simp, by obtain ⟨m, h⟩ := HW2.out; exact ⟨_, by rw [h, World.drewN_drewN]⟩⟩
            case measure => simp [intOf]; omega
          · rw [if_pos hne] at hst
            have t1 : ((la : Int) % 2 != (ca : Int) % 2) = true := by simp [hne]
            have HST := Lib.hid hst
            clear hne hst
            go_wp2
            go_quiet ((go_at_call 16; exact Calls.quiet_of_same (Pow_q (k : Int) _ (by omega) (by omega))))
            go_wp2_with fail
            refine (Pow_any _ _ (by omega) (by omega)).mono ?_
            rintro e w' ⟨rfl, rfl⟩
            go_wp2
            go_roundw
            case rel => exact ⟨k + 1, by omega, by go_num, by rw [HST.out], by obtain ⟨m, h⟩ := HW2.out; exact ⟨_, by rw [h, World.drewN_drewN]⟩⟩
            case measure => simp [intOf]; omega
        · obtain rfl : k = 8 := by omega
          have hx1 := HLS.out
          have hx2 := HXB.out
          rw [HX.out] at hx2
          have hls : (L : Int) ≤ st := by omega
          generalize hq : xorN L C 8 = q at *
          have HQ := Lib.hid hq
          have HNX : Hid (nx = (st - L + q) * 1099511628211 % 18446744073709551616) := Lib.hid (by rw [HN.out]; unfold fnvB; rw [HX.out])
          clear hq
          go_wp2
          go_roundw
          case rel =>
            refine ⟨j + 1, by omega, by go_num, ?_, HW2.out⟩
            rw [HNN.out, HNX.out]
            congr 1
            have e := HL.out
            simp only [IntKind.wrap_u64]
            omega
          case measure => simp [intOf]; omega
    · obtain rfl : j = b.length := by omega
      go_wp2
      go_ret
      exact ⟨by rw [List.take_length]; rfl, HWR.out⟩
theorem RefSum18_any (A : Option Addr) (c : Nat) (b : List Int) (w : World) (hr : Ri w .u8 A b) (hb : Bts b) (hm : b.length ≤ 1099511627776) :
    Calls Try.prog 11 #[.slice A b.length c] w fun e w' => e = .returned (.int .u64 (fnvA fnvS b)) ∧ ∃ m, w' = w.drewN m := by
  have HA := Lib.hid (RefAdd18_any fnvS A c b w (by decide) (by decide) hr hb hm)
  clear hr hb
  go_enter Try.func11, Try.ntmps11
  go_wp2_with fail
  refine HA.out.mono ?_
  rintro e w' ⟨rfl, h⟩
  have H := Lib.hid h
  clear h
  go_wp2
  go_ret
  exact ⟨rfl, H.out⟩
theorem RefSum18_w (A : Option Addr) (c n : Nat) (b : List Int) (v : Int) (w : World) (hl : b.length = n) (hv : fnvA fnvS b = v) (hr : Ri w .u8 A b) (hb : Bts b) (hm : n ≤ 1099511627776) :
    Calls Try.prog 11 #[.slice A n c] w fun e w' => e = .returned (.int .u64 v) ∧ Below w.heap.size w w' := by
  subst hl hv
  refine (RefSum18_any A c b w hr hb hm).mono ?_
  rintro e w' ⟨rfl, m, rfl⟩
  exact ⟨rfl, bel_drewN (Below.refl _ _) m⟩
theorem RefAdd18_w (s : Int) (A : Option Addr) (c n : Nat) (b : List Int) (v : Int) (w : World) (hl : b.length = n) (hv : fnvA s b = v) (hs0 : 0 ≤ s) (hs1 : s < 18446744073709551616) (hr : Ri w .u8 A b) (hb : Bts b) (hm : n ≤ 1099511627776) :
    Calls Try.prog 9 #[.int .u64 s, .slice A n c] w fun e w' => e = .returned (.int .u64 v) ∧ Below w.heap.size w w' := by
  subst hl hv
  refine (RefAdd18_any s A c b w hs0 hs1 hr hb hm).mono ?_
  rintro e w' ⟨rfl, m, rfl⟩
  exact ⟨rfl, bel_drewN (Below.refl _ _) m⟩
end Go.Proofs.Ytekcmifgdlmljaa

