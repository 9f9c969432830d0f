/- What package fnv's functions do, each by a contract. -/
import Derived.Test.YtekcmifgdlmljaaFnv
import Derived.Test.YtekcmifgdlmljaaRef01
import Derived.Test.YtekcmifgdlmljaaWord
import Derived.Test.YtekcmifgdlmljaaMem
namespace Go.Proofs.Ytekcmifgdlmljaa
open Go.ChangeShapes Go.WideShapes Go.ChangeAt Go.RowKit
set_option linter.unusedVariables false
set_option linter.unusedSimpArgs false
set_option maxRecDepth 100000

theorem xor_low (X Z : Nat) (hz : Z < 256) : X ^^^ Z = X - X % 256 + xorN (X % 256) Z 8 := by
  rw [xorN_xor]
  have e : (2 : Nat) ^ 8 = 256 := by decide
  have h1 : (X ^^^ Z) / 2 ^ 8 = X / 2 ^ 8 ^^^ Z / 2 ^ 8 := Nat.xor_div_two_pow
  have h2 : (X ^^^ Z) % 2 ^ 8 = X % 2 ^ 8 ^^^ Z % 2 ^ 8 := Nat.xor_mod_two_pow
  have h3 : ((X % 256) ^^^ Z) % 2 ^ 8 = (X % 256) % 2 ^ 8 ^^^ Z % 2 ^ 8 := Nat.xor_mod_two_pow
  rw [e] at h1 h2 h3 ⊢
  rw [Nat.mod_mod, ← h2] at h3
  rw [h3, Nat.div_eq_of_lt hz, Nat.xor_zero] at *
  omega
theorem fnvB_go {x z : Int} (h0 : 0 ≤ x) (h1 : x < 18446744073709551616) (hz0 : 0 ≤ z) (hz : z < 256) : IntKind.u64.wrap (bits BinOp.xor IntKind.u64 x z * 1099511628211) = fnvB x z := by
  obtain ⟨X, rfl⟩ := Int.eq_ofNat_of_zero_le h0
  obtain ⟨Z, rfl⟩ := Int.eq_ofNat_of_zero_le hz0
  have e : ((X ^^^ Z : Nat) : Int) = fnvX X Z := by
    rw [xor_low X Z (by omega)]
    unfold fnvX
    have e1 : ((X : Int) % 256).toNat = X % 256 := by omega
    rw [e1, Int.toNat_natCast]
    omega
  rw [bits_xor_u64_nat _ _ (by omega) (by omega), e, IntKind.wrap_u64]
  rfl
theorem fnvA_take (s : Int) (b : List Int) (k : Nat) (hk : k < b.length) : fnvA s (b.take (k + 1)) = fnvB (fnvA s (b.take k)) (zat b k) := by
  have e : b.take (k + 1) = b.take k ++ [zat b k] := by
    rw [List.take_add_one]
    simp [zat, List.getD_eq_getElem?_getD, hk]
  rw [e, fnvA_app]
  rfl
theorem fld_byte (x : Int) (j : Nat) (hx : 0 ≤ x) : fld x (8 * j) 8 = byteOf x j := by
  obtain ⟨X, rfl⟩ := Int.eq_ofNat_of_zero_le hx
  have e : (8 * (j : Int)).toNat = 8 * j := by omega
  unfold fld fldN
  rw [e, ← byteOf_go]
  simp

theorem update_any (s : Int) (A : Option Addr) (c n : Nat) (b : List Int) (w : World) (hn : b.length = n) (hs0 : 0 ≤ s) (hs1 : s < 18446744073709551616) (hr : Ri w .u8 A b) (hb : Bts b) (hm : n ≤ 1099511627776) :
    Calls Try.prog 15 #[.int .u64 s, .slice A n c] w fun e w' => e = .returned (.int .u64 (fnvA s b)) ∧ w = w' := by
  subst hn
  have HR := Lib.hid hr
  have HB := Lib.hid hb
  clear hr hb
  go_enter Try.func15, Try.ntmps15
  go_wp2
  go_loop [0, 9] (fun v i => ∃ k : Nat, k ≤ b.length ∧ i = .int .i64 k ∧ v = .int .u64 (fnvA s (b.take k))) (fun _ i => b.length - (intOf i).toNat)
  case atStart => exact ⟨0, by omega, rfl, rfl⟩
  case round =>
    obtain ⟨k, hk, rfl, rfl⟩ := hrel
    by_cases hlt : k < b.length
    · obtain ⟨g, off, rfl, hcd⟩ := HR.out.at hlt
      have hcell := hcd k hlt
      have hz := HB.out _ (zat_mem hlt)
      have HS := Lib.hid (fnvA_take s b k hlt)
      have hsb := fnvA_bd (b.take k) s hs0 hs1
      have t1 : decide ((k : Int) < (b.length : Int)) = true := by simpa using hlt
      clear hcd
      generalize zat b k = z at *
      generalize fnvA s (b.take k) = x at *
      have HG := Lib.hid (fnvB_go hsb.1 hsb.2 hz.1 hz.2)
      go_wp2
      refine ⟨⟨k + 1, by omega, by go_num, ?_⟩, by simp [intOf]; omega⟩
      rw [HG.out, HS.out]
    · obtain rfl : k = b.length := by omega
      have HL : Hid (fnvA s (b.take b.length) = fnvA s b) := Lib.hid (by rw [List.take_length])
      generalize fnvA s (b.take b.length) = x at *
      go_wp2
      go_ret
      exact ⟨by rw [HL.out]; rfl, rfl⟩

theorem FStart_any (w : World) : Calls Try.prog 14 #[] w fun e w' => e = .returned (.int .u64 14695981039346656037) ∧ Below w.heap.size w w' := by
  go_enter Try.func14, Try.ntmps14
  go_wp2
  go_ret
  exact ⟨rfl, Below.refl _ _⟩
theorem FAdd_any (s : Int) (A : Option Addr) (c : Nat) (b : List Int) (w : World) (hs0 : 0 ≤ s) (hs1 : s < 18446744073709551616) (hr : Ri w .u8 A b) (hb : Bts b) (hm : b.length ≤ 1099511627776) (hc : b.length ≤ c) (hc2 : c ≤ maxLen) (hn : A = none → c = 0) :
    Calls Try.prog 8 #[.int .u64 s, .slice A b.length c] w fun e w' => e = .returned (.int .u64 (fnvA s b)) ∧ Below w.heap.size w w' := by
  have HU := Lib.hid (update_any s A c b.length b w rfl hs0 hs1 hr hb hm)
  clear hr hb
  generalize fnvA s b = v at *
  go_enter Try.func8, Try.ntmps8
  go_wp2_with fail
  refine HU.out.mono ?_
  rintro e w' ⟨rfl, rfl⟩
  go_wp2
  go_ret
  exact ⟨rfl, Below.refl _ _⟩
theorem FSum_any (A : Option Addr) (c : Nat) (b : List Int) (w : World) (hr : Ri w .u8 A b) (hb : Bts b) (hm : b.length ≤ 1099511627776) (hc : b.length ≤ c) (hc2 : c ≤ maxLen) (hn : A = none → c = 0) :
    Calls Try.prog 10 #[.slice A b.length c] w fun e w' => e = .returned (.int .u64 (fnvA fnvS b)) ∧ Below w.heap.size w w' := by
  have HU := Lib.hid (update_any 14695981039346656037 A c b.length b w rfl (by decide) (by decide) hr hb hm)
  have e : fnvA fnvS b = fnvA 14695981039346656037 b := rfl
  rw [e]
  clear hr hb e
  generalize fnvA 14695981039346656037 b = v at *
  go_enter Try.func10, Try.ntmps10
  go_wp2_with fail
  refine HU.out.mono ?_
  rintro e w' ⟨rfl, rfl⟩
  go_wp2
  go_ret
  exact ⟨rfl, Below.refl _ _⟩
theorem FWords_any (A : Option Addr) (c : Nat) (l : List Int) (w : World) (hr : Ri w .u64 A l) (hw : Wds l) (hm : l.length ≤ 1099511627776) (hc : l.length ≤ c) (hc2 : c ≤ maxLen) (hn : A = none → c = 0) :
    Calls Try.prog 12 #[.slice A l.length c] w fun e w' => e = .returned (.int .u64 (fnvA fnvS (bytesOf l))) ∧ Below w.heap.size w w' := by
  have HR := Lib.hid hr
  have HW := Lib.hid hw
  have hw0 : w.heap.size = w.heap.size := rfl
  clear hr hw
  go_enter Try.func12, Try.ntmps12
  go_wp2
  go_loopw [3, 9] (fun v i wr => ∃ k : Nat, k ≤ l.length ∧ i = .int .i64 k ∧ v = .int .u64 (fnvA fnvS (bytesOf (l.take k))) ∧ Below w.heap.size w wr) (fun _ i _ => l.length - (intOf i).toNat)
  case atStart => exact ⟨0, by omega, rfl, rfl, Below.refl _ _⟩
  case round =>
    obtain ⟨k, hk, rfl, rfl, hbr⟩ := hrel
    have HB := Lib.hid hbr
    clear hbr
    by_cases hlt : k < l.length
    · obtain ⟨g, off, rfl, hcd⟩ := (HR.out.below HB.out (Nat.le_refl _)).at hlt
      have hcell := hcd k hlt
      have hz := HW.out _ (zat_mem hlt)
      have HS : Hid (fnvA fnvS (bytesOf (l.take (k + 1))) = fnvA (fnvA fnvS (bytesOf (l.take k))) (bytes8 (zat l k))) := Lib.hid (by rw [bytesOf_take_succ _ _ hlt, fnvA_app])
      have hsb := fnvA_bd (bytesOf (l.take k)) fnvS (by decide) (by decide)
      have t1 : decide ((k : Int) < (l.length : Int)) = true := by simpa using hlt
      clear hcd
      generalize zat l k = z at *
      generalize fnvA fnvS (bytesOf (l.take k)) = x at *
      go_wp2
      rename World => wo
      go_loopw [3, 6] (fun v i wi => ∃ j : Nat, j ≤ 8 ∧ i = .int .i64 (8 * j : Nat) ∧ v = .int .u64 (fnvA x ((bytes8 z).take j)) ∧ Below w.heap.size w wi) (fun _ i _ => 64 - (intOf i).toNat)
      case atStart => exact ⟨0, by omega, rfl, rfl, HB.out⟩
      case round =>
        obtain ⟨j, hj, rfl, rfl, hbi⟩ := hrel
        have HI := Lib.hid hbi
        clear hbi
        by_cases hlj : j < 8
        · have hbd := byteOf_bd z j
          have HJ : Hid (fnvA x ((bytes8 z).take (j + 1)) = fnvA (fnvA x ((bytes8 z).take j)) [byteOf z j]) := Lib.hid (by
            rw [fnvA_take _ _ _ (by rw [bytes8_length]; omega), bytes8_zat _ _ hlj]
            rfl)
          have hsj := fnvA_bd ((bytes8 z).take j) x hsb.1 hsb.2
          have HF : Hid (fld z ((8 * j : Nat) : Int) 8 = byteOf z j) := Lib.hid (by rw [← fld_byte z j hz.1]; rfl)
          have HFC := fun W => Field_any z ((8 * j : Nat) : Int) 8 W (by omega) (by omega) (by omega) hz.1 hz.2
          rw [HF.out] at HFC
          have HFC2 := Lib.hid HFC
          have t2 : decide (((8 * j : Nat) : Int) < 64) = true := by simp; omega
          clear HFC
          generalize byteOf z j = y at *
          generalize fnvA x ((bytes8 z).take j) = s at *
          have hy1 := hbd.1
          have hy2 := hbd.2
          have HL : Hid (∀ (W : World) (T : TypeId), Ri (W.alloc (.cells #[.int .u8 y] T)) .u8 (some ⟨W.heap.size, 0, none⟩) [y]) := Lib.hid (fun (W : World) T => Ri.lit W .u8 [y] T)
          have HU := Lib.hid (fun (W : World) A c h => update_any s A c 1 [y] W rfl hsj.1 hsj.2 h (by intro v hv; simp at hv; subst hv; exact ⟨hy1, hy2⟩) (by omega))
          go_wp2_with fail
          refine (HFC2.out _).mono ?_
          rintro e w' ⟨rfl, rfl⟩
          go_wp2_with fail
          refine (HU.out _ _ 1 (HL.out wr _)).mono ?_
          rintro e w' ⟨rfl, rfl⟩
          go_wp2
          refine ⟨⟨j + 1, by omega, by go_num, by rw [HJ.out], HI.out.alloc HI.out.size _⟩, by simp [intOf]; omega⟩
        · obtain rfl : j = 8 := by omega
          go_wp2
          refine ⟨⟨k + 1, by omega, by go_num, ?_, HI.out⟩, by simp [intOf]; omega⟩
          rw [HS.out, List.take_of_length_le (by rw [bytes8_length]; omega)]
    · obtain rfl : k = l.length := by omega
      have HL : Hid (fnvA fnvS (bytesOf (l.take l.length)) = fnvA fnvS (bytesOf l)) := Lib.hid (by rw [List.take_length])
      generalize fnvA fnvS (bytesOf (l.take l.length)) = x at *
      go_wp2
      go_ret
      exact ⟨by rw [HL.out]; rfl, HB.out⟩
/-! with their parts written out -/
theorem FAdd_w (s : Int) (A : Option Addr) (c n : Nat) (b : List Int) (v : Int) (w : World) (hl : b.length = n) (hv : fnvA s b = v) (hs0 : 0 ≤ s) (hs1 : s < 18446744073709551616) (hr : Ri w .u8 A b) (hb : Bts b) (hm : n ≤ 1099511627776) (hc : n ≤ c) (hc2 : c ≤ maxLen) (hn : A = none → c = 0) :
    Calls Try.prog 8 #[.int .u64 s, .slice A n c] w fun e w' => e = .returned (.int .u64 v) ∧ Below w.heap.size w w' := by
  subst hl hv
  exact FAdd_any s A c b w hs0 hs1 hr hb hm hc hc2 hn
theorem FSum_w (A : Option Addr) (c n : Nat) (b : List Int) (v : Int) (w : World) (hl : b.length = n) (hv : fnvA fnvS b = v) (hr : Ri w .u8 A b) (hb : Bts b) (hm : n ≤ 1099511627776) (hc : n ≤ c) (hc2 : c ≤ maxLen) (hn : A = none → c = 0) :
    Calls Try.prog 10 #[.slice A n c] w fun e w' => e = .returned (.int .u64 v) ∧ Below w.heap.size w w' := by
  subst hl hv
  exact FSum_any A c b w hr hb hm hc hc2 hn
theorem FWords_w (A : Option Addr) (c n : Nat) (l : List Int) (v : Int) (w : World) (hl : l.length = n) (hv : fnvA fnvS (bytesOf l) = v) (hr : Ri w .u64 A l) (hw : Wds l) (hm : n ≤ 1099511627776) (hc : n ≤ c) (hc2 : c ≤ maxLen) (hn : A = none → c = 0) :
    Calls Try.prog 12 #[.slice A n c] w fun e w' => e = .returned (.int .u64 v) ∧ Below w.heap.size w w' := by
  subst hl hv
  exact FWords_any A c l w hr hw hm hc hc2 hn
end Go.Proofs.Ytekcmifgdlmljaa
