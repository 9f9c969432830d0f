/- The texts Word, Ref01 (what is wanted of them), one after the other. -/
import Derived.Test.YtfigoblpkbpenaaDoorMg1
import Derived.Test.YtfigoblpkbpenaaDoorMg2
import Derived.Test.YtfigoblpkbpenaaDoorRows
import Derived.WalkKit
import Derived.ProofKit
import Derived.OpenShut
import Derived.Deep.DeepFit
import Derived.RegionTactic
import Derived.Deep.QuietTactic
import Derived.BigQuiet
/- What the functions of package word do, each by a contract. -/
namespace Go.Proofs.YtfigoblpkbpenaaDoor
open Go.ChangeShapes Go.WideShapes Go.ChangeAt Go.RowKit
set_option linter.unusedVariables false

theorem lowBits_any (n : Int) (w : World) (h1 : 1 ≤ n) (h2 : n ≤ 64) :
    Calls Tryd.prog 74 #[.int .i64 n] w fun e w' => e = .returned (.int .u64 (18446744073709551615 / 2 ^ (64 - n).toNat)) ∧ w = w' := by
  go_enter Tryd.func74, Tryd.ntmps74
  go_wp2
  go_ret
  exact ⟨rfl, rfl⟩

theorem Field_any (x a n : Int) (w : World) (h1 : 1 ≤ n) (h2 : 0 ≤ a) (h3 : a + n ≤ 64) (h5 : 0 ≤ x) (h6 : x < 18446744073709551616) :
    Calls Tryd.prog 66 #[.int .u64 x, .int .i64 a, .int .i64 n] w fun e w' => e = .returned (.int .u64 (fld x a n)) ∧ w = w' := by
  have HF := Lib.hid (fld_go x a n (by omega) (by omega) h5 h6)
  go_enter Tryd.func66, Tryd.ntmps66
  go_wp2_with (go_at_call 74; refine (lowBits_any _ _ (by omega) (by omega)).mono ?_; rintro e w' ⟨rfl, rfl⟩)
  go_ret
  exact ⟨congrArg (fun z => Ending.returned (.int .u64 z)) HF.out, rfl⟩

theorem Insert_any (x a n v : Int) (w : World) (h1 : 1 ≤ n) (h2 : 0 ≤ a) (h3 : a + n ≤ 64) (h5 : 0 ≤ x) (h6 : x < 18446744073709551616) (h7 : 0 ≤ v) (h8 : v < 18446744073709551616) :
    Calls Tryd.prog 65 #[.int .u64 x, .int .i64 a, .int .i64 n, .int .u64 v] w fun e w' => e = .returned (.int .u64 (ins x a n v)) ∧ w = w' := by
  have HF := Lib.hid (ins_go x a n v (by omega) h2 h3 h5 h6 h7 h8)
  go_enter Tryd.func65, Tryd.ntmps65
  go_wp2_with (go_at_call 74; refine (lowBits_any _ _ (by omega) (by omega)).mono ?_; rintro e w' ⟨rfl, rfl⟩)
  go_ret
  exact ⟨congrArg (fun z => Ending.returned (.int .u64 z)) HF.out, rfl⟩

theorem Signed_any (x a n : Int) (w : World) (h1 : 1 ≤ n) (h2 : 0 ≤ a) (h3 : a + n ≤ 64) (h5 : 0 ≤ x) (h6 : x < 18446744073709551616) :
    Calls Tryd.prog 75 #[.int .u64 x, .int .i64 a, .int .i64 n] w fun e w' => e = .returned (.int .i64 (sgn x a n)) ∧ w = w' := by
  have hb := fld_bd x a n (by omega)
  have HF := Lib.hid (sgn_go x a n h1 (by omega))
  go_enter Tryd.func75, Tryd.ntmps75
  go_wp2_with (go_at_call 66; refine (Field_any _ _ _ _ h1 h2 h3 h5 h6).mono ?_; rintro e w' ⟨rfl, rfl⟩)
  go_ret
  exact ⟨congrArg (fun z => Ending.returned (.int .i64 z)) HF.out, rfl⟩

theorem decode_any (b off len cap : Nat) (z : Nat → Int) (w : World) (h8 : 8 ≤ len) (hm : len ≤ 9223372036854775807) (hz : ∀ i, i < 8 → 0 ≤ z i ∧ z i < 256)
    (hc : ∀ i, i < 8 → w.cell? ⟨b, off + i, none⟩ = some (.int .u8 (z i))) :
    Calls Tryd.prog 61 #[.slice (some ⟨b, off, none⟩) len cap] w fun e w' => e = .returned (.int .u64 (leF z 8)) ∧ w = w' := by
  have Hc := Lib.hid hc
  clear hc
  have Hz := Lib.hid hz
  clear hz
  go_enter Tryd.func61, Tryd.ntmps61
  go_wp2
  go_loop [3, 5] (fun v i => ∃ k : Nat, k ≤ 8 ∧ i = .int .i64 k ∧ v = .int .u64 (leF z k)) (fun _ i => 8 - (intOf i).toNat)
  case atStart => exact ⟨0, by omega, rfl, rfl⟩
  case round =>
    obtain ⟨k, hk, rfl, rfl⟩ := hrel
    by_cases hlt : k < 8
    · have hcell := Hc.out k hlt
      have hl : (k : Int) < (len : Int) := by omega
      have hzk := Hz.out k hlt
      have hz1 := hzk.1
      have hz2 := hzk.2
      have HS := Lib.hid (leF_step z k hlt Hz.out)
      go_wp2
      go_round
      case rel => exact ⟨k + 1, by omega, by go_num, by rw [HS.out]⟩
      case measure => simp [intOf]; omega
    · obtain rfl : k = 8 := by omega
      go_wp2
      go_ret
      exact ⟨rfl, rfl⟩

/-- is there a word i of the bytes? -/
def hasW (b : List Int) (i : Int) : Bool := decide (0 ≤ i ∧ i < (b.length / 8 : Nat))
def getW (b : List Int) (i : Int) : Int := if hasW b i then wordAt b i.toNat else 0

theorem Get_any (A : Option Addr) (c : Nat) (b : List Int) (i : Int) (w : World) (hr : Ri w .u8 A b) (hb : Bts b) (hm : b.length ≤ 140737488355328) (hc : b.length ≤ c) (hc2 : c ≤ 9223372036854775807)
    (h1 : -9223372036854775808 ≤ i) (h2 : i ≤ 9223372036854775807) :
    Calls Tryd.prog 56 #[.slice A b.length c, .int .i64 i] w fun e w' => e = .returned (.tuple #[.int .u64 (getW b i), .bool (hasW b i)]) ∧ w = w' := by
  have Hr := Lib.hid hr
  clear hr
  have Hb := Lib.hid hb
  clear hb
  by_cases h0 : i < 0
  · have hh : hasW b i = false := by unfold hasW; simp; omega
    have Hf := Lib.hid hh
    clear hh
    go_enter Tryd.func56, Tryd.ntmps56
    go_wp2
    go_ret2
    exact ⟨by simp [getW, Hf.out], rfl⟩
  · by_cases hl : i < (b.length / 8 : Nat)
    · have hh : hasW b i = true := by unfold hasW; simp; omega
      have Hf := Lib.hid hh
      clear hh
      obtain ⟨k, rfl⟩ := Int.eq_ofNat_of_zero_le (by omega : 0 ≤ i)
      have hk : k < b.length / 8 := by omega
      obtain ⟨g, off, rfl, hcell⟩ := Hr.out.at (i := 8 * k) (by omega)
      have HD := Lib.hid (decode_any g (off + 8 * k) (b.length - 8 * k) (c - 8 * k) (fun j => zat b (8 * k + j)) w (by omega) (by omega) (fun j _ => Hb.out.at _)
        (fun j hj => by rw [Nat.add_assoc]; exact hcell (8 * k + j) (by omega)))
      clear hcell
      go_enter Tryd.func56, Tryd.ntmps56
      go_wp2_with (go_at_call 61; refine HD.out.mono ?_; rintro e w' ⟨rfl, rfl⟩)
      go_ret2
      refine ⟨?_, rfl⟩
      have e1 : getW b (k : Int) = wordAt b k := by simp [getW, Hf.out]
      have e2 : leF (fun j => zat b (8 * k + j)) 8 = wordAt b k := rfl
      rw [Hf.out, e1, e2]
      rfl
    · have hh : hasW b i = false := by unfold hasW; simp; omega
      have Hf := Lib.hid hh
      clear hh
      go_enter Tryd.func56, Tryd.ntmps56
      go_wp2
      go_ret2
      exact ⟨by simp [getW, Hf.out], rfl⟩

theorem int8_info : (Tryd.prog.info? 5).map (fun i => (i.zero, i.size, i.bytes)) = some (some (.int .u8 0), 1, 1) := by kernel_rfl
theorem int64_info : (Tryd.prog.info? 32).map (fun i => (i.zero, i.size, i.bytes)) = some (some (.int .u64 0), 1, 8) := by kernel_rfl

end Go.Proofs.YtfigoblpkbpenaaDoor

/- What the reference functions of layer 1 do, each by a contract. -/
namespace Go.Proofs.YtfigoblpkbpenaaDoor
open Go.ChangeShapes Go.WideShapes Go.ChangeAt Go.RowKit
set_option linter.unusedVariables false

/-- are the two lists the same? -/
def sameB (a b : List Int) : Bool := decide (a = b)

theorem sameB_no (a b : List Int) (k : Nat) (h : zat a k ≠ zat b k) : sameB a b = false := by
  unfold sameB
  simp
  rintro rfl
  exact h rfl

theorem sameB_len (a b : List Int) (h : a.length ≠ b.length) : sameB a b = false := by
  unfold sameB
  simp
  rintro rfl
  exact h rfl

theorem sameB_yes (a b : List Int) (hl : a.length = b.length) (h : ∀ i, i < a.length → zat a i = zat b i) : sameB a b = true := by
  unfold sameB
  simp [ext_zat hl h]

theorem sameB_self (a : List Int) : sameB a a = true := by simp [sameB]

theorem Same_any (A B : Option Addr) (c d : Nat) (a b : List Int) (w : World) (ha : Ri w .u8 A a) (hb : Ri w .u8 B b) (hm : a.length ≤ 9223372036854775807) (hm2 : b.length ≤ 9223372036854775807) :
    Calls Tryd.prog 21 #[.slice A a.length c, .slice B b.length d] w fun e w' => e = .returned (.bool (sameB a b)) ∧ ∃ m, w' = w.drewN m := by
  have Ha := Lib.hid ha
  have Hb := Lib.hid hb
  clear ha hb
  by_cases hl : a.length = b.length
  · have HL := Lib.hid hl
    have hlen : ((a.length : Int) != (b.length : Int)) = false := by simp [hl]
    have hlen2 : ((a.length : Int) == (b.length : Int)) = true := by simp [hl]
    clear hl
    go_enter Tryd.func21, Tryd.ntmps21
    go_wp2
    go_loopw [5] (fun i wr => ∃ k : Nat, k ≤ a.length ∧ i = .int .i64 k ∧ (∀ j, j < k → zat a j = zat b j) ∧ ∃ m, wr = w.drewN m) (fun i _ => a.length - (intOf i).toNat)
    case atStart => exact ⟨0, by omega, rfl, by intro j hj; omega, 0, rfl⟩
    case round =>
      obtain ⟨k, hk, rfl, hsame, m, rfl⟩ := hrel
      have HS := Lib.hid hsame
      clear hsame
      by_cases hlt : k < a.length
      · obtain ⟨g, off, rfl, hc1⟩ := Ha.out.at hlt
        have hc1k := hc1 k hlt
        have hltb : k < b.length := by rw [← HL.out]; exact hlt
        obtain ⟨g', off', rfl, hc2⟩ := Hb.out.at hltb
        have hc2k := hc2 k hltb
        clear hc1 hc2
        have hi1 : (k : Int) < (a.length : Int) := by omega
        have hi2 : (k : Int) < (b.length : Int) := by omega
        by_cases hz : zat a k = zat b k
        · have hz1 : (zat a k != zat b k) = false := by simp [hz]
          have hz2 : (zat a k == zat b k) = true := by simp [hz]
          have HZ := Lib.hid hz
          clear hz
          go_wp2
          go_quiet (fail)
          go_wp2
          go_roundw
          case rel => exact ⟨k + 1, by omega, by go_num, fun j hj => by
            by_cases e : j = k
            · subst e; exact HZ.out
            · exact HS.out j (by omega), _, rfl⟩
          case measure => simp [intOf]; omega
        · have hz1 : (zat a k != zat b k) = true := by simp [hz]
          have hz2 : (zat a k == zat b k) = false := by simp [hz]
          have HZ := Lib.hid hz
          clear hz
          go_wp2
          go_quiet (fail)
          go_wp2
          go_ret
          exact ⟨by rw [sameB_no a b k HZ.out]; rfl, _, World.drewN_drewN _ _ _⟩
      · obtain rfl : k = a.length := by omega
        go_wp2
        go_ret
        exact ⟨by rw [sameB_yes a b HL.out HS.out]; rfl, _, rfl⟩
  · have HL := Lib.hid (sameB_len a b hl)
    have hlen : ((a.length : Int) != (b.length : Int)) = true := by simp; omega
    have hlen2 : ((a.length : Int) == (b.length : Int)) = false := by simp; omega
    clear hl
    go_enter Tryd.func21, Tryd.ntmps21
    go_wp2
    go_ret
    exact ⟨by rw [HL.out]; rfl, 0, rfl⟩


theorem SameWords_any (A B : Option Addr) (c d : Nat) (a b : List Int) (w : World) (ha : Ri w .u64 A a) (hb : Ri w .u64 B b) (hm : a.length ≤ 9223372036854775807) (hm2 : b.length ≤ 9223372036854775807) :
    Calls Tryd.prog 9 #[.slice A a.length c, .slice B b.length d] w fun e w' => e = .returned (.bool (sameB a b)) ∧ ∃ m, w' = w.drewN m := by
  have Ha := Lib.hid ha
  have Hb := Lib.hid hb
  clear ha hb
  by_cases hl : a.length = b.length
  · have HL := Lib.hid hl
    have hlen : ((a.length : Int) != (b.length : Int)) = false := by simp [hl]
    have hlen2 : ((a.length : Int) == (b.length : Int)) = true := by simp [hl]
    clear hl
    go_enter Tryd.func9, Tryd.ntmps9
    go_wp2
    go_loopw [5] (fun i wr => ∃ k : Nat, k ≤ a.length ∧ i = .int .i64 k ∧ (∀ j, j < k → zat a j = zat b j) ∧ ∃ m, wr = w.drewN m) (fun i _ => a.length - (intOf i).toNat)
    case atStart => exact ⟨0, by omega, rfl, by intro j hj; omega, 0, rfl⟩
    case round =>
      obtain ⟨k, hk, rfl, hsame, m, rfl⟩ := hrel
      have HS := Lib.hid hsame
      clear hsame
      by_cases hlt : k < a.length
      · obtain ⟨g, off, rfl, hc1⟩ := Ha.out.at hlt
        have hc1k := hc1 k hlt
        have hltb : k < b.length := by rw [← HL.out]; exact hlt
        obtain ⟨g', off', rfl, hc2⟩ := Hb.out.at hltb
        have hc2k := hc2 k hltb
        clear hc1 hc2
        have hi1 : (k : Int) < (a.length : Int) := by omega
        have hi2 : (k : Int) < (b.length : Int) := by omega
        by_cases hz : zat a k = zat b k
        · have hz1 : (zat a k != zat b k) = false := by simp [hz]
          have hz2 : (zat a k == zat b k) = true := by simp [hz]
          have HZ := Lib.hid hz
          clear hz
          go_wp2
          go_quiet (fail)
          go_wp2
          go_roundw
          case rel => exact ⟨k + 1, by omega, by go_num, fun j hj => by
            by_cases e : j = k
            · subst e; exact HZ.out
            · exact HS.out j (by omega), _, rfl⟩
          case measure => simp [intOf]; omega
        · have hz1 : (zat a k != zat b k) = true := by simp [hz]
          have hz2 : (zat a k == zat b k) = false := by simp [hz]
          have HZ := Lib.hid hz
          clear hz
          go_wp2
          go_quiet (fail)
          go_wp2
          go_ret
          exact ⟨by rw [sameB_no a b k HZ.out]; rfl, _, World.drewN_drewN _ _ _⟩
      · obtain rfl : k = a.length := by omega
        go_wp2
        go_ret
        exact ⟨by rw [sameB_yes a b HL.out HS.out]; rfl, _, rfl⟩
  · have HL := Lib.hid (sameB_len a b hl)
    have hlen : ((a.length : Int) != (b.length : Int)) = true := by simp; omega
    have hlen2 : ((a.length : Int) == (b.length : Int)) = false := by simp; omega
    clear hl
    go_enter Tryd.func9, Tryd.ntmps9
    go_wp2
    go_ret
    exact ⟨by rw [HL.out]; rfl, 0, rfl⟩


/-! ## Numbers -/
def p2 (n : Int) : Int := 2 ^ n.toNat

theorem p2_pos (n : Int) : 1 ≤ p2 n := by
  have : (0 : Int) < 2 ^ n.toNat := Int.pow_pos (by decide)
  unfold p2; omega

theorem p2_bd (n : Int) (h : n ≤ 63) : p2 n ≤ 9223372036854775808 := by
  have := Nat.pow_le_pow_right (n := 2) (by decide) (show n.toNat ≤ 63 by omega)
  have e : (2 : Int) ^ n.toNat = ((2 ^ n.toNat : Nat) : Int) := by simp
  unfold p2
  rw [e]; omega

theorem p2_succ (k : Nat) : p2 ((k : Int) + 1) = p2 k * 2 := by
  unfold p2
  rw [show ((k : Int) + 1).toNat = k + 1 by omega, Int.toNat_natCast, Int.pow_succ]

theorem fld_lt63 (x a n : Int) (h : n ≤ 63) : fld x a n < 9223372036854775808 := by
  have h1 := fld_lt x a n
  have h2 := p2_bd n h
  unfold p2 at h2
  omega

/-- the bytes from place j of a word on, as the reference joins them -/
def tailF (b : List Int) (i j : Nat) : Int := leF (fun t => zat b (8 * i + (j + t))) (8 - j)

theorem tailF_0 (b : List Int) (i : Nat) : tailF b i 0 = wordAt b i := by simp [tailF, wordAt]
theorem tailF_step (b : List Int) (i j : Nat) (h : j < 8) : tailF b i j = tailF b i (j + 1) * 256 + zat b (8 * i + j) := by
  unfold tailF
  rw [show 8 - j = (8 - (j + 1)) + 1 by omega, leF_first]
  simp only [Nat.add_zero]
  congr 2
  apply leF_congr
  intro t _
  congr 1
  omega
theorem tailF_bd {b : List Int} (hb : Bts b) (i j : Nat) : 0 ≤ tailF b i j ∧ tailF b i j < 18446744073709551616 := by
  have h := leF_bd (fun t => zat b (8 * i + (j + t))) (8 - j) (fun t _ => hb.at _)
  have h2 := Nat.pow_le_pow_right (n := 256) (by decide) (show 8 - j ≤ 8 by omega)
  have e : (256 : Int) ^ (8 - j) = ((256 ^ (8 - j) : Nat) : Int) := by simp
  unfold tailF
  rw [e] at h
  omega

theorem RefGet_any (A : Option Addr) (c : Nat) (b : List Int) (i : Int) (w : World) (hr : Ri w .u8 A b) (hb : Bts b) (hm : b.length ≤ 140737488355328)
    (h1 : -9223372036854775808 ≤ i) (h2 : i ≤ 9223372036854775807) :
    Calls Tryd.prog 57 #[.slice A b.length c, .int .i64 i] w fun e w' => e = .returned (.tuple #[.int .u64 (getW b i), .bool (hasW b i)]) ∧ w = w' := by
  have Hr := Lib.hid hr
  clear hr
  have Hb := Lib.hid hb
  clear hb
  by_cases h0 : i < 0
  · have Hf : Hid (hasW b i = false) := Lib.hid (by unfold hasW; simp; omega)
    go_enter Tryd.func57, Tryd.ntmps57
    go_wp2
    go_ret2
    exact ⟨by simp [getW, Hf.out], rfl⟩
  · by_cases hl : i < (b.length / 8 : Nat)
    · have Hf : Hid (hasW b i = true) := Lib.hid (by unfold hasW; simp; omega)
      obtain ⟨I, rfl⟩ := Int.eq_ofNat_of_zero_le (by omega : 0 ≤ i)
      have hk : I < b.length / 8 := by omega
      have hk2 : 8 * I + 8 ≤ b.length := by omega
      obtain ⟨g, off, rfl, hcell⟩ := Hr.out.at (i := 8 * I) (by omega)
      have Hc := Lib.hid hcell
      clear hcell
      go_enter Tryd.func57, Tryd.ntmps57
      go_wp2
      go_loop [6, 7] (fun v t => ∃ j : Nat, j ≤ 8 ∧ t = .int .i64 ((j : Int) - 1) ∧ v = .int .u64 (tailF b I j)) (fun _ t => (intOf t + 1).toNat)
      case atStart => exact ⟨8, by omega, rfl, rfl⟩
      case round =>
        obtain ⟨j, hj, rfl, rfl⟩ := hrel
        cases j with
        | zero =>
          go_wp2
          go_ret2
          refine ⟨?_, rfl⟩
          rw [Hf.out]
          have e1 : getW b (I : Int) = tailF b I 0 := by rw [tailF_0]; simp [getW, Hf.out]
          rw [e1]
          rfl
        | succ j =>
          rw [show (((j + 1 : Nat) : Int) - 1) = (j : Int) by omega]
          have hcell := Hc.out (8 * I + j) (by omega)
          have hz := Hb.out.at (8 * I + j)
          have hb1 := tailF_bd Hb.out I (j + 1)
          have hb2 := tailF_bd Hb.out I j
          have hs := tailF_step b I j (by omega)
          rw [hs] at hb2
          have HS := Lib.hid hs
          clear hs
          have hlt : (8 * (I : Int) + (j : Int)) < (b.length : Int) := by omega
          go_wp2
          go_round
          case rel => exact ⟨j, by omega, rfl, by rw [HS.out]⟩
          case measure => simp [intOf]
    · have Hf : Hid (hasW b i = false) := Lib.hid (by unfold hasW; simp; omega)
      go_enter Tryd.func57, Tryd.ntmps57
      go_wp2
      go_ret2
      exact ⟨by simp [getW, Hf.out], rfl⟩

set_option maxRecDepth 100000 in
theorem RefWords_yes (A : Option Addr) (c : Nat) (b : List Int) (w : World) (hr : Ri w .u8 A b) (hb : Bts b) (hm : b.length ≤ 140737488355328) (h8 : b.length % 8 = 0) :
    Calls Tryd.prog 51 #[.slice A b.length c] w fun e w' => ∃ v, e = .returned (.tuple #[v, .bool true]) ∧ Got w' w.heap.size 32 .u64 v (wordsOf b) ∧ Below w.heap.size w w' := by
  obtain ⟨i0, hi, hz0, hz1, hz2⟩ := info_parts int64_info
  have h8' : ((b.length : Int) % 8 != 0) = false := by simp; omega
  have h8'' : ((b.length : Int) % 8 == 0) = true := by simp; omega
  have Hr := Lib.hid hr
  have Hb := Lib.hid hb
  clear hr hb
  go_enter Tryd.func51, Tryd.ntmps51
  go_wp2
  go_loopw [4, 5] (fun v i wr => ∃ k : Nat, k ≤ b.length / 8 ∧ i = .int .i64 k ∧ Got wr w.heap.size 32 .u64 v ((wordsOf b).take k) ∧ Below w.heap.size w wr) (fun _ i _ => b.length / 8 - (intOf i).toNat)
  case atStart => exact ⟨0, by omega, rfl, Got.empty _ _ _ _, Below.refl _ _⟩
  case round =>
    obtain ⟨k, hk, rfl, hgk, hbk⟩ := hrel
    by_cases hlt : k < b.length / 8
    · have hgw := Lib.hid (RefGet_any A c b k wr (Hr.out.below hbk (Nat.le_refl _)) Hb.out hm (by omega) (by omega))
      have hsz := hbk.size
      have HL : Hid (((wordsOf b).take k).length = k) := Lib.hid (by rw [List.length_take, wordsOf_length]; omega)
      have HB := Lib.hid hbk
      clear hbk
      go_wp2_with (first
        | (go_at_call 57; refine hgw.out.mono ?_; rintro e w' ⟨rfl, rfl⟩)
        | (at_builtin; refine wpList_app1 rfl (.tmp 25) (.tmp 27) 29 rfl Tryd.underlying29 hi hz0 hz1 hz2 rfl hgk rfl (by rw [HL.out]; unfold maxLen; omega) (by rw [HL.out]; omega) hsz ?_; intro v1 w1 hg1 hb1))
      go_roundw
      case rel =>
        refine ⟨k + 1, by omega, by go_num, ?_, HB.out.trans hb1⟩
        have e : getW b (k : Int) = zat (wordsOf b) k := by
          rw [wordsOf_zat _ _ hlt]
          have : hasW b k = true := by unfold hasW; simp; omega
          simp [getW, this]
        rw [take_succ_zat _ _ (by rw [wordsOf_length]; exact hlt), ← e]
        exact hg1
      case measure => simp [intOf]; omega
    · obtain rfl : k = b.length / 8 := by omega
      go_wp2
      go_ret2
      exact ⟨_, rfl, hgk.cast rfl (by rw [List.take_of_length_le (by rw [wordsOf_length]; omega)]), hbk⟩

end Go.Proofs.YtfigoblpkbpenaaDoor
