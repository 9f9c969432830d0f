/- What the reference functions of layer 3 do, each by a contract. -/
import Derived.Test.YtidbbpingbbndaaRef01
import Derived.Test.YtidbbpingbbndaaSecNum
namespace Go.Proofs.Ytidbbpingbbndaa
open Go.ChangeShapes Go.WideShapes Go.ChangeAt Go.RowKit
set_option linter.unusedVariables false
set_option linter.unusedSimpArgs false

/-- the width of a field -/
def widI (k : Int) : Int := zat [1, 8, 16, 32, 64] (k % 5).toNat
theorem widI_cases (k : Int) : widI k = 1 ∨ widI k = 8 ∨ widI k = 16 ∨ widI k = 32 ∨ widI k = 64 := by
  have h : k % 5 = 0 ∨ k % 5 = 1 ∨ k % 5 = 2 ∨ k % 5 = 3 ∨ k % 5 = 4 := by omega
  unfold widI
  rcases h with h | h | h | h | h <;> rw [h] <;> simp [zat]

theorem Width_any (k : Int) (w : World) (h0 : 0 ≤ k) (h1 : k < 256) :
    Calls Try.prog 10 #[.int .u8 k] w fun e w' => e = .returned (.int .i64 (widI k)) ∧ Below w.heap.size w w' := by
  have h : k % 5 = 0 ∨ k % 5 = 1 ∨ k % 5 = 2 ∨ k % 5 = 3 ∨ k % 5 = 4 := by omega
  have hb : Below w.heap.size w (w.alloc (.cells #[.int .i64 1, .int .i64 8, .int .i64 16, .int .i64 32, .int .i64 64] 3)) := (Below.refl _ _).alloc (Nat.le_refl _) _
  have HB := Lib.hid hb
  clear hb
  rcases h with h | h | h | h | h
  all_goals
    have HW : Hid (widI k = _) := Lib.hid (by unfold widI; rw [h])
    go_enter Try.func10, Try.ntmps10
    go_wp2
    go_ret
    exact ⟨by rw [HW.out]; rfl, HB.out⟩

theorem Present_any (A : Option Addr) (c len : Nat) (n i : Int) (w : World) (hn : 1 ≤ n) (hn2 : n ≤ 64) (hl : len ≤ 140737488355328) :
    Calls Try.prog 17 #[.slice A len c, .int .i64 n, .int .i64 i] w fun e w' => e = .returned (.bool (presB len n i)) ∧ w = w' := by
  have q0 : 0 ≤ 8 * (len : Int) / n := Int.ediv_nonneg (by omega) (by omega)
  have q1 : 8 * (len : Int) / n ≤ 8 * (len : Int) := Int.ediv_le_self _ (by omega)
  by_cases h0 : 0 ≤ i
  · have HP : Hid (presB len n i = decide (i ≤ 8 * (len : Int) / n - 1)) := Lib.hid (by simp [presB, h0])
    go_enter Try.func17, Try.ntmps17
    go_wp2
    go_ret
    refine ⟨?_, rfl⟩
    rw [HP.out]
    rfl
  · have HP : Hid (presB len n i = false) := Lib.hid (by simp [presB, h0])
    go_enter Try.func17, Try.ntmps17
    go_wp2
    go_ret
    exact ⟨by rw [HP.out]; rfl, rfl⟩

theorem half (x : Int) (k : Nat) : x / 2 ^ k / 2 = x / 2 ^ (k + 1) := by
  rw [Int.pow_succ, Int.ediv_ediv_of_nonneg (Int.le_of_lt (Int.pow_pos (by decide)))]

theorem bit_any (A : Option Addr) (c : Nat) (b : List Int) (p : Int) (w : World) (hr : Ri w .u8 A b) (hb : Bts b) (hm : b.length ≤ 140737488355328) (hp : 0 ≤ p) (hi : p.toNat / 8 < b.length) :
    Calls Try.prog 28 #[.slice A b.length c, .int .i64 p] w fun e w' => e = .returned (.int .u64 (bitI b p.toNat)) ∧ w = w' := by
  obtain ⟨i, rfl⟩ := Int.eq_ofNat_of_zero_le hp
  rw [Int.toNat_natCast] at *
  obtain ⟨g, off, rfl, hc⟩ := hr.at hi
  have hcell := hc (i / 8) hi
  have hz := hb.at (i / 8)
  have hi2 : ((i / 8 : Nat) : Int) < (b.length : Int) := by omega
  have HB := Lib.hid hb
  clear hc hr hp hb
  go_enter Try.func28, Try.ntmps28
  go_wp2
  go_loop [5, 6] (fun v j => ∃ k : Nat, k ≤ i % 8 ∧ j = .int .i64 k ∧ v = .int .i64 (zat b (i / 8) / 2 ^ k)) (fun _ j => i % 8 - (intOf j).toNat)
  case atStart => exact ⟨0, by omega, rfl, by simp⟩
  case round =>
    obtain ⟨k, hk, rfl, rfl⟩ := hrel
    have hq0 : 0 ≤ zat b (i / 8) / 2 ^ k := Int.ediv_nonneg hz.1 (Int.le_of_lt (Int.pow_pos (by decide)))
    have hq1 : zat b (i / 8) / 2 ^ k ≤ 255 := Int.le_trans (Int.ediv_le_self _ hz.1) (by omega)
    have HH := Lib.hid (half (zat b (i / 8)) k)
    by_cases hlt : k < i % 8
    · have hl2 : (k : Int) < (i : Int) % 8 := by omega
      go_wp2
      go_round
      case rel => exact ⟨k + 1, by omega, by go_num, by rw [← HH.out]⟩
      case measure => simp [intOf]; omega
    · have HK : Hid (k = i % 8) := Lib.hid (by omega)
      have hl2 : ¬ (k : Int) < (i : Int) % 8 := by omega
      go_wp2
      go_ret
      exact ⟨by unfold bitI; rw [← HK.out]; rfl, rfl⟩

theorem Present_yes (A : Option Addr) (c len : Nat) (n i : Int) (w : World) (hn : 1 ≤ n) (hn2 : n ≤ 64) (hl : len ≤ 140737488355328) (h : presB len n i = true) :
    Calls Try.prog 17 #[.slice A len c, .int .i64 n, .int .i64 i] w fun e w' => e = .returned (.bool true) ∧ w = w' :=
  (Present_any A c len n i w hn hn2 hl).mono fun e w' ⟨h1, h2⟩ => ⟨h1.trans (by rw [h]), h2⟩
theorem Present_no (A : Option Addr) (c len : Nat) (n i : Int) (w : World) (hn : 1 ≤ n) (hn2 : n ≤ 64) (hl : len ≤ 140737488355328) (h : presB len n i = false) :
    Calls Try.prog 17 #[.slice A len c, .int .i64 n, .int .i64 i] w fun e w' => e = .returned (.bool false) ∧ w = w' :=
  (Present_any A c len n i w hn hn2 hl).mono fun e w' ⟨h1, h2⟩ => ⟨h1.trans (by rw [h]), h2⟩

theorem fld_one (d : Int) (k : Nat) : fld d k 1 = if d.toNat.testBit k then 1 else 0 := by
  unfold fld fldN
  rw [Int.toNat_natCast, show (1 : Int).toNat = 1 from rfl, Nat.pow_one, bit_num]
  split <;> rfl

/-- the low k bits -/
def lowI (X k : Nat) : Int := ((X % 2 ^ k : Nat) : Int)
theorem lowI_zero (X : Nat) : lowI X 0 = 0 := by simp [lowI, Nat.mod_one]
theorem lowI_all {X n : Nat} (h : X < 2 ^ n) : lowI X n = X := by unfold lowI; rw [Nat.mod_eq_of_lt h]
theorem lowI_step (X k : Nat) : lowI X (k + 1) = lowI X k + (if X.testBit k then 1 else 0) * p2 k := by
  have h := fldN_step X 0 k
  unfold fldN at h
  simp only [Nat.pow_zero, Nat.div_one, Nat.zero_add] at h
  rw [bit_num] at h
  unfold p2 lowI
  rw [Int.toNat_natCast, h]
  split <;> simp
theorem lowI_one {X k : Nat} (h : X.testBit k = true) : lowI X (k + 1) = lowI X k + p2 k := by rw [lowI_step, h]; simp
theorem lowI_nul {X k : Nat} (h : X.testBit k = false) : lowI X (k + 1) = lowI X k := by rw [lowI_step, h]; simp
theorem lowI_bd (X k : Nat) : 0 ≤ lowI X k ∧ lowI X k < p2 k := by
  have := Nat.mod_lt X (Nat.two_pow_pos k)
  unfold p2 lowI
  rw [Int.toNat_natCast]
  have e : (2 : Int) ^ k = ((2 ^ k : Nat) : Int) := by simp
  rw [e]; omega

theorem uintN_bit {b : List Int} {n i d k : Nat} (hk : k < n) : (uintN b n i d).testBit k = ((secN b).testBit (n * i + k) ^^ d.testBit k) := by
  unfold uintN
  rw [Nat.testBit_xor, fldN_bit, Nat.testBit_mod_two_pow]
  simp [hk]
theorem uintN_lt (b : List Int) (n i d : Nat) : uintN b n i d < 2 ^ n := Nat.xor_lt_two_pow (fldN_lt _ _ _) (Nat.mod_lt _ (Nat.two_pow_pos n))

attribute [local irreducible] p2 lowI

/-- the value as a number -/
def uintX (b : List Int) (n i d : Int) : Nat := if presB b.length n i then uintN b n.toNat i.toNat d.toNat else d.toNat % 2 ^ n.toNat
theorem uintX_eq (b : List Int) (n i d : Int) : uintI b n i d = uintX b n i d := by
  unfold uintI uintX
  split
  · rfl
  · unfold fld fldN; simp
theorem uintX_lt (b : List Int) (n i d : Int) : uintX b n i d < 2 ^ n.toNat := by
  unfold uintX
  split
  · exact uintN_lt _ _ _ _
  · exact Nat.mod_lt _ (Nat.two_pow_pos _)
theorem uintX_bit_no {b : List Int} {n i d : Int} (h : presB b.length n i = false) {k : Nat} (hk : k < n.toNat) : (uintX b n i d).testBit k = d.toNat.testBit k := by
  unfold uintX
  rw [h]
  simp [Nat.testBit_mod_two_pow, hk]
theorem uintX_bit_yes {b : List Int} {n i d : Int} (h : presB b.length n i = true) {k : Nat} (hk : k < n.toNat) : (uintX b n i d).testBit k = ((secN b).testBit (n.toNat * i.toNat + k) ^^ d.toNat.testBit k) := by
  unfold uintX
  rw [h, if_pos rfl, uintN_bit hk]

set_option maxHeartbeats 1000000 in
theorem RefUint_no (A : Option Addr) (c : Nat) (b : List Int) (n i d : Int) (w : World) (hm : b.length ≤ 140737488355328) (hn : 1 ≤ n) (hn2 : n ≤ 64) (hd : 0 ≤ d) (hd2 : d < 18446744073709551616) (hp : presB b.length n i = false) :
    Calls Try.prog 14 #[.slice A b.length c, .int .i64 n, .int .i64 i, .int .u64 d] w fun e w' => e = .returned (.int .u64 (uintI b n i d)) ∧ w = w' := by
  have HX : Hid (uintI b n i d = lowI (uintX b n i d) n.toNat) := Lib.hid (by rw [lowI_all (uintX_lt b n i d), uintX_eq])
  have HT := Lib.hid (fun k hk => uintX_bit_no (d := d) hp (k := k) hk)
  have HP := Lib.hid hp
  clear hp
  generalize uintX b n i d = X at *
  obtain ⟨N, rfl⟩ := Int.eq_ofNat_of_zero_le (by omega : 0 ≤ n)
  rw [Int.toNat_natCast] at HX HT
  go_enter Try.func14, Try.ntmps14
  go_wp2
  go_loop [9, 10] (fun v j => ∃ k : Nat, k ≤ N ∧ j = .int .i64 k ∧ v = .int .u64 (lowI X k)) (fun _ j => N - (intOf j).toNat)
  case atStart => exact ⟨0, by omega, rfl, by rw [lowI_zero]⟩
  case round =>
    obtain ⟨k, hk, rfl, rfl⟩ := hrel
    by_cases hlt : k < N
    · have hl0 := lowI_bd X k
      have hp1 := p2_pos k
      have hp2 := p2_bd k (by omega)
      have hl2 : (k : Int) < (N : Int) := by omega
      have HO := Lib.hid (fld_one d k)
      have ht := HT.out k hlt
      cases hbit : d.toNat.testBit k
      · have HS := Lib.hid (lowI_nul (ht.trans hbit))
        rw [hbit] at HO
        clear hbit ht
        go_wp2_with fail
        refine (RefField_any _ _ _ _ (by omega) (by omega) (by omega) hd hd2).mono ?_
        rintro e w' ⟨rfl, rfl⟩
        rw [HO.out]
        go_wp2_with fail
        refine (Present_no _ _ _ _ _ _ hn hn2 hm HP.out).mono ?_
        rintro e w' ⟨rfl, rfl⟩
        go_wp2_with fail
        refine (Pow_any _ _ (by omega) (by omega)).mono ?_
        rintro e w' ⟨rfl, rfl⟩
        go_wp2
        go_round
        case rel => exact ⟨k + 1, by omega, by go_num, by rw [HS.out]⟩
        case measure => simp [intOf]; omega
      · have HS := Lib.hid (lowI_one (ht.trans hbit))
        rw [hbit] at HO
        clear hbit ht
        go_wp2_with fail
        refine (RefField_any _ _ _ _ (by omega) (by omega) (by omega) hd hd2).mono ?_
        rintro e w' ⟨rfl, rfl⟩
        rw [HO.out]
        go_wp2_with fail
        refine (Present_no _ _ _ _ _ _ hn hn2 hm HP.out).mono ?_
        rintro e w' ⟨rfl, rfl⟩
        go_wp2_with fail
        refine (Pow_any _ _ (by omega) (by omega)).mono ?_
        rintro e w' ⟨rfl, rfl⟩
        go_wp2
        go_round
        case rel => exact ⟨k + 1, by omega, by go_num, by rw [HS.out]⟩
        case measure => simp [intOf]; omega
    · obtain rfl : k = N := by omega
      go_wp2
      go_ret
      exact ⟨by rw [HX.out]; rfl, rfl⟩

theorem bit_is (A : Option Addr) (c : Nat) (b : List Int) (p : Int) (x : Bool) (w : World) (hr : Ri w .u8 A b) (hb : Bts b) (hm : b.length ≤ 140737488355328) (hp : 0 ≤ p) (hi : p.toNat / 8 < b.length) (hx : (secN b).testBit p.toNat = x) :
    Calls Try.prog 28 #[.slice A b.length c, .int .i64 p] w fun e w' => e = .returned (.int .u64 (if x then 1 else 0)) ∧ w = w' :=
  (bit_any A c b p w hr hb hm hp hi).mono fun e w' ⟨h1, h2⟩ => ⟨h1.trans (by rw [bitI_eq hb, hx]), h2⟩

set_option maxHeartbeats 2000000 in
theorem RefUint_yes (A : Option Addr) (c : Nat) (b : List Int) (n i d : Int) (w : World) (hr : Ri w .u8 A b) (hb : Bts b) (hm : b.length ≤ 140737488355328) (hn : 1 ≤ n) (hn2 : n ≤ 64) (hd : 0 ≤ d) (hd2 : d < 18446744073709551616) (hp : presB b.length n i = true) :
    Calls Try.prog 14 #[.slice A b.length c, .int .i64 n, .int .i64 i, .int .u64 d] w fun e w' => e = .returned (.int .u64 (uintI b n i d)) ∧ w = w' := by
  have HX : Hid (uintI b n i d = lowI (uintX b n i d) n.toNat) := Lib.hid (by rw [lowI_all (uintX_lt b n i d), uintX_eq])
  have HT := Lib.hid (fun k hk => uintX_bit_yes (d := d) hp (k := k) hk)
  have HP := Lib.hid hp
  have hroom := presB_room hn hp
  have hi0 := hroom.1
  have hroom2 := hroom.2
  have hni : 0 ≤ n * i := Int.mul_nonneg (by omega) hi0
  have Hr := Lib.hid hr
  have Hb := Lib.hid hb
  clear hp hroom hr hb
  generalize uintX b n i d = X at *
  obtain ⟨N, rfl⟩ := Int.eq_ofNat_of_zero_le (by omega : 0 ≤ n)
  have HNI : Hid (N * i.toNat = ((N : Int) * i).toNat) := Lib.hid (by obtain ⟨I, rfl⟩ := Int.eq_ofNat_of_zero_le hi0; rw [← Int.natCast_mul, Int.toNat_natCast, Int.toNat_natCast])
  rw [Int.toNat_natCast] at HX HT
  go_enter Try.func14, Try.ntmps14
  go_wp2
  go_loop [9, 10] (fun v j => ∃ k : Nat, k ≤ N ∧ j = .int .i64 k ∧ v = .int .u64 (lowI X k)) (fun _ j => N - (intOf j).toNat)
  case atStart => exact ⟨0, by omega, rfl, by rw [lowI_zero]⟩
  case round =>
    obtain ⟨k, hk, rfl, rfl⟩ := hrel
    by_cases hlt : k < N
    · have hl0 := lowI_bd X k
      have hp1 := p2_pos k
      have hp2 := p2_bd k (by omega)
      have hl2 : (k : Int) < (N : Int) := by omega
      have HO := Lib.hid (fld_one d k)
      have ht := HT.out k hlt
      have hat : ((N : Int) * i + k).toNat = N * i.toNat + k := by rw [HNI.out]; omega
      have hin : ((N : Int) * i + k).toNat / 8 < b.length := by omega
      rw [← hat] at ht
      have HIN := Lib.hid hin
      clear hat hin
      cases hbit : d.toNat.testBit k
      all_goals
        cases hsb : (secN b).testBit ((N : Int) * i + k).toNat
        all_goals
          rw [hbit, hsb] at ht
          rw [hbit] at HO
          have HC := Lib.hid (bit_is A c b ((N : Int) * i + k) _ w Hr.out Hb.out hm (by omega) HIN.out hsb)
          have HS := Lib.hid (lowI_step X k)
          rw [ht] at HS
          clear hbit ht hsb
          go_wp2_with fail
          refine (RefField_any _ _ _ _ (by omega) (by omega) (by omega) hd hd2).mono ?_
          rintro e w' ⟨rfl, rfl⟩
          rw [HO.out]
          go_wp2_with fail
          refine (Present_yes _ _ _ _ _ _ hn hn2 hm HP.out).mono ?_
          rintro e w' ⟨rfl, rfl⟩
          go_wp2_with fail
          refine HC.out.mono ?_
          rintro e w' ⟨rfl, rfl⟩
          go_wp2_with fail
          refine (Pow_any _ _ (by omega) (by omega)).mono ?_
          rintro e w' ⟨rfl, rfl⟩
          go_wp2
          go_round
          case rel => exact ⟨k + 1, by omega, by go_num, by rw [HS.out]; simp⟩
          case measure => simp [intOf]; omega
    · obtain rfl : k = N := by omega
      go_wp2
      go_ret
      exact ⟨by rw [HX.out]; rfl, rfl⟩

theorem RefUint_any (A : Option Addr) (c : Nat) (b : List Int) (n i d : Int) (w : World) (hr : Ri w .u8 A b) (hb : Bts b) (hm : b.length ≤ 140737488355328) (hn : 1 ≤ n) (hn2 : n ≤ 64) (hd : 0 ≤ d) (hd2 : d < 18446744073709551616) :
    Calls Try.prog 14 #[.slice A b.length c, .int .i64 n, .int .i64 i, .int .u64 d] w fun e w' => e = .returned (.int .u64 (uintI b n i d)) ∧ w = w' := by
  cases hp : presB b.length n i
  · exact RefUint_no A c b n i d w hm hn hn2 hd hd2 hp
  · exact RefUint_yes A c b n i d w hr hb hm hn hn2 hd hd2 hp

theorem RefSet_no (A : Option Addr) (c len : Nat) (n i d v : Int) (w : World) (hm : len ≤ 140737488355328) (hn : 1 ≤ n) (hn2 : n ≤ 64) (hp : presB len n i = false) :
    Calls Try.prog 12 #[.slice A len c, .int .i64 n, .int .i64 i, .int .u64 d, .int .u64 v] w fun e w' => e = .returned (.tuple #[.slice A len c, .bool false]) ∧ w = w' := by
  have HP := Lib.hid hp
  clear hp
  go_enter Try.func12, Try.ntmps12
  go_wp2_with fail
  refine (Present_no _ _ _ _ _ _ hn hn2 hm HP.out).mono ?_
  rintro e w' ⟨rfl, rfl⟩
  go_wp2
  go_ret2
  exact ⟨rfl, rfl⟩

theorem Got.ri {w : World} {base : Nat} {E : TypeId} {k : IntKind} {A : Option Addr} {n c : Nat} {zs : List Int} (h : Got w base E k (.slice A n c) zs) : Ri w k A zs ∧ n = zs.length := by
  obtain ⟨A', c', hv, _, _, hr⟩ := h.slice
  injection hv with h1 h2 h3
  subst h1
  exact ⟨hr, h2⟩

theorem bit_at (A : Option Addr) (len c : Nat) (b : List Int) (p : Int) (x : Bool) (w : World) (hr : Ri w .u8 A b) (hb : Bts b) (hl : len = b.length) (hm : len ≤ 140737488355328) (hp : 0 ≤ p) (hi : p.toNat / 8 < len) (hx : (secN b).testBit p.toNat = x) :
    Calls Try.prog 28 #[.slice A len c, .int .i64 p] w fun e w' => e = .returned (.int .u64 (if x then 1 else 0)) ∧ w = w' := by
  subst hl
  exact bit_is A c b p x w hr hb hm hp hi hx

theorem putN_next {ls : List Int} {S a k W : Nat} (h : ∀ i, (secN ls).testBit i = if i = a + k then W.testBit k else (putN S a k W).testBit i) : secN ls = putN S a (k + 1) W := by
  apply Nat.eq_of_testBit_eq
  intro i
  rw [h i, putN_succ_bit]

/-- what holds of the bytes before round k -/
structure SetInv (b ls : List Int) (a k W : Nat) : Prop where
  len : b.length = ls.length
  bts : Bts ls
  sec : secN ls = putN (secN b) a k W

theorem SetInv.keep {b ls : List Int} {a k W : Nat} (h : SetInv b ls a k W) (x : Bool) (hx : (secN ls).testBit (a + k) = x) (hW : W.testBit k = x) : SetInv b ls a (k + 1) W :=
  ⟨h.len, h.bts, putN_next fun i => by
    by_cases e : i = a + k
    · subst e; rw [if_pos rfl, hx, hW]
    · rw [if_neg e, ← h.sec]⟩
theorem SetInv.up {b ls : List Int} {a k W : Nat} (h : SetInv b ls a k W) (hp : (a + k) / 8 < ls.length) (hx : (secN ls).testBit (a + k) = false) (hW : W.testBit k = true) :
    SetInv b (ls.set ((a + k) / 8) (zat ls ((a + k) / 8) + 2 ^ ((a + k) % 8))) a (k + 1) W := by
  obtain ⟨h1, h2, h3⟩ := set_add h.bts (a + k) hp hx
  refine ⟨by rw [List.length_set]; exact h.len, set_bts h.bts _ _ ⟨h1, h2⟩, putN_next fun i => ?_⟩
  rw [h3 i, hW, h.sec]
theorem SetInv.down {b ls : List Int} {a k W : Nat} (h : SetInv b ls a k W) (hp : (a + k) / 8 < ls.length) (hx : (secN ls).testBit (a + k) = true) (hW : W.testBit k = false) :
    SetInv b (ls.set ((a + k) / 8) (zat ls ((a + k) / 8) - 2 ^ ((a + k) % 8))) a (k + 1) W := by
  obtain ⟨h1, h2, h3⟩ := set_sub h.bts (a + k) hp hx
  refine ⟨by rw [List.length_set]; exact h.len, set_bts h.bts _ _ ⟨h1, h2⟩, putN_next fun i => ?_⟩
  rw [h3 i, hW, h.sec]

theorem p2_8 (x : Int) (h : 0 ≤ x) : p2 (x % 8) = 2 ^ (x.toNat % 8) := by
  unfold p2
  rw [show (x % 8).toNat = x.toNat % 8 by omega]
theorem p2_8_bd (x : Int) (h : 0 ≤ x) : 1 ≤ p2 (x % 8) ∧ p2 (x % 8) ≤ 128 := by
  rw [p2_8 x h]
  have h1 : x.toNat % 8 ≤ 7 := by omega
  have h2 := Nat.pow_le_pow_right (n := 2) (by decide) h1
  have h3 := Nat.two_pow_pos (x.toNat % 8)
  have e : (2 : Int) ^ (x.toNat % 8) = ((2 ^ (x.toNat % 8) : Nat) : Int) := by simp
  rw [e]; omega

set_option maxHeartbeats 4000000 in
set_option maxRecDepth 100000 in
theorem RefSet_yes (A : Option Addr) (c : Nat) (b : List Int) (n i d v : Int) (w : World) (hr : Ri w .u8 A b) (hb : Bts b) (hnil : A = none → c = 0) (hm : b.length ≤ 140737488355328) (hn : 1 ≤ n) (hn2 : n ≤ 64) (hd : 0 ≤ d) (hd2 : d < 18446744073709551616)
    (hv : 0 ≤ v) (hv2 : v < 18446744073709551616) (hp : presB b.length n i = true) :
    Calls Try.prog 12 #[.slice A b.length c, .int .i64 n, .int .i64 i, .int .u64 d, .int .u64 v] w fun e w' => ∃ r, e = .returned (.tuple #[r, .bool true]) ∧ Got w' w.heap.size 5 .u8 r (setL b n i d v) ∧ Below w.heap.size w w' := by
  obtain ⟨i0, hi, hz0, hz1, hz2⟩ := info_parts int8_info
  have HSEC := Lib.hid (setL_sec hb d v hn hp)
  have HLEN := Lib.hid (setL_length b n i d v)
  have HSB := Lib.hid (setL_bts b n i d v)
  have hroom := presB_room hn hp
  have hi0 := hroom.1
  have hroom2 := hroom.2
  have hni : 0 ≤ n * i := Int.mul_nonneg (by omega) hi0
  have HP := Lib.hid hp
  have Hr := Lib.hid hr
  have Hb := Lib.hid hb
  have Hnil := Lib.hid hnil
  clear hp hroom hr hb hnil
  obtain ⟨N, rfl⟩ := Int.eq_ofNat_of_zero_le (by omega : 0 ≤ n)
  have HNI : Hid (N * i.toNat = ((N : Int) * i).toNat) := Lib.hid (by obtain ⟨I, rfl⟩ := Int.eq_ofNat_of_zero_le hi0; rw [← Int.natCast_mul, Int.toNat_natCast, Int.toNat_natCast])
  rw [Int.toNat_natCast] at HSEC
  go_enter Try.func12, Try.ntmps12
  go_wp2_with fail
  refine (Present_yes _ _ _ _ _ _ hn hn2 hm HP.out).mono ?_
  rintro e w' ⟨rfl, rfl⟩
  have HA1 := Lib.hid (Hr.out.alloc (.cells #[] 5))
  go_wp2_with (at_builtin; refine wpList_appN rfl (.tmp 23) (.tmp 24) 22 rfl Try.underlying22 hi hz0 hz1 hz2 rfl (Got.empty_made w 5 .u8 (base := w.heap.size) (Nat.le_refl _)) rfl HA1.out Hnil.out (by unfold maxLen; simp; omega) (by simp; omega) (by simp) ?_; intro v2 w2 hg2 hb2)
  obtain ⟨A2, c2, rfl, _, _, _⟩ := hg2.slice
  rw [List.nil_append] at hg2
  have hg3 := hg2
  rw [List.nil_append]
  obtain ⟨g, rfl, hg0, hg1, _⟩ := hg3.addr (by omega)
  have hb3 : Below w.heap.size w w2 := ((Below.refl _ _).alloc (Nat.le_refl _) _).trans hb2
  have HB2 := Lib.hid hb3
  have HG2 := Lib.hid hg2
  clear hg2 hg3 hb2 hb3
  go_wp2
  go_loopw [13] (fun j wr => ∃ (k : Nat) (ls : List Int), k ≤ N ∧ j = .int .i64 k ∧ Got wr w.heap.size 5 .u8 (.slice (some ⟨g, 0, none⟩) b.length c2) ls ∧ SetInv b ls (N * i.toNat) k (v.toNat ^^^ d.toNat) ∧ Below w.heap.size w wr) (fun j _ => N - (intOf j).toNat)
  case atStart => exact ⟨0, b, by omega, rfl, HG2.out, ⟨rfl, Hb.out, (putN_zero _ _ _).symm⟩, HB2.out⟩
  case round =>
    obtain ⟨k, ls, hk, rfl, hgk, hinv, hbk⟩ := hrel
    by_cases hlt : k < N
    · have hl2 : (k : Int) < (N : Int) := by omega
      have HO1 := Lib.hid (fld_one d k)
      have HO2 := Lib.hid (fld_one v k)
      have hat : ((N : Int) * i + k).toNat = N * i.toNat + k := by rw [HNI.out]; omega
      have hP0 : 0 ≤ (N : Int) * i + k := by omega
      have hP1 : (N : Int) * i + k < 8 * b.length := by omega
      have hin : ((N : Int) * i + k).toNat / 8 < b.length := by omega
      have hW : (v.toNat ^^^ d.toNat).testBit k = (v.toNat.testBit k ^^ d.toNat.testBit k) := Nat.testBit_xor ..
      have hp8 := p2_8_bd ((N : Int) * i + k) hP0
      have HE8 : Hid (p2 (((N : Int) * i + k) % 8) = 2 ^ ((N * i.toNat + k) % 8)) := Lib.hid (by rw [p2_8 _ hP0, hat])
      have HP8 : Hid ((((N : Int) * i + k) / 8).toNat = (N * i.toNat + k) / 8) := Lib.hid (by omega)
      have HL := Lib.hid hinv.len
      have HAT := Lib.hid hat
      have HIN2 : Hid ((N * i.toNat + k) / 8 < ls.length) := Lib.hid (by rw [← hinv.len]; omega)
      have HG := Lib.hid hgk
      have HG2L := Lib.hid (hgk.cast (by rw [hinv.len]) rfl : Got wr w.heap.size 5 .u8 (.slice (some ⟨g, 0, none⟩) ls.length c2) ls)
      have hcell := HG2L.out.cell (((N : Int) * i + k) / 8).toNat (by rw [HP8.out]; exact HIN2.out)
      have hfree := HG2L.out.free (((N : Int) * i + k) / 8).toNat
      have hz := hinv.bts.at (((N : Int) * i + k) / 8).toNat
      have HI := Lib.hid hinv
      have HB := Lib.hid hbk
      have HR := Lib.hid hgk.ri
      cases hsb : (secN ls).testBit (N * i.toNat + k)
      all_goals
        have hsb2 := hsb
        rw [← hat] at hsb2
        have HC := Lib.hid (bit_at (some ⟨g, 0, none⟩) b.length c2 ls ((N : Int) * i + k) _ wr HR.out.1 HI.out.bts HI.out.len hm hP0 hin hsb2)
        have HX := Lib.hid hsb
        clear hsb hsb2
      all_goals
        cases hdb : d.toNat.testBit k
      all_goals
        cases hvb : v.toNat.testBit k
      all_goals
        rw [hdb] at HO1 hW
        rw [hvb] at HO2 hW
        have HW := Lib.hid hW
        clear hW hdb hvb hgk hinv hbk hat hin
      · -- bit 0, default 0, value 0
        go_wp2_with fail
        refine (RefField_any _ _ _ _ (by omega) (by omega) (by omega) hd hd2).mono ?_
        rintro e w' ⟨rfl, rfl⟩
        rw [HO1.out]
        go_wp2_with fail
        refine (RefField_any _ _ _ _ (by omega) (by omega) (by omega) hv hv2).mono ?_
        rintro e w' ⟨rfl, rfl⟩
        rw [HO2.out]
        go_wp2_with fail
        refine (Pow_any _ _ (by omega) (by omega)).mono ?_
        rintro e w' ⟨rfl, rfl⟩
        go_wp2_with fail
        refine HC.out.mono ?_
        rintro e w' ⟨rfl, rfl⟩
        go_wp2_with fail
        refine HC.out.mono ?_
        rintro e w' ⟨rfl, rfl⟩
        go_wp2
        go_roundw
        case rel => exact ⟨k + 1, ls, by omega, by go_num, HG.out, HI.out.keep _ HX.out HW.out, HB.out⟩
        case measure => simp [intOf]; omega
      · -- bit 0, default 0, value 1
        go_wp2_with fail
        refine (RefField_any _ _ _ _ (by omega) (by omega) (by omega) hd hd2).mono ?_
        rintro e w' ⟨rfl, rfl⟩
        rw [HO1.out]
        go_wp2_with fail
        refine (RefField_any _ _ _ _ (by omega) (by omega) (by omega) hv hv2).mono ?_
        rintro e w' ⟨rfl, rfl⟩
        rw [HO2.out]
        go_wp2_with fail
        refine (Pow_any _ _ (by omega) (by omega)).mono ?_
        rintro e w' ⟨rfl, rfl⟩
        go_wp2_with fail
        refine HC.out.mono ?_
        rintro e w' ⟨rfl, rfl⟩
        go_wp2_with fail
        refine HC.out.mono ?_
        rintro e w' ⟨rfl, rfl⟩
        have hup := HI.out.up HIN2.out HX.out HW.out
        have hbt := hup.bts.at ((N * i.toNat + k) / 8)
        rw [zat_set _ _ _ _ HIN2.out, if_pos rfl, ← HP8.out, ← HE8.out] at hbt
        have HU := Lib.hid hup
        clear hup
        go_wp2
        go_roundw
        case rel =>
          refine ⟨k + 1, _, by omega, by go_num, ?_, HU.out, HB.out.setCell (by show w.heap.size ≤ g; omega) _⟩
          rw [← HP8.out]
          exact (HG2L.out.put _ _).cast (by rw [← HL.out]) (by rw [HE8.out])
        case measure => simp [intOf]; omega
      · -- bit 0, default 1, value 0
        go_wp2_with fail
        refine (RefField_any _ _ _ _ (by omega) (by omega) (by omega) hd hd2).mono ?_
        rintro e w' ⟨rfl, rfl⟩
        rw [HO1.out]
        go_wp2_with fail
        refine (RefField_any _ _ _ _ (by omega) (by omega) (by omega) hv hv2).mono ?_
        rintro e w' ⟨rfl, rfl⟩
        rw [HO2.out]
        go_wp2_with fail
        refine (Pow_any _ _ (by omega) (by omega)).mono ?_
        rintro e w' ⟨rfl, rfl⟩
        go_wp2_with fail
        refine HC.out.mono ?_
        rintro e w' ⟨rfl, rfl⟩
        go_wp2_with fail
        refine HC.out.mono ?_
        rintro e w' ⟨rfl, rfl⟩
        have hup := HI.out.up HIN2.out HX.out HW.out
        have hbt := hup.bts.at ((N * i.toNat + k) / 8)
        rw [zat_set _ _ _ _ HIN2.out, if_pos rfl, ← HP8.out, ← HE8.out] at hbt
        have HU := Lib.hid hup
        clear hup
        go_wp2
        go_roundw
        case rel =>
          refine ⟨k + 1, _, by omega, by go_num, ?_, HU.out, HB.out.setCell (by show w.heap.size ≤ g; omega) _⟩
          rw [← HP8.out]
          exact (HG2L.out.put _ _).cast (by rw [← HL.out]) (by rw [HE8.out])
        case measure => simp [intOf]; omega
      · -- bit 0, default 1, value 1
        go_wp2_with fail
        refine (RefField_any _ _ _ _ (by omega) (by omega) (by omega) hd hd2).mono ?_
        rintro e w' ⟨rfl, rfl⟩
        rw [HO1.out]
        go_wp2_with fail
        refine (RefField_any _ _ _ _ (by omega) (by omega) (by omega) hv hv2).mono ?_
        rintro e w' ⟨rfl, rfl⟩
        rw [HO2.out]
        go_wp2_with fail
        refine (Pow_any _ _ (by omega) (by omega)).mono ?_
        rintro e w' ⟨rfl, rfl⟩
        go_wp2_with fail
        refine HC.out.mono ?_
        rintro e w' ⟨rfl, rfl⟩
        go_wp2_with fail
        refine HC.out.mono ?_
        rintro e w' ⟨rfl, rfl⟩
        go_wp2
        go_roundw
        case rel => exact ⟨k + 1, ls, by omega, by go_num, HG.out, HI.out.keep _ HX.out HW.out, HB.out⟩
        case measure => simp [intOf]; omega
      · -- bit 1, default 0, value 0
        go_wp2_with fail
        refine (RefField_any _ _ _ _ (by omega) (by omega) (by omega) hd hd2).mono ?_
        rintro e w' ⟨rfl, rfl⟩
        rw [HO1.out]
        go_wp2_with fail
        refine (RefField_any _ _ _ _ (by omega) (by omega) (by omega) hv hv2).mono ?_
        rintro e w' ⟨rfl, rfl⟩
        rw [HO2.out]
        go_wp2_with fail
        refine (Pow_any _ _ (by omega) (by omega)).mono ?_
        rintro e w' ⟨rfl, rfl⟩
        go_wp2_with fail
        refine HC.out.mono ?_
        rintro e w' ⟨rfl, rfl⟩
        have hdn := HI.out.down HIN2.out HX.out HW.out
        have hbt := hdn.bts.at ((N * i.toNat + k) / 8)
        rw [zat_set _ _ _ _ HIN2.out, if_pos rfl, ← HP8.out, ← HE8.out] at hbt
        have HU := Lib.hid hdn
        clear hdn
        have HU2 : Hid (SetInv b (ls.set (((N : Int) * i + k) / 8).toNat (zat ls (((N : Int) * i + k) / 8).toNat - p2 (((N : Int) * i + k) % 8))) (N * i.toNat) (k + 1) (v.toNat ^^^ d.toNat)) := Lib.hid (by rw [HP8.out, HE8.out]; exact HU.out)
        have HG3 := Lib.hid (HG2L.out.put (((N : Int) * i + k) / 8).toNat (zat ls (((N : Int) * i + k) / 8).toNat - p2 (((N : Int) * i + k) % 8)))
        have HC2 := Lib.hid (bit_at (some ⟨g, 0, none⟩) b.length c2 _ ((N : Int) * i + k) false (wr.setCell ⟨g, (((N : Int) * i + k) / 8).toNat, none⟩ (.int .u8 (zat ls (((N : Int) * i + k) / 8).toNat - p2 (((N : Int) * i + k) % 8)))) HG3.out.ri.1 HU2.out.bts HU2.out.len hm hP0 (by rw [HAT.out]; rw [HL.out]; exact HIN2.out)
          (by rw [HU2.out.sec, HAT.out, putN_succ_bit, if_pos rfl]; exact HW.out))
        go_wp2_with fail
        refine HC2.out.mono ?_
        rintro e w' ⟨rfl, rfl⟩
        go_wp2
        go_roundw
        case rel => exact ⟨k + 1, _, by omega, by go_num, HG3.out.cast (by rw [← HL.out]) rfl, HU2.out, HB.out.setCell (by show w.heap.size ≤ g; omega) _⟩
        case measure => simp [intOf]; omega
      · -- bit 1, default 0, value 1
        go_wp2_with fail
        refine (RefField_any _ _ _ _ (by omega) (by omega) (by omega) hd hd2).mono ?_
        rintro e w' ⟨rfl, rfl⟩
        rw [HO1.out]
        go_wp2_with fail
        refine (RefField_any _ _ _ _ (by omega) (by omega) (by omega) hv hv2).mono ?_
        rintro e w' ⟨rfl, rfl⟩
        rw [HO2.out]
        go_wp2_with fail
        refine (Pow_any _ _ (by omega) (by omega)).mono ?_
        rintro e w' ⟨rfl, rfl⟩
        go_wp2_with fail
        refine HC.out.mono ?_
        rintro e w' ⟨rfl, rfl⟩
        go_wp2_with fail
        refine HC.out.mono ?_
        rintro e w' ⟨rfl, rfl⟩
        go_wp2
        go_roundw
        case rel => exact ⟨k + 1, ls, by omega, by go_num, HG.out, HI.out.keep _ HX.out HW.out, HB.out⟩
        case measure => simp [intOf]; omega
      · -- bit 1, default 1, value 0
        go_wp2_with fail
        refine (RefField_any _ _ _ _ (by omega) (by omega) (by omega) hd hd2).mono ?_
        rintro e w' ⟨rfl, rfl⟩
        rw [HO1.out]
        go_wp2_with fail
        refine (RefField_any _ _ _ _ (by omega) (by omega) (by omega) hv hv2).mono ?_
        rintro e w' ⟨rfl, rfl⟩
        rw [HO2.out]
        go_wp2_with fail
        refine (Pow_any _ _ (by omega) (by omega)).mono ?_
        rintro e w' ⟨rfl, rfl⟩
        go_wp2_with fail
        refine HC.out.mono ?_
        rintro e w' ⟨rfl, rfl⟩
        go_wp2_with fail
        refine HC.out.mono ?_
        rintro e w' ⟨rfl, rfl⟩
        go_wp2
        go_roundw
        case rel => exact ⟨k + 1, ls, by omega, by go_num, HG.out, HI.out.keep _ HX.out HW.out, HB.out⟩
        case measure => simp [intOf]; omega
      · -- bit 1, default 1, value 1
        go_wp2_with fail
        refine (RefField_any _ _ _ _ (by omega) (by omega) (by omega) hd hd2).mono ?_
        rintro e w' ⟨rfl, rfl⟩
        rw [HO1.out]
        go_wp2_with fail
        refine (RefField_any _ _ _ _ (by omega) (by omega) (by omega) hv hv2).mono ?_
        rintro e w' ⟨rfl, rfl⟩
        rw [HO2.out]
        go_wp2_with fail
        refine (Pow_any _ _ (by omega) (by omega)).mono ?_
        rintro e w' ⟨rfl, rfl⟩
        go_wp2_with fail
        refine HC.out.mono ?_
        rintro e w' ⟨rfl, rfl⟩
        have hdn := HI.out.down HIN2.out HX.out HW.out
        have hbt := hdn.bts.at ((N * i.toNat + k) / 8)
        rw [zat_set _ _ _ _ HIN2.out, if_pos rfl, ← HP8.out, ← HE8.out] at hbt
        have HU := Lib.hid hdn
        clear hdn
        have HU2 : Hid (SetInv b (ls.set (((N : Int) * i + k) / 8).toNat (zat ls (((N : Int) * i + k) / 8).toNat - p2 (((N : Int) * i + k) % 8))) (N * i.toNat) (k + 1) (v.toNat ^^^ d.toNat)) := Lib.hid (by rw [HP8.out, HE8.out]; exact HU.out)
        have HG3 := Lib.hid (HG2L.out.put (((N : Int) * i + k) / 8).toNat (zat ls (((N : Int) * i + k) / 8).toNat - p2 (((N : Int) * i + k) % 8)))
        have HC2 := Lib.hid (bit_at (some ⟨g, 0, none⟩) b.length c2 _ ((N : Int) * i + k) false (wr.setCell ⟨g, (((N : Int) * i + k) / 8).toNat, none⟩ (.int .u8 (zat ls (((N : Int) * i + k) / 8).toNat - p2 (((N : Int) * i + k) % 8)))) HG3.out.ri.1 HU2.out.bts HU2.out.len hm hP0 (by rw [HAT.out]; rw [HL.out]; exact HIN2.out)
          (by rw [HU2.out.sec, HAT.out, putN_succ_bit, if_pos rfl]; exact HW.out))
        go_wp2_with fail
        refine HC2.out.mono ?_
        rintro e w' ⟨rfl, rfl⟩
        go_wp2
        go_roundw
        case rel => exact ⟨k + 1, _, by omega, by go_num, HG3.out.cast (by rw [← HL.out]) rfl, HU2.out, HB.out.setCell (by show w.heap.size ≤ g; omega) _⟩
        case measure => simp [intOf]; omega
    · obtain rfl : k = N := by omega
      have hfin : ls = setL b (k : Int) i d v := secN_inj hinv.bts HSB.out (by rw [HLEN.out, hinv.len]) (by rw [hinv.sec, HSEC.out])
      have HFIN := Lib.hid hfin
      clear hfin
      go_wp2
      go_ret2
      exact ⟨_, rfl, hgk.cast rfl HFIN.out, hbk⟩
end Go.Proofs.Ytidbbpingbbndaa
