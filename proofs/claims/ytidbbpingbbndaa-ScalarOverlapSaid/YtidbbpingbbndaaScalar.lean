/- What the functions of package scalar do, each by a contract. -/
import Derived.Test.YtidbbpingbbndaaRows
import Derived.Test.YtidbbpingbbndaaMem
import Derived.Test.YtidbbpingbbndaaWord
import Derived.Test.YtidbbpingbbndaaScalNum
import Derived.Laws.Externs
import Derived.Lib.SliceRun
namespace Go.Proofs.Ytidbbpingbbndaa
open Go.ChangeShapes Go.WideShapes Go.ChangeAt Go.RowKit
set_option linter.unusedVariables false
set_option linter.unusedSimpArgs false

/-! ## Floating-point values and their bits -/
theorem run_f64bits (b : Nat) (w : World) : (callFunc 20 #[.float .f64 b]).run Try.prog w = .ok (.value (.int .u64 (b : Int))) w := by
  rw [run_callFunc_extern (fn := Try.f20) (e := Extern.MathFloatBits.float64bits) (by kernel_rfl) (by kernel_rfl) (by kernel_rfl) (by kernel_rfl) (by kernel_rfl)]
  rfl
theorem run_f64from (n : Int) (w : World) : (callFunc 18 #[.int .u64 n]).run Try.prog w = .ok (.value (.float .f64 n.toNat)) w := by
  rw [run_callFunc_extern (fn := Try.f18) (e := Extern.MathFloatBits.float64frombits) (by kernel_rfl) (by kernel_rfl) (by kernel_rfl) (by kernel_rfl) (by kernel_rfl)]
  rfl

theorem SameBits_any (a b : Nat) (w : World) :
    Calls Try.prog 22 #[.float .f64 a, .float .f64 b] w fun e w' => e = .returned (.bool ((a : Int) == (b : Int))) ∧ w = w' := by
  have h1 := run_f64bits a
  have h2 := run_f64bits b
  go_enter Try.func22, Try.ntmps22
  go_wp2
  go_ret
  exact ⟨rfl, rfl⟩

/-! ## The parts of a section -/
theorem scLow_any (n : Int) (w : World) (h1 : 1 ≤ n) (h2 : n ≤ 64) :
    Calls Try.prog 30 #[.int .i64 n] w fun e w' => e = .returned (.int .u64 (18446744073709551615 / 2 ^ (64 - n).toNat)) ∧ w = w' := by
  go_enter Try.func30, Try.ntmps30
  go_wp2
  go_ret
  exact ⟨rfl, rfl⟩

theorem scPresent_any (A : Option Addr) (c len : Nat) (n i : Int) (w : World) (hn : 1 ≤ n) (hn2 : n ≤ 64) (hl : len ≤ 140737488355328) :
    Calls Try.prog 25 #[.slice A len c, .int .i64 n, .int .i64 i] w fun e w' => e = .returned (.bool (presB len n i)) ∧ w = w' := by
  have q0 : 0 ≤ 8 * (len : Int) / n := Int.ediv_nonneg (by omega) (by omega)
  have q1 : 8 * (len : Int) / n ≤ 8 * (len : Int) := Int.ediv_le_self _ (by omega)
  by_cases h0 : 0 ≤ i
  · have HP : Hid (presB len n i = decide (i < 8 * (len : Int) / n)) := Lib.hid (by simp [presB, h0]; omega)
    go_enter Try.func25, Try.ntmps25
    go_wp2
    go_ret
    refine ⟨?_, rfl⟩
    rw [HP.out]
    rfl
  · have HP : Hid (presB len n i = false) := Lib.hid (by simp [presB, h0])
    go_enter Try.func25, Try.ntmps25
    go_wp2
    go_ret
    exact ⟨by rw [HP.out]; rfl, rfl⟩

theorem extent_any (g off len cap : Nat) (n i : Int) (F s c : Nat) (w : World) (hl : Lies len n i F s c) (hn : 1 ≤ n) (hn2 : n ≤ 64) (hm : len ≤ 140737488355328) (hc : len ≤ cap) (hc2 : cap ≤ 9223372036854775807) :
    Calls Try.prog 31 #[.slice (some ⟨g, off, none⟩) len cap, .int .i64 n, .int .i64 i] w fun e w' => e = .returned (.tuple #[.slice (some ⟨g, off + F, none⟩) c (cap - F), .int .u64 s]) ∧ w = w' := by
  have h1 := hl.first
  have h2 := hl.shift
  have h3 := hl.count
  have h4 := hl.room
  have h5 := hl.ni_ge
  have h6 := hl.ni_le
  have h7 := hl.c_pos
  have h8 := hl.s_lt
  have h9 := hl.i_ge
  have hi : i ≤ n * i := by
    have := Int.mul_le_mul_of_nonneg_right hn h9
    omega
  clear hl
  generalize hN : n * i = N at *
  go_enter Try.func31, Try.ntmps31
  go_wp2
  rw [show F + c - F = c by omega]
  go_ret2
  exact ⟨rfl, rfl⟩

/-- the stored bits of a present field, below those that follow it in its byte -/
theorem load_any (A : Option Addr) (cap : Nat) (b : List Int) (n i : Int) (F s c : Nat) (w : World) (hr : Ri w .u8 A b) (hb : Bts b) (hl : Lies b.length n i F s c) (hn : 1 ≤ n) (hn2 : n ≤ 64) (hm : b.length ≤ 140737488355328) (hc : b.length ≤ cap) (hc2 : cap ≤ 9223372036854775807) :
    Calls Try.prog 29 #[.slice A b.length cap, .int .i64 n, .int .i64 i] w fun e w' => e = .returned (.int .u64 (leF (fun j => zat b (F + j)) c / 2 ^ s)) ∧ w = w' := by
  obtain ⟨g, off, rfl, hcell⟩ := hr.at (i := 0) (by have := hl.room; have := hl.c_pos; omega)
  have HX := Lib.hid (extent_any g off b.length cap n i F s c w hl hn hn2 hm hc hc2)
  have Hc := Lib.hid hcell
  have Hb := Lib.hid hb
  have hroom := hl.room
  have hc8 := hl.c_le
  have hs8 := hl.s_lt
  have hcp := hl.c_pos
  clear hcell hb hr hl
  go_enter Try.func29, Try.ntmps29
  go_wp2_with (go_at_call 31; refine HX.out.mono ?_; rintro e w' ⟨rfl, rfl⟩)
  go_loop [9, 21] (fun v j => ∃ k : Nat, k ≤ c ∧ j = .int .i64 k ∧ v = .int .u64 (leF (fun j => zat b (F + j)) k)) (fun _ j => c - (intOf j).toNat)
  case atStart => exact ⟨0, by omega, rfl, rfl⟩
  case round =>
    obtain ⟨k, hk, rfl, rfl⟩ := hrel
    by_cases hlt : k < c
    · have hcell := Hc.out (F + k) (by omega)
      rw [← Nat.add_assoc] at hcell
      have hl : (k : Int) < (c : Int) := by omega
      have hzk := Hb.out.at (F + k)
      have hz1 := hzk.1
      have hz2 := hzk.2
      have HS := Lib.hid (leF_step (fun j => zat b (F + j)) k (by omega) (fun j _ => Hb.out.at _))
      go_wp2
      go_round
      case rel => exact ⟨k + 1, by omega, by go_num, by rw [HS.out]⟩
      case measure => simp [intOf]; omega
    · obtain rfl : k = c := by omega
      go_wp2
      go_ret
      exact ⟨rfl, rfl⟩

/-- a store into a present field of a section of the call's own -/
theorem store_any (base g cap : Nat) (b : List Int) (len : Nat) (n i x : Int) (F s c : Nat) (w : World) (hlen : len = b.length) (hg : Got w base 5 .u8 (.slice (some ⟨g, 0, none⟩) len cap) b) (hb : Bts b) (hw : Wid n) (hp : presB b.length n i = true) (hl : Lies b.length n i F s c)
    (hm : b.length ≤ 140737488355328) (hc : b.length ≤ cap) (hc2 : cap ≤ 9223372036854775807) (hx : 0 ≤ x) (hx2 : x < 18446744073709551616) :
    Calls Try.prog 26 #[.slice (some ⟨g, 0, none⟩) len cap, .int .i64 n, .int .i64 i, .int .u64 x] w fun e w' => e = .returned (.tuple #[]) ∧
      Got w' base 5 .u8 (.slice (some ⟨g, 0, none⟩) len cap) (putL b n i x) ∧ Below base w w' := by
  have hbase := hg.base_le
  have hn := hw.pos
  have hn2 := hw.le
  have HX := Lib.hid (extent_any g 0 b.length cap n i F s c w hl hn hn2 hm hc hc2)
  rw [← hlen] at HX
  have HALL := Lib.hid (putL_all (x := x) hb hn hp hl)
  have HSTEP : ∀ k, k < c → Hid _ := fun k hk => Lib.hid (store_go (k := k) hb hw hp hl hx hx2 hk)
  have HPB := Lib.hid (putL_bts b n i x)
  have HPL := Lib.hid (putL_length b n i x)
  have HLEN := Lib.hid hlen
  have Hb := Lib.hid hb
  have hroom := hl.room
  have hc8 := hl.c_le
  have hs8 := hl.s_lt
  have hcp := hl.c_pos
  have HD : Hid ((((putL b n i x).drop F).take c).length = c) := Lib.hid (by rw [List.length_take, List.length_drop, HPL.out]; omega)
  clear hb hl hp hlen hw
  go_enter Try.func26, Try.ntmps26
  go_wp2_with (first | (go_at_call 31; refine HX.out.mono ?_; rintro e w' ⟨rfl, rfl⟩) | (go_at_call 30; refine (scLow_any _ _ hn hn2).mono ?_; rintro e w' ⟨rfl, rfl⟩))
  go_loopw [31] (fun j wr => ∃ k : Nat, k ≤ c ∧ j = .int .i64 k ∧ Got wr base 5 .u8 (.slice (some ⟨g, 0, none⟩) len cap) (splice b F (((putL b n i x).drop F).take k)) ∧ Below base w wr) (fun j _ => c - (intOf j).toNat)
  case atStart => exact ⟨0, by omega, rfl, by rw [List.take_zero, splice_nil]; exact hg, Below.refl _ _⟩
  case round =>
    obtain ⟨k, hk, rfl, hgk, hbk⟩ := hrel
    by_cases hlt : k < c
    · have hlk : F + (((putL b n i x).drop F).take k).length ≤ b.length := by rw [List.length_take]; omega
      have HL := Lib.hid (splice_length hlk)
      have hn2 : len = (splice b F (((putL b n i x).drop F).take k)).length := by rw [HL.out, HLEN.out]
      have hgk' := hgk.cast (congrArg (fun n => Value.slice (some ⟨g, 0, none⟩) n cap) hn2) rfl
      have hcell := hgk'.cell (F + k) (by rw [HL.out]; omega)
      have hfree := hgk'.free (F + k)
      have hz : zat (splice b F (((putL b n i x).drop F).take k)) (F + k) = zat b (F + k) := by
        rw [splice_zat hlk, List.length_take, if_neg (by omega)]
      rw [hz] at hcell
      have hzk := Hb.out.at (F + k)
      have hz1 := hzk.1
      have hz2 := hzk.2
      have hl : (k : Int) < (c : Int) := by omega
      have HG := Lib.hid hgk'
      have HB := Lib.hid hbk
      have HN := Lib.hid hn2
      have HST := HSTEP k hlt
      clear hgk hgk' hbk hn2 hlk hz hzk
      go_wp2
      go_roundw
      case rel =>
        refine ⟨k + 1, by omega, by go_num, ?_, HB.out.setCell (by show base ≤ g; omega) _⟩
        have e := splice_step (zs := b) (ys := ((putL b n i x).drop F).take c) (o := F) (k := k) (by rw [HD.out]; omega) (by rw [HD.out]; exact hlt)
        rw [List.take_take, List.take_take, Nat.min_eq_left (by omega), Nat.min_eq_left (by omega), zat_take _ _ _ hlt, zat_drop] at e
        have hst := HST.out
        rw [IntKind.wrap_u8, IntKind.wrap_u8] at hst
        rw [hst]
        exact (HG.out.put (F + k) _).cast (by rw [← HN.out]) e
      case measure => simp [intOf]; omega
    · obtain rfl : k = c := by omega
      go_wp2
      go_end0
      exact ⟨rfl, hgk.cast rfl HALL.out, hbk⟩

/-! ## The exported functions -/
theorem Uint_any (A : Option Addr) (cap : Nat) (b : List Int) (n i d : Int) (w : World) (hr : Ri w .u8 A b) (hb : Bts b) (hm : b.length ≤ 140737488355328) (hc : b.length ≤ cap) (hc2 : cap ≤ 9223372036854775807) (hw : Wid n) (hd : 0 ≤ d) (hd2 : d < 18446744073709551616) :
    Calls Try.prog 13 #[.slice A b.length cap, .int .i64 n, .int .i64 i, .int .u64 d] w fun e w' => e = .returned (.int .u64 (uintI b n i d)) ∧ w = w' := by
  have hn := hw.pos
  have hn2 := hw.le
  have HPR := Lib.hid (scPresent_any A cap b.length n i w hn hn2 hm)
  have HLO := Lib.hid (scLow_any n w hn hn2)
  cases hp : presB b.length n i with
  | true =>
    obtain ⟨F, s, c, hl⟩ := lies_of hw hp
    have HLD := Lib.hid (load_any A cap b n i F s c w hr hb hl hn hn2 hm hc hc2)
    have HU := Lib.hid (uint_go hb hw hp hl hd hd2)
    rw [hp] at HPR
    clear hr hb hl hp hw
    go_enter Try.func13, Try.ntmps13
    go_wp2_with (first | (go_at_call 25; refine HPR.out.mono ?_; rintro e w' ⟨rfl, rfl⟩) | (go_at_call 29; refine HLD.out.mono ?_; rintro e w' ⟨rfl, rfl⟩) | (go_at_call 30; refine HLO.out.mono ?_; rintro e w' ⟨rfl, rfl⟩))
    go_ret
    exact ⟨congrArg (fun z => Ending.returned (.int .u64 z)) HU.out, rfl⟩
  | false =>
    have HU := Lib.hid (uint_go_no hw hp hd hd2)
    rw [hp] at HPR
    clear hr hb hp hw
    go_enter Try.func13, Try.ntmps13
    go_wp2_with (first | (go_at_call 25; refine HPR.out.mono ?_; rintro e w' ⟨rfl, rfl⟩) | (go_at_call 30; refine HLO.out.mono ?_; rintro e w' ⟨rfl, rfl⟩))
    go_ret
    exact ⟨congrArg (fun z => Ending.returned (.int .u64 z)) HU.out, rfl⟩

theorem Clone_any (A : Option Addr) (cap : Nat) (b : List Int) (w : World) (hr : Ri w .u8 A b) (hm : b.length ≤ 140737488355328) (hnil : A = none → cap = 0) (hc : b.length ≤ cap) :
    Calls Try.prog 24 #[.slice A b.length cap] w fun e w' => ∃ r, e = .returned r ∧ Got w' w.heap.size 5 .u8 r b ∧ Below w.heap.size w w' := by
  obtain ⟨i0, hi, hz0, hz1, hz2⟩ := info_parts int8_info
  have q := fun (w : World) (a : Option Addr) (n c n' c' : Nat) => Lib.run_eql_slice_nil (P := Try.prog) w _ _ a n c n' c' Try.underlying22
  cases A with
  | none =>
    have hz := hnil rfl
    have h0 : b = [] := List.eq_nil_of_length_eq_zero (by omega)
    subst h0
    subst hz
    go_enter Try.func24, Try.ntmps24
    go_wp2
    go_ret
    exact ⟨_, rfl, Got.empty _ _ _ _, Below.refl _ _⟩
  | some a =>
    have HA1 := Lib.hid (hr.alloc (.cells #[] 5))
    go_enter Try.func24, Try.ntmps24
    go_wp2_with (at_builtin; refine wpList_appN rfl (.tmp 5) (.tmp 6) 22 rfl Try.underlying22 hi hz0 hz1 hz2 rfl (Got.empty_made w 5 .u8 (base := w.heap.size) (Nat.le_refl _)) rfl HA1.out (fun h => by cases h) (by unfold maxLen; simp; omega) (by simp; omega) (by simp) ?_; intro v2 w2 hg2 hb2)
    go_ret
    exact ⟨_, rfl, hg2, ((Below.refl _ _).alloc (Nat.le_refl _) _).trans hb2⟩

theorem Set_no (A : Option Addr) (cap : Nat) (b : List Int) (n i d v : Int) (w : World) (hr : Ri w .u8 A b) (hm : b.length ≤ 140737488355328) (hnil : A = none → cap = 0) (hc : b.length ≤ cap) (hn : 1 ≤ n) (hn2 : n ≤ 64) (hp : presB b.length n i = false) :
    Calls Try.prog 11 #[.slice A b.length cap, .int .i64 n, .int .i64 i, .int .u64 d, .int .u64 v] w fun e w' => ∃ r, e = .returned (.tuple #[r, .bool false]) ∧ Got w' w.heap.size 5 .u8 r b ∧ Below w.heap.size w w' := by
  have HCL := Lib.hid (Clone_any A cap b w hr hm hnil hc)
  have HP := Lib.hid hp
  clear hr hp hnil
  go_enter Try.func11, Try.ntmps11
  go_wp2_with fail
  refine HCL.out.mono ?_
  rintro e w1 ⟨r, rfl, hg, hb⟩
  obtain ⟨A2, c2, rfl, _⟩ := hg.slice
  have HPR := Lib.hid (scPresent_any A2 c2 b.length n i w1 hn hn2 hm)
  rw [HP.out] at HPR
  go_wp2_with fail
  refine HPR.out.mono ?_
  rintro e w' ⟨rfl, rfl⟩
  go_wp2
  go_ret2
  exact ⟨_, rfl, hg, hb⟩

theorem Set_yes (A : Option Addr) (cap : Nat) (b : List Int) (n i d v : Int) (w : World) (hr : Ri w .u8 A b) (hb : Bts b) (hm : b.length ≤ 140737488355328) (hnil : A = none → cap = 0) (hc : b.length ≤ cap) (hw : Wid n) (hd : 0 ≤ d) (hd2 : d < 18446744073709551616)
    (hv : 0 ≤ v) (hv2 : v < 18446744073709551616) (hp : presB b.length n i = true) :
    Calls Try.prog 11 #[.slice A b.length cap, .int .i64 n, .int .i64 i, .int .u64 d, .int .u64 v] w fun e w' => ∃ r, e = .returned (.tuple #[r, .bool true]) ∧ Got w' w.heap.size 5 .u8 r (setL b n i d v) ∧ Below w.heap.size w w' := by
  have hn := hw.pos
  have hn2 := hw.le
  have HCL := Lib.hid (Clone_any A cap b w hr hm hnil hc)
  have HP := Lib.hid hp
  obtain ⟨F, s, c, hl⟩ := lies_of hw hp
  have HL := Lib.hid hl
  have hpos : 0 < b.length := by have := hl.room; have := hl.c_pos; omega
  have HSP := Lib.hid (setL_putL b n i d v hd hd2 hv hv2)
  have HX0 := bits_lo_u64 .xor v d
  have HX1 := bits_hi_u64 .xor v d
  have Hb := Lib.hid hb
  clear hr hp hnil hl hb
  go_enter Try.func11, Try.ntmps11
  go_wp2_with fail
  refine HCL.out.mono ?_
  rintro e w1 ⟨r, rfl, hg, hb⟩
  obtain ⟨A2, c2, rfl, hc2, hm2, _⟩ := hg.slice
  obtain ⟨g, rfl, hg0, hg1, _⟩ := hg.addr hpos
  have HPR := Lib.hid (scPresent_any (some ⟨g, 0, none⟩) c2 b.length n i w1 hn hn2 hm)
  rw [HP.out] at HPR
  have HST := Lib.hid (store_any w.heap.size g c2 b b.length n i (bits .xor .u64 v d) F s c w1 rfl hg Hb.out hw HP.out HL.out hm hc2 (by unfold maxLen at hm2; omega) HX0 (by omega))
  have HG := Lib.hid hg
  have HB := Lib.hid hb
  clear hg hb
  go_wp2_with fail
  refine HPR.out.mono ?_
  rintro e w' ⟨rfl, rfl⟩
  go_wp2_with fail
  refine HST.out.mono ?_
  rintro e w2 ⟨rfl, hg2, hb2⟩
  go_wp2
  go_ret2
  rw [HSP.out] at hg2
  refine ⟨_, rfl, ?_, HB.out.trans hb2⟩
  exact hg2

theorem Float_any (A : Option Addr) (cap : Nat) (b : List Int) (i : Int) (d : Nat) (w : World) (hr : Ri w .u8 A b) (hb : Bts b) (hm : b.length ≤ 140737488355328) (hc : b.length ≤ cap) (hc2 : cap ≤ 9223372036854775807) (hd : d < 18446744073709551616) :
    Calls Try.prog 21 #[.slice A b.length cap, .int .i64 i, .float .f64 d] w fun e w' => e = .returned (.float .f64 (uintI b 64 i d).toNat) ∧ w = w' := by
  have h1 := run_f64bits d
  have h2 := run_f64from
  have HU := Lib.hid (Uint_any A cap b 64 i d w hr hb hm hc hc2 (by unfold Wid; omega) (by omega) (by omega))
  clear hr hb
  go_enter Try.func21, Try.ntmps21
  go_wp2_with fail
  refine HU.out.mono ?_
  rintro e w' ⟨rfl, rfl⟩
  go_wp2
  go_ret
  exact ⟨rfl, rfl⟩

theorem SetFloat_no (A : Option Addr) (cap : Nat) (b : List Int) (i : Int) (d v : Nat) (w : World) (hr : Ri w .u8 A b) (hm : b.length ≤ 140737488355328) (hnil : A = none → cap = 0) (hc : b.length ≤ cap) (hp : presB b.length 64 i = false) :
    Calls Try.prog 19 #[.slice A b.length cap, .int .i64 i, .float .f64 d, .float .f64 v] w fun e w' => ∃ r, e = .returned (.tuple #[r, .bool false]) ∧ Got w' w.heap.size 5 .u8 r b ∧ Below w.heap.size w w' := by
  have h1 := run_f64bits d
  have h2 := run_f64bits v
  have HS := Lib.hid (Set_no A cap b 64 i d v w hr hm hnil hc (by omega) (by omega) hp)
  clear hr hp hnil
  go_enter Try.func19, Try.ntmps19
  go_wp2_with fail
  refine HS.out.mono ?_
  rintro e w' ⟨r, rfl, hg, hb⟩
  go_wp2
  go_ret2
  exact ⟨_, rfl, hg, hb⟩

theorem SetFloat_yes (A : Option Addr) (cap : Nat) (b : List Int) (i : Int) (d v : Nat) (w : World) (hr : Ri w .u8 A b) (hb : Bts b) (hm : b.length ≤ 140737488355328) (hnil : A = none → cap = 0) (hc : b.length ≤ cap) (hd : d < 18446744073709551616) (hv : v < 18446744073709551616) (hp : presB b.length 64 i = true) :
    Calls Try.prog 19 #[.slice A b.length cap, .int .i64 i, .float .f64 d, .float .f64 v] w fun e w' => ∃ r, e = .returned (.tuple #[r, .bool true]) ∧ Got w' w.heap.size 5 .u8 r (setL b 64 i d v) ∧ Below w.heap.size w w' := by
  have h1 := run_f64bits d
  have h2 := run_f64bits v
  have HS := Lib.hid (Set_yes A cap b 64 i d v w hr hb hm hnil hc (by unfold Wid; omega) (by omega) (by omega) (by omega) (by omega) hp)
  clear hr hp hnil hb
  go_enter Try.func19, Try.ntmps19
  go_wp2_with fail
  refine HS.out.mono ?_
  rintro e w' ⟨r, rfl, hg, hb⟩
  go_wp2
  go_ret2
  exact ⟨_, rfl, hg, hb⟩
end Go.Proofs.Ytidbbpingbbndaa
