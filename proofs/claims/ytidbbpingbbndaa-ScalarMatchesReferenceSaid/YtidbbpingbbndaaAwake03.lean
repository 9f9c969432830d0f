/- The fixed examples of layer 3: 'awake' is true. -/
import Derived.Test.YtidbbpingbbndaaRef03
import Derived.Test.YtidbbpingbbndaaScalar
namespace Go.Proofs.Ytidbbpingbbndaa
open Go.ChangeShapes Go.WideShapes Go.ChangeAt Go.RowKit
set_option linter.unusedVariables false
set_option linter.unusedSimpArgs false

def z8 : List Int := [0, 0, 0, 0, 0, 0, 0, 0]
def la3 : List Int := [0, 0, 1, 0, 0, 0, 0, 0]
def lb3 : List Int := [0, 2, 0, 0, 0, 0, 0, 0]
def le3 : List Int := setL z8 64 0 4612811918334230528 9221120237041090851
theorem z8_bts : Bts z8 := by unfold Bts z8; decide
theorem le3_eq : setL z8 64 0 4612811918334230528 9221120237041090851 = le3 := rfl
theorem le3_bts : Bts le3 := setL_bts _ _ _ _ _
theorem le3_len : le3.length = 8 := setL_length _ _ _ _ _
theorem le3_val : (uintI le3 64 0 (4612811918334230528 : Nat)).toNat = 9221120237041090851 := by decide +kernel
theorem la3_bts : Bts la3 := by unfold Bts la3; decide

theorem Copysign_c (w : World) : Calls Try.prog 23 #[.float .f64 0, .float .f64 13830554455654793216] w fun e w' => e = .returned (.float .f64 9223372036854775808) ∧ w = w' := by
  have h1 := run_f64bits 0
  have h2 := run_f64bits 13830554455654793216
  have h3 := run_f64from
  go_enter Try.func23, Try.ntmps23
  go_wp2
  go_ret
  exact ⟨rfl, rfl⟩
theorem from_c (w : World) : (callFunc 18 #[.int .u64 9221120237041090851]).run Try.prog w = .ok (.value (.float .f64 9221120237041090851)) w := run_f64from _ w

/-- a field of the zero section stored -/
theorem Set_c (g c : Nat) (n i d v : Int) (L : List Int) (w : World) (hr : Ri w .u8 (some ⟨g, 0, none⟩) z8) (hc : 8 ≤ c) (hw : Wid n) (hd : 0 ≤ d) (hd2 : d < 18446744073709551616) (hv : 0 ≤ v) (hv2 : v < 18446744073709551616)
    (hp : presB 8 n i = true) (hL : setL z8 n i d v = L) :
    Calls Try.prog 11 #[.slice (some ⟨g, 0, none⟩) 8 c, .int .i64 n, .int .i64 i, .int .u64 d, .int .u64 v] w fun e w' => ∃ A c', e = .returned (.tuple #[.slice A 8 c', .bool true]) ∧ Ri w' .u8 A L ∧ 8 ≤ c' ∧ c' ≤ 9223372036854775807 ∧ Below w.heap.size w w' :=
  (Set_yes (some ⟨g, 0, none⟩) c z8 n i d v w hr z8_bts (by decide) (fun h => by cases h) hc hw hd hd2 hv hv2 hp).mono fun e w' ⟨r, h1, h2, h3⟩ => by
    have hl : (setL z8 n i d v).length = 8 := setL_length _ _ _ _ _
    obtain ⟨A, c', rfl, h5, h6, h7⟩ := h2.slice
    rw [hl] at h1 h5
    rw [hL] at h7
    exact ⟨A, c', h1, h7, h5, by unfold maxLen at h6; omega, h3⟩
theorem Set_n (g c : Nat) (n i d v : Int) (w : World) (hr : Ri w .u8 (some ⟨g, 0, none⟩) z8) (hc : 8 ≤ c) (hn : 1 ≤ n) (hn2 : n ≤ 64) (hp : presB 8 n i = false) :
    Calls Try.prog 11 #[.slice (some ⟨g, 0, none⟩) 8 c, .int .i64 n, .int .i64 i, .int .u64 d, .int .u64 v] w fun e w' => ∃ r, e = .returned (.tuple #[r, .bool false]) ∧ Below w.heap.size w w' :=
  (Set_no (some ⟨g, 0, none⟩) c z8 n i d v w hr (by decide) (fun h => by cases h) hc hn hn2 hp).mono fun e w' ⟨r, h1, _, h3⟩ => ⟨r, h1, h3⟩
theorem SetF_c (g c : Nat) (i : Int) (d v : Nat) (L : List Int) (w : World) (hr : Ri w .u8 (some ⟨g, 0, none⟩) z8) (hc : 8 ≤ c) (hd : d < 18446744073709551616) (hv : v < 18446744073709551616)
    (hp : presB 8 64 i = true) (hL : setL z8 64 i d v = L) :
    Calls Try.prog 19 #[.slice (some ⟨g, 0, none⟩) 8 c, .int .i64 i, .float .f64 d, .float .f64 v] w fun e w' => ∃ A c', e = .returned (.tuple #[.slice A 8 c', .bool true]) ∧ Ri w' .u8 A L ∧ 8 ≤ c' ∧ c' ≤ 9223372036854775807 ∧ Below w.heap.size w w' :=
  (SetFloat_yes (some ⟨g, 0, none⟩) c z8 i d v w hr z8_bts (by decide) (fun h => by cases h) hc hd hv hp).mono fun e w' ⟨r, h1, h2, h3⟩ => by
    have hl : (setL z8 64 i d v).length = 8 := setL_length _ _ _ _ _
    obtain ⟨A, c', rfl, h5, h6, h7⟩ := h2.slice
    rw [hl] at h1 h5
    rw [hL] at h7
    exact ⟨A, c', h1, h7, h5, by unfold maxLen at h6; omega, h3⟩
theorem Float_c (A : Option Addr) (c : Nat) (L : List Int) (i : Int) (d r : Nat) (w : World) (hr : Ri w .u8 A L) (hb : Bts L) (hl : L.length = 8) (hc : 8 ≤ c) (hc2 : c ≤ 9223372036854775807) (hd : d < 18446744073709551616) (hx : (uintI L 64 i d).toNat = r) :
    Calls Try.prog 21 #[.slice A 8 c, .int .i64 i, .float .f64 d] w fun e w' => e = .returned (.float .f64 r) ∧ w = w' := by
  have h := Float_any A c L i d w hr hb (by omega) (by omega) hc2 hd
  rw [hl, hx] at h
  exact h
theorem Uint_c (A : Option Addr) (c : Nat) (L : List Int) (n i d r : Int) (w : World) (hr : Ri w .u8 A L) (hb : Bts L) (hl : L.length = 8) (hc : 8 ≤ c) (hc2 : c ≤ 9223372036854775807) (hw : Wid n) (hd : 0 ≤ d) (hd2 : d < 18446744073709551616) (hx : uintI L n i d = r) :
    Calls Try.prog 13 #[.slice A 8 c, .int .i64 n, .int .i64 i, .int .u64 d] w fun e w' => e = .returned (.int .u64 r) ∧ w = w' := by
  have h := Uint_any A c L n i d w hr hb (by omega) (by omega) hc2 hw hd hd2
  rw [hl, hx] at h
  exact h
theorem Uint_nil (w : World) : Calls Try.prog 13 #[.slice none 0 0, .int .i64 8, .int .i64 0, .int .u64 511] w fun e w' => e = .returned (.int .u64 255) ∧ w = w' := by
  have h := Uint_any none 0 [] 8 0 511 w (Ri.nil _ _ _) (fun z hz => by cases hz) (by decide) (by decide) (by decide) (by unfold Wid; omega) (by decide) (by decide)
  rw [show uintI [] 8 0 511 = 255 by decide +kernel] at h
  exact h
theorem SB_c (a b : Nat) (x : Bool) (w : World) (h : ((a : Int) == (b : Int)) = x) : Calls Try.prog 22 #[.float .f64 a, .float .f64 b] w fun e w' => e = .returned (.bool x) ∧ w = w' := by
  have h1 := SameBits_any a b w
  rw [h] at h1
  exact h1
theorem Same_c (A B : Option Addr) (c d : Nat) (L : List Int) (w : World) (hl : L.length = 8) (h1 : Ri w .u8 A L) (h2 : Ri w .u8 B L) :
    Calls Try.prog 15 #[.slice A 8 c, .slice B 8 d] w fun e w' => e = .returned (.bool true) ∧ ∃ m, w' = w.drewN m := by
  have h := Same_any A B c d L L w h1 h2 (by omega) (by omega)
  rw [hl, sameB_self] at h
  exact h

attribute [local irreducible] le3
set_option maxHeartbeats 1000000 in
theorem awake_any (w : World) : Calls Try.prog 9 #[] w fun e w' => e = .returned (.bool true) ∧ Below w.heap.size w w' := by
  obtain ⟨i0, hi, hz0, hz1, hz2⟩ := info_parts int8_info
  go_enter Try.func9, Try.ntmps9
  go_wp2_with (at_make; refine wpList_make_full _ rfl _ _ 22 rfl w.heap.size 5 i0 (.int .u8 0) 1 Try.underlying22 hi hz0 hz1 .i64 .i64 _ _ 8 rfl rfl (by omega) (by omega) (by rw [hz2]; omega) (by unfold maxLen; omega) (Nat.le_refl _) ?_; intro w0 hown0 hgrow0)
  have hb0 : Below w.heap.size w w0 := (Below.refl _ _).grown hgrow0 (Nat.le_refl _) (by simp)
  have hr0 : Ri w0 .u8 (some ⟨w.heap.size, 0, none⟩) z8 := by
    obtain ⟨A, c, he, _, _, h⟩ := (got_made hown0).slice
    injection he with h1 h2 h3
    subst h1
    exact h
  clear hown0 hgrow0
  generalize hG : w.heap.size = G at *
  have hlt0 : G < w0.heap.size := World.block_lt_of_cell? w0 ⟨G, 0, none⟩ (by obtain ⟨b, off, h1, h2⟩ := hr0.at (i := 0) (by decide); injection h1 with h1; injection h1 with h1 h3; subst h1; subst h3; exact h2 0 (by decide))
  have HB0 := Lib.hid hb0
  clear hb0
  go_wp2_with fail
  refine (Copysign_c _).mono ?_
  rintro e w' ⟨rfl, rfl⟩
  go_wp2_with fail
  refine (Set_c G 8 16 1 5 4 la3 w0 hr0 (by decide) (by unfold Wid; omega) (by decide) (by decide) (by decide) (by decide) (by decide) (by decide +kernel)).mono ?_
  rintro e w1 ⟨Aa, ca, rfl, hra, hca, hca2, hb1⟩
  have hr1 := hr0.below hb1 (Nat.le_refl _)
  have HB1 := Lib.hid (HB0.out.trans (hb1.mono (by omega)))
  have hlt1 : G < w1.heap.size := by have := hb1.size; omega
  clear hr0 hb1
  go_wp2_with fail
  refine (Set_c G 8 1 9 0 1 lb3 w1 hr1 (by decide) (by unfold Wid; omega) (by decide) (by decide) (by decide) (by decide) (by decide) (by decide +kernel)).mono ?_
  rintro e w2 ⟨Ab, cb, rfl, hrb, hcb, hcb2, hb2⟩
  have hr2 := hr1.below hb2 (Nat.le_refl _)
  have hra2 := hra.below hb2 (Nat.le_refl _)
  have HB2 := Lib.hid (HB1.out.trans (hb2.mono (by omega)))
  have hlt2 : G < w2.heap.size := by have := hb2.size; omega
  clear hr1 hra hb2
  go_wp2_with fail
  refine (Set_n G 8 64 1 0 1 w2 hr2 (by decide) (by decide) (by decide) (by decide)).mono ?_
  rintro e w3 ⟨rn, rfl, hb3⟩
  have hr3 := hr2.below hb3 (Nat.le_refl _)
  have hra3 := hra2.below hb3 (Nat.le_refl _)
  have hrb3 := hrb.below hb3 (Nat.le_refl _)
  have HB3 := Lib.hid (HB2.out.trans (hb3.mono (by omega)))
  have hlt3 : G < w3.heap.size := by have := hb3.size; omega
  clear hr2 hra2 hrb hb3
  go_wp2_with fail
  refine (SetF_c G 8 0 4607182418800017408 4607182418800017408 z8 w3 hr3 (by decide) (by decide) (by decide) (by decide) (by decide +kernel)).mono ?_
  rintro e w4 ⟨Ac, cc, rfl, hrc, hcc, hcc2, hb4⟩
  have hr4 := hr3.below hb4 (Nat.le_refl _)
  have hra4 := hra3.below hb4 (Nat.le_refl _)
  have hrb4 := hrb3.below hb4 (Nat.le_refl _)
  have HB4 := Lib.hid (HB3.out.trans (hb4.mono (by omega)))
  have hlt4 : G < w4.heap.size := by have := hb4.size; omega
  clear hr3 hra3 hrb3 hb4
  have hfr := from_c
  go_wp2_with fail
  refine (SetF_c G 8 0 4612811918334230528 9221120237041090851 le3 w4 hr4 (by decide) (by decide) (by decide) (by decide) le3_eq).mono ?_
  rintro e w5 ⟨Ae, ce, rfl, hre, hce, hce2, hb5⟩
  have hr5 := hr4.below hb5 (Nat.le_refl _)
  have hra5 := hra4.below hb5 (Nat.le_refl _)
  have hrb5 := hrb4.below hb5 (Nat.le_refl _)
  have hrc5 := hrc.below hb5 (Nat.le_refl _)
  have HB5 := Lib.hid (HB4.out.trans (hb5.mono (by omega)))
  have hlt5 : G < w5.heap.size := by have := hb5.size; omega
  clear hr4 hra4 hrb4 hrc hb5
  have HR := Lib.hid hr5
  have HRA := Lib.hid hra5
  have HRB := Lib.hid hrb5
  have HRC := Lib.hid hrc5
  have HRE := Lib.hid hre
  clear hr5 hra5 hrb5 hrc5 hre hfr
  go_wp2_with fail
  refine (Float_c _ 8 z8 0 9223372036854775808 9223372036854775808 w5 HR.out z8_bts rfl (by decide) (by decide) (by decide) (by decide +kernel)).mono ?_
  rintro e w' ⟨rfl, rfl⟩
  go_wp2_with fail
  refine (SB_c 9223372036854775808 9223372036854775808 true _ (by decide)).mono ?_
  rintro e w' ⟨rfl, rfl⟩
  go_wp2_with fail
  refine (SB_c 9223372036854775808 0 false _ (by decide)).mono ?_
  rintro e w' ⟨rfl, rfl⟩
  go_wp2_with fail
  refine (SB_c 9221120237041090851 9221120237041090851 true _ (by decide)).mono ?_
  rintro e w' ⟨rfl, rfl⟩
  go_wp2_with fail
  refine (Same_c Aa _ ca 8 la3 _ rfl (HRA.out.alloc _) (Ri.lit w5 .u8 la3 _)).mono ?_
  rintro e w' ⟨rfl, m1, rfl⟩
  go_wp2_with fail
  refine (Uint_c Aa ca la3 16 1 5 4 _ ((HRA.out.alloc _).drewN m1) la3_bts rfl hca hca2 (by unfold Wid; omega) (by decide) (by decide) (by decide +kernel)).mono ?_
  rintro e w' ⟨rfl, rfl⟩
  generalize hw6 : (w5.alloc (Obj.cells (List.map (Value.int IntKind.u8) la3).toArray 5)).drewN m1 = w6 at *
  have hb6 : Below w5.heap.size w5 w6 := by rw [← hw6]; exact bel_drewN ((Below.refl _ _).alloc (Nat.le_refl _) _) m1
  have HR6 := Lib.hid (HR.out.below hb6 (Nat.le_refl _))
  have HRB6 := Lib.hid (HRB.out.below hb6 (Nat.le_refl _))
  have HRC6 := Lib.hid (HRC.out.below hb6 (Nat.le_refl _))
  have HRE6 := Lib.hid (HRE.out.below hb6 (Nat.le_refl _))
  have HB6 := Lib.hid (HB5.out.trans (hb6.mono (by omega)))
  clear hw6 hb6
  go_wp2_with fail
  refine (Same_c Ab _ cb 8 lb3 _ rfl (HRB6.out.alloc _) (Ri.lit w6 .u8 lb3 _)).mono ?_
  rintro e w' ⟨rfl, m2, rfl⟩
  go_wp2_with fail
  refine (Same_c Ac _ cc 8 z8 _ rfl ((HRC6.out.alloc _).drewN m2) ((HR6.out.alloc _).drewN m2)).mono ?_
  rintro e w' ⟨rfl, m3, rfl⟩
  go_wp2_with fail
  refine (Float_c Ae ce le3 0 4612811918334230528 9221120237041090851 _ ((HRE6.out.alloc _).drewN _) le3_bts le3_len hce hce2 (by decide) le3_val).mono ?_
  rintro e w' ⟨rfl, rfl⟩
  go_wp2_with fail
  refine (SB_c 9221120237041090851 9221120237041090851 true _ (by decide)).mono ?_
  rintro e w' ⟨rfl, rfl⟩
  go_wp2_with fail
  refine (Uint_nil _).mono ?_
  rintro e w' ⟨rfl, rfl⟩
  go_wp2_with fail
  refine (Uint_c _ 8 z8 32 (-1) 7 7 _ ((HR6.out.alloc _).drewN _) z8_bts rfl (by decide) (by decide) (by unfold Wid; omega) (by decide) (by decide) (by decide +kernel)).mono ?_
  rintro e w' ⟨rfl, rfl⟩
  go_wp2
  go_ret
  refine ⟨rfl, ?_⟩
  rw [hG]
  exact bel_drewN (HB6.out.alloc (by have := HB6.out.size; omega) _) _
end Go.Proofs.Ytidbbpingbbndaa
