/- Package trim: cut at its two predicates, and with it Words, Pointers and Uniform. -/
import Derived.Test.YtgleanjfaecceaaRef11
import Derived.Test.YtgleanjfaecceaaClone
namespace Go.Proofs.Ytgleanjfaecceaa
open Go.ChangeShapes Go.WideShapes Go.ChangeAt Go.RowKit
set_option linter.unusedVariables false
set_option linter.unusedSimpArgs false

/-- the bytes up to the last one, of the first i, that is not zero -/
def cutF (d : List Int) : Nat → Nat
  | 0 => 0
  | i + 1 => if zat d i = 0 then cutF d i else i + 1
theorem cutF_le (d : List Int) : ∀ i, cutF d i ≤ i
  | 0 => by simp [cutF]
  | i + 1 => by
    have := cutF_le d i
    unfold cutF
    split <;> omega
theorem wordsF_cut (d : List Int) : ∀ i, wordsF d i = (cutF d i + 7) / 8
  | 0 => by simp [wordsF, cutF]
  | i + 1 => by
    have := wordsF_cut d i
    unfold wordsF cutF
    split
    · exact this
    · omega
theorem isZero_any (z : Int) (w : World) : Calls Try.prog 30 #[.int .u8 z] w fun r w' => r = .returned (.bool (z == 0)) ∧ w' = w := by
  go_enter Try.func30, Try.ntmps30
  go_wp2
  go_ret
  exact ⟨rfl, rfl⟩
theorem isNull_any (k e n : Int) (A : Option Addr) (dl c : Nat) (B : Option Addr) (kl c2 : Nat) (w : World) : Calls Try.prog 32 #[.agg #[.int .i64 k, .int .i64 e, .int .i64 n, .slice A dl c, .slice B kl c2]] w fun r w' => r = .returned (.bool (k == 0)) ∧ Below w.heap.size w w' := by
  have HB := Lib.hid (fun o => (Below.refl w.heap.size w).alloc (Nat.le_refl _) o)
  go_enter Try.func32, Try.ntmps32
  go_wp2
  go_ret
  exact ⟨rfl, HB.out _⟩

set_option maxRecDepth 100000 in
theorem cutB_any (A : Option Addr) (c : Nat) (d : List Int) (w : World) (hr : Ri w .u8 A d) (hb : Bts d) (hm : d.length ≤ 1099511627776) (hc : d.length ≤ c) :
    Calls Try.prog 29 #[.slice A d.length c, .func (.func 30) #[] #[]] w fun r w' => r = .returned (.slice A (cutF d d.length) c) ∧ w = w' := by
  have Hr := Lib.hid hr
  have Hb := Lib.hid hb
  clear hr hb
  go_enter Try.func29, Try.ntmps29
  go_wp2
  go_loop [0] (fun v => ∃ k : Nat, k ≤ d.length ∧ v = .slice A k c ∧ cutF d d.length = cutF d k) (fun v => match v with | .slice _ n _ => n | _ => 0)
  case atStart => exact ⟨d.length, by omega, rfl, rfl⟩
  case round =>
    obtain ⟨k, hk, rfl, hq⟩ := hrel
    have HQ := Lib.hid hq
    clear hq
    cases k with
    | zero =>
      go_wp2
      go_ret
      exact ⟨by rw [HQ.out]; rfl, rfl⟩
    | succ k =>
      obtain ⟨g, off, rfl, hcd⟩ := Hr.out.at (i := k) (by omega)
      have hcell := hcd k (by omega)
      have HS : Hid (cutF d (k + 1) = if zat d k = 0 then cutF d k else k + 1) := Lib.hid rfl
      clear hcd
      generalize zat d k = z at *
      go_wp2_with fail
      refine (isZero_any z _).mono ?_
      rintro r w' ⟨rfl, rfl⟩
      by_cases h0 : z = 0
      · have t1 : (z == 0) = true := by simpa using h0
        have HQ2 := Lib.hid (HQ.out.trans (HS.out.trans (if_pos h0)))
        clear h0
        go_wp2
        go_round
        case rel => exact ⟨k, by omega, by go_num, HQ2.out⟩
        case measure => simp
      · have t1 : (z == 0) = false := by simpa using h0
        have HQ2 := Lib.hid (HQ.out.trans (HS.out.trans (if_neg h0)))
        clear h0
        go_wp2
        go_ret
        exact ⟨by rw [HQ2.out]; rfl, rfl⟩

theorem trimWords_any (A : Option Addr) (c : Nat) (d : List Int) (w : World) (hr : Ri w .u8 A d) (hb : Bts d) (hm : d.length ≤ 1099511627776) (hc : d.length ≤ c) :
    Calls Try.prog 11 #[.slice A d.length c] w fun r w' => r = .returned (.int .i64 (wordsT d)) ∧ w = w' := by
  have HC := Lib.hid (cutB_any A c d w hr hb hm hc)
  have HW : Hid (((cutF d d.length : Int) + 7) / 8 = wordsT d) := Lib.hid (by unfold wordsT; rw [wordsF_cut]; omega)
  have hl := cutF_le d d.length
  clear hr hb
  generalize cutF d d.length = m at *
  go_enter Try.func11, Try.ntmps11
  go_wp2_with fail
  refine HC.out.mono ?_
  rintro r w' ⟨rfl, rfl⟩
  go_wp2
  go_ret
  refine ⟨?_, rfl⟩
  rw [← HW.out]
  go_num

set_option maxRecDepth 100000 in
theorem cutK_any (B : Option Addr) (c : Nat) (ks : List Nd) (w : World) (hr : KsR w B ks) (hm : ks.length ≤ 1099511627776) (hc : ks.length ≤ c) :
    Calls Try.prog 31 #[.slice B ks.length c, .func (.func 32) #[] #[]] w fun r w' => r = .returned (.slice B (ptrsT ks) c) ∧ Below w.heap.size w w' := by
  have HK := Lib.hid hr
  have HW : Hid (ptrsT ks = ptrsF ks ks.length) := Lib.hid rfl
  clear hr
  go_enter Try.func31, Try.ntmps31
  go_wp2
  go_loopw [0] (fun v wr => ∃ k : Nat, k ≤ ks.length ∧ v = .slice B k c ∧ ptrsT ks = ptrsF ks k ∧ Below w.heap.size w wr) (fun v _ => match v with | .slice _ n _ => n | _ => 0)
  case atStart => exact ⟨ks.length, by omega, rfl, HW.out, Below.refl _ _⟩
  case round =>
    obtain ⟨k, hk, rfl, hq, hbr⟩ := hrel
    have HQ := Lib.hid hq
    have HR := Lib.hid hbr
    clear hq hbr
    cases k with
    | zero =>
      go_wp2
      go_ret
      exact ⟨by rw [HQ.out]; rfl, HR.out⟩
    | succ k =>
      obtain ⟨b, off, A', c', B', c2', rfl, k0, k1, k2, k3, k4, hsub⟩ := HK.out.atIn HR.out (Nat.le_refl _) (j := k) (by omega)
      have HS : Hid (ptrsF ks (k + 1) = if (ks[k]'(by omega)).k = 0 then ptrsF ks k else k + 1) := Lib.hid (by rw [← kAt_get (by omega)]; rfl)
      clear hsub
      generalize (ks[k]'(by omega)) = kx at *
      obtain ⟨kk, ke, kn, kd, kks⟩ := kx
      simp only [Nd.k, Nd.e, Nd.n, Nd.d, Nd.ks] at k0 k1 k2 k3 k4 HS
      go_wp2_with fail
      refine (isNull_any _ _ _ _ _ _ _ _ _ _).mono ?_
      rintro r w' ⟨rfl, hb1⟩
      have HB1 := Lib.hid (bel_on HR.out hb1)
      clear hb1
      by_cases h0 : kk = 0
      · have t1 : (kk == 0) = true := by simpa using h0
        have HQ2 := Lib.hid (HQ.out.trans (HS.out.trans (if_pos h0)))
        clear h0
        go_wp2
        go_roundw
        case rel => exact ⟨k, by omega, by go_num, HQ2.out, HB1.out⟩
        case measure => simp
      · have t1 : (kk == 0) = false := by simpa using h0
        have HQ2 := Lib.hid (HQ.out.trans (HS.out.trans (if_neg h0)))
        clear h0
        go_wp2
        go_ret
        exact ⟨by rw [HQ2.out]; rfl, HB1.out⟩

theorem trimPointers_any (B : Option Addr) (c : Nat) (ks : List Nd) (w : World) (hr : KsR w B ks) (hm : ks.length ≤ 1099511627776) (hc : ks.length ≤ c) :
    Calls Try.prog 13 #[.slice B ks.length c] w fun r w' => r = .returned (.int .i64 (ptrsT ks)) ∧ Below w.heap.size w w' := by
  have HC := Lib.hid (cutK_any B c ks w hr hm hc)
  have hl := ptrsT_le ks
  clear hr
  generalize ptrsT ks = m at *
  go_enter Try.func13, Try.ntmps13
  go_wp2_with fail
  refine HC.out.mono ?_
  rintro r w' ⟨rfl, hb⟩
  go_wp2
  go_ret
  exact ⟨rfl, hb⟩

set_option maxRecDepth 100000 in
theorem trimUniform_any (x : Nd) (A : Option Addr) (c : Nat) (B : Option Addr) (c2 : Nat) (w : World) (hx : NdR w A c B c2 x) (hs : sizeN x ≤ 1099511627776) :
    Calls Try.prog 18 #[.agg #[.int .i64 x.k, .int .i64 x.e, .int .i64 x.n, .slice A x.d.length c, .slice B x.ks.length c2]] w fun r w' => r = .returned (.tuple #[.int .i64 (uniD x.ks x.ks.length), .int .i64 (uniP x.ks x.ks.length)]) ∧ Below w.heap.size w w' := by
  obtain ⟨k, e, n, d, ks⟩ := x
  simp only [Nd.k, Nd.e, Nd.n, Nd.d, Nd.ks]
  have HK := Lib.hid hx.kids
  have hso : sizeN (.mk k e n d ks) = 1 + d.length + sizeK ks := by simp only [sizeN]
  rw [hso] at hs
  have hkl := sizeK_length ks
  have hlen : ks.length ≤ 1099511627776 := by omega
  have HSZ : Hid (∀ (j : Nat) (hj : j < ks.length), (ks[j]).d.length ≤ 1099511627776 ∧ (ks[j]).ks.length ≤ 1099511627776) := Lib.hid (fun j hj => by
    have h1 := sizeN_kid (List.getElem_mem hj)
    generalize ks[j] = y at *
    obtain ⟨k', e', n', d', ks'⟩ := y
    simp only [sizeN] at h1
    have := sizeK_length ks'
    simp only [Nd.d, Nd.ks]
    omega)
  have HB0 := Lib.hid (fun o => (Below.refl w.heap.size w).alloc (Nat.le_refl _) o)
  clear hx hso hs hkl
  go_enter Try.func18, Try.ntmps18
  go_wp2
  go_loopw [4, 5, 11] (fun p q i wr => ∃ j : Nat, j ≤ ks.length ∧ i = .int .i64 j ∧ p = .int .i64 (uniD ks j) ∧ q = .int .i64 (uniP ks j) ∧ uniD ks j ≤ 1099511627776 ∧ uniP ks j ≤ 1099511627776 ∧ Below w.heap.size w wr) (fun _ _ i _ => ks.length - (intOf i).toNat)
  case atStart => exact ⟨0, by omega, rfl, rfl, rfl, by simp [uniD], by simp [uniP], HB0.out _⟩
  case round =>
    obtain ⟨j, hj, rfl, rfl, rfl, hd1, hp1, hbr⟩ := hrel
    have HR := Lib.hid hbr
    clear hbr
    by_cases hlt : j < ks.length
    · have hj1 : (j : Int) < (ks.length : Int) := by omega
      obtain ⟨b, off, A', c', B', c2', rfl, k0, k1, k2, k3, k4, hsub⟩ := HK.out.atIn HR.out (Nat.le_refl _) hlt
      have HD := Lib.hid (uniD_succ hlt)
      have HP := Lib.hid (uniP_succ hlt)
      obtain ⟨hz1, hz2⟩ := HSZ.out j hlt
      clear hsub
      generalize ks[j] = kx at *
      obtain ⟨kk, ke, kn, kd, kks⟩ := kx
      simp only [Nd.k, Nd.e, Nd.n, Nd.d, Nd.ks] at k0 k1 k2 k3 k4 HD HP hz1 hz2
      have HB1 := Lib.hid (fun o => HR.out.alloc HR.out.size o)
      generalize uniD ks j = u at *
      generalize uniP ks j = v at *
      go_wp2
      go_roundw
      case rel => exact ⟨j + 1, by omega, by go_num, by rw [HD.out]; go_num, by rw [HP.out]; go_num, by rw [HD.out]; omega, by rw [HP.out]; omega, HB1.out _⟩
      case measure => simp [intOf]; omega
    · obtain rfl : j = ks.length := by omega
      go_wp2
      go_ret2
      exact ⟨rfl, HR.out⟩
end Go.Proofs.Ytgleanjfaecceaa
