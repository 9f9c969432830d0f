/- What the reference functions of layer 11 do, each by a contract. -/
import Derived.Test.YtcmljjhnfpfcfaaDoorRef10
import Derived.Test.YtcmljjhnfpfcfaaDoorTrimN
import Derived.Test.YtcmljjhnfpfcfaaDoorNodeO
namespace Go.Proofs.YtcmljjhnfpfcfaaDoor
open Go.ChangeShapes Go.WideShapes Go.ChangeAt Go.RowKit
set_option linter.unusedVariables false
set_option linter.unusedSimpArgs false
set_option maxRecDepth 100000

set_option maxRecDepth 100000 in
theorem RefWords11_any (A : Option Addr) (c : Nat) (d : List Int) (w : World) (hr : Ri w .u8 A d) (hb : Bts d) (hm : d.length ≤ 1099511627776) :
    Calls Tryd.prog 39 #[.slice A d.length c] w fun r w' => r = .returned (.int .i64 (wordsT d)) ∧ w = w' := by
  have Hr := Lib.hid hr
  have Hb := Lib.hid hb
  have HW : Hid (wordsT d = wordsF d d.length) := Lib.hid rfl
  clear hr hb
  go_enter Tryd.func39, Tryd.ntmps39
  go_wp2
  go_loop [3, 4] (fun n i => ∃ k : Nat, k ≤ d.length ∧ i = .int .i64 k ∧ n = .int .i64 (wordsF d k)) (fun _ i => d.length - (intOf i).toNat)
  case atStart => exact ⟨0, by omega, rfl, rfl⟩
  case round =>
    obtain ⟨k, hk, rfl, rfl⟩ := hrel
    by_cases hlt : k < d.length
    · obtain ⟨g, off, rfl, hc⟩ := Hr.out.at hlt
      have hcell := hc k hlt
      have hz := Hb.out.at k
      have hlt2 : (k : Int) < (d.length : Int) := by omega
      have HS : Hid (wordsF d (k + 1) = if zat d k = 0 then wordsF d k else k / 8 + 1) := Lib.hid rfl
      clear hc
      generalize zat d k = z at *
      by_cases h0 : z = 0
      · subst h0
        go_wp2
        go_round
        case rel => exact ⟨k + 1, by omega, by go_num, by rw [HS.out, if_pos rfl]⟩
        case measure => simp [intOf]; omega
      · have hne : (z != 0) = true := by simpa using h0
        have HZ := Lib.hid h0
        clear h0
        go_wp2
        go_round
        case rel => exact ⟨k + 1, by omega, by go_num, by rw [HS.out, if_neg HZ.out]; go_num⟩
        case measure => simp [intOf]; omega
    · obtain rfl : k = d.length := by omega
      go_wp2
      go_ret
      exact ⟨by rw [HW.out]; rfl, rfl⟩

set_option maxRecDepth 100000 in
theorem RefPointers11_any (B : Option Addr) (c : Nat) (ks : List Nd) (w : World) (hr : KsR w B ks) (hm : ks.length ≤ 1099511627776) :
    Calls Tryd.prog 40 #[.slice B ks.length c] w fun r w' => r = .returned (.int .i64 (ptrsT ks)) ∧ w = w' := by
  have Hr := Lib.hid hr
  have HW : Hid (ptrsT ks = ptrsF ks ks.length) := Lib.hid rfl
  clear hr
  go_enter Tryd.func40, Tryd.ntmps40
  go_wp2
  go_loop [3, 4] (fun n i => ∃ k : Nat, k ≤ ks.length ∧ i = .int .i64 k ∧ n = .int .i64 (ptrsF ks k)) (fun _ i => ks.length - (intOf i).toNat)
  case atStart => exact ⟨0, by omega, rfl, rfl⟩
  case round =>
    obtain ⟨k, hk, rfl, rfl⟩ := hrel
    by_cases hlt : k < ks.length
    · obtain ⟨b, off, Aa, ca, Ba, cb, rfl, hcell, -⟩ := Hr.out.at hlt
      have hlt2 : (k : Int) < (ks.length : Int) := by omega
      have HS : Hid (ptrsF ks (k + 1) = if ks[k].k = 0 then ptrsF ks k else k + 1) := Lib.hid (by rw [← kAt_get hlt]; rfl)
      generalize ks[k].k = z at *
      by_cases h0 : z = 0
      · subst h0
        go_wp2
        go_round
        case rel => exact ⟨k + 1, by omega, by go_num, by rw [HS.out, if_pos rfl]⟩
        case measure => simp [intOf]; omega
      · have hne : (z != 0) = true := by simpa using h0
        have HZ := Lib.hid h0
        clear h0
        go_wp2
        go_round
        case rel => exact ⟨k + 1, by omega, by go_num, by rw [HS.out, if_neg HZ.out]; go_num⟩
        case measure => simp [intOf]; omega
    · obtain rfl : k = ks.length := by omega
      go_wp2
      go_ret
      exact ⟨by rw [HW.out]; rfl, rfl⟩

theorem dec1 (u v : Nat) : (decide ((u : Int) < (v : Int)) = true ∧ decide (u < v) = true ∧ (u : Int) < (v : Int) ∧ u < v ∧ max u v = v) ∨ (decide ((u : Int) < (v : Int)) = false ∧ decide (u < v) = false ∧ ¬ (u : Int) < (v : Int) ∧ ¬ u < v ∧ max u v = u) := by
  by_cases h : u < v
  · exact .inl ⟨decide_eq_true (by omega), decide_eq_true h, by omega, h, by omega⟩
  · exact .inr ⟨decide_eq_false (by omega), decide_eq_false h, by omega, h, by omega⟩
theorem dec8 (u v : Nat) : (decide ((u : Int) < (v : Int) / 8) = true ∧ (u : Int) < (v : Int) / 8 ∧ max u (v / 8) = v / 8) ∨ (decide ((u : Int) < (v : Int) / 8) = false ∧ ¬ (u : Int) < (v : Int) / 8 ∧ max u (v / 8) = u) := by
  by_cases h : u < v / 8
  · exact .inl ⟨decide_eq_true (by omega), by omega, by omega⟩
  · exact .inr ⟨decide_eq_false (by omega), by omega, by omega⟩

set_option maxHeartbeats 2000000 in
set_option maxRecDepth 100000 in
theorem RefUniform11_any (x : Nd) (A : Option Addr) (c : Nat) (B : Option Addr) (c2 : Nat) (w : World) (hx : NdR w A c B c2 x) (hs : sizeN x ≤ 1099511627776) :
    Calls Tryd.prog 27 #[.agg #[.int .i64 x.k, .int .i64 x.e, .int .i64 x.n, .slice A x.d.length c, .slice B x.ks.length c2]] w fun r w' => r = .returned (.tuple #[.int .i64 (uniD x.ks x.ks.length), .int .i64 (uniP x.ks x.ks.length)]) ∧ Below w.heap.size w w' := by
  obtain ⟨k, e, n, d, ks⟩ := x
  simp only [Nd.k, Nd.e, Nd.n, Nd.d, Nd.ks]
  have HX := Lib.hid hx
  have hso : sizeN (.mk k e n d ks) = 1 + d.length + sizeK ks := by simp only [sizeN]
  rw [hso] at hs
  have hkl := sizeK_length ks
  have HKID : Hid (∀ j (h : j < ks.length), ks[j].d.length ≤ 1099511627776 ∧ ks[j].ks.length ≤ 1099511627776) := Lib.hid (fun j h => by
    have hz := sizeN_kid (List.getElem_mem h)
    generalize ks[j] = y at *
    obtain ⟨_, _, _, dd, kk'⟩ := y
    have := sizeK_length kk'
    simp only [sizeN, Nd.d, Nd.ks] at *
    omega)
  clear hx hso
  go_enter Tryd.func27, Tryd.ntmps27
  have B1 := Blk.fresh w #[.int .i64 k, .int .i64 e, .int .i64 n, .slice A d.length c, .slice B ks.length c2] 25
  have HB1 := Lib.hid B1
  go_wp2
  clear B1
  go_loop [4, 5, 6] (fun a b i => ∃ j : Nat, j ≤ ks.length ∧ i = .int .i64 j ∧ a = .int .i64 (uniD ks j) ∧ b = .int .i64 (uniP ks j)) (fun _ _ i => ks.length - (intOf i).toNat)
  case atStart => exact ⟨0, by omega, rfl, rfl, rfl⟩
  case round =>
    obtain ⟨j, hj, rfl, rfl, rfl⟩ := hrel
    obtain ⟨x1, y1, z1⟩ := HB1.out
    by_cases hlt : j < ks.length
    · obtain ⟨b, off, Aa, ca, Ba, cb, rfl, k0, k1, k2, k3, k4, hsub⟩ := HX.out.kids.atIn ((Below.refl _ _).alloc (Nat.le_refl _) (.cells #[.int .i64 k, .int .i64 e, .int .i64 n, .slice A d.length c, .slice B ks.length c2] 25)) (Nat.le_refl _) hlt
      have HD := Lib.hid (uniD_succ hlt)
      have HP := Lib.hid (uniP_succ hlt)
      obtain ⟨bd1, bd2⟩ := HKID.out j hlt
      clear hsub k0 k1 k2
      generalize uniD ks j = u at *
      generalize uniP ks j = v at *
      generalize ks[j] = kx at *
      have HM1 := Lib.hid (dec8 u kx.d.length)
      have HM2 := Lib.hid (dec1 v kx.ks.length)
      rcases HM1.out with ⟨t1, t1', m1⟩ | ⟨t1, t1', m1⟩ <;> rcases HM2.out with ⟨t2, t2', t3, t4, m2⟩ | ⟨t2, t2', t3, t4, m2⟩ <;>
      ( rw [m1] at HD
        rw [m2] at HP
        clear m1 m2
        go_wp2
        go_round
        case rel => exact ⟨j + 1, by omega, by go_num, by rw [HD.out]; try (first | rfl | go_num), by rw [HP.out]; try (first | rfl | go_num)⟩
        case measure => simp [intOf]; omega)
    · obtain rfl : j = ks.length := by omega
      go_wp2
      go_ret2
      exact ⟨rfl, (Below.refl _ _).alloc (Nat.le_refl _) _⟩
end Go.Proofs.YtcmljjhnfpfcfaaDoor
