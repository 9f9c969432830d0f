/- Package trim: cut at its two predicates, and with it Words, Pointers and Uniform. -/
import Derived.Test.YtcmljjhnfpfcfaaDoorRef11
import Derived.Test.YtcmljjhnfpfcfaaDoorClone
namespace Go.Proofs.YtcmljjhnfpfcfaaDoor
open Go.ChangeShapes Go.WideShapes Go.ChangeAt Go.RowKit
set_option linter.unusedVariables false
set_option linter.unusedSimpArgs false
set_option maxRecDepth 100000

/-- the bytes up to the last one, of the first i, that is not zero -/
def cutF (d : List Int) : Nat → Nat
  | 0 => 0
  | i + 1 => if zat d i = 0 then cutF d i else i + 1
theorem cutF_le (d : List Int) : ∀ i, cutF d i ≤ i
  | 0 => by simp [cutF]
  | i + 1 => by
    have := cutF_le d i
    unfold cutF
    split <;> omega
theorem wordsF_cut (d : List Int) : ∀ i, wordsF d i = (cutF d i + 7) / 8
  | 0 => by simp [wordsF, cutF]
  | i + 1 => by
    have := wordsF_cut d i
    unfold wordsF cutF
    split
    · exact this
    · omega
set_option maxRecDepth 100000 in
theorem trimUniform_any (x : Nd) (A : Option Addr) (c : Nat) (B : Option Addr) (c2 : Nat) (w : World) (hx : NdR w A c B c2 x) (hs : sizeN x ≤ 1099511627776) :
    Calls Tryd.prog 25 #[.agg #[.int .i64 x.k, .int .i64 x.e, .int .i64 x.n, .slice A x.d.length c, .slice B x.ks.length c2]] w fun r w' => r = .returned (.tuple #[.int .i64 (uniD x.ks x.ks.length), .int .i64 (uniP x.ks x.ks.length)]) ∧ Below w.heap.size w w' := by
  obtain ⟨k, e, n, d, ks⟩ := x
  simp only [Nd.k, Nd.e, Nd.n, Nd.d, Nd.ks]
  have HK := Lib.hid hx.kids
  have hso : sizeN (.mk k e n d ks) = 1 + d.length + sizeK ks := by simp only [sizeN]
  rw [hso] at hs
  have hkl := sizeK_length ks
  have hlen : ks.length ≤ 1099511627776 := by omega
  have HSZ : Hid (∀ (j : Nat) (hj : j < ks.length), (ks[j]).d.length ≤ 1099511627776 ∧ (ks[j]).ks.length ≤ 1099511627776) := Lib.hid (fun j hj => by
    have h1 := sizeN_kid (List.getElem_mem hj)
    generalize ks[j] = y at *
    obtain ⟨k', e', n', d', ks'⟩ := y
    simp only [sizeN] at h1
    have := sizeK_length ks'
    simp only [Nd.d, Nd.ks]
    omega)
  have HB0 := Lib.hid (fun o => (Below.refl w.heap.size w).alloc (Nat.le_refl _) o)
  clear hx hso hs hkl
  go_enter Tryd.func25, Tryd.ntmps25
  go_wp2
  go_loopw [4, 5, 11] (fun p q i wr => ∃ j : Nat, j ≤ ks.length ∧ i = .int .i64 j ∧ p = .int .i64 (uniD ks j) ∧ q = .int .i64 (uniP ks j) ∧ uniD ks j ≤ 1099511627776 ∧ uniP ks j ≤ 1099511627776 ∧ Below w.heap.size w wr) (fun _ _ i _ => ks.length - (intOf i).toNat)
  case atStart => exact ⟨0, by omega, rfl, rfl, rfl, by simp [uniD], by simp [uniP], HB0.out _⟩
  case round =>
    obtain ⟨j, hj, rfl, rfl, rfl, hd1, hp1, hbr⟩ := hrel
    have HR := Lib.hid hbr
    clear hbr
    by_cases hlt : j < ks.length
    · have hj1 : (j : Int) < (ks.length : Int) := by omega
      obtain ⟨b, off, A', c', B', c2', rfl, k0, k1, k2, k3, k4, hsub⟩ := HK.out.atIn HR.out (Nat.le_refl _) hlt
      have HD := Lib.hid (uniD_succ hlt)
      have HP := Lib.hid (uniP_succ hlt)
      obtain ⟨hz1, hz2⟩ := HSZ.out j hlt
      clear hsub
      generalize ks[j] = kx at *
      obtain ⟨kk, ke, kn, kd, kks⟩ := kx
      simp only [Nd.k, Nd.e, Nd.n, Nd.d, Nd.ks] at k0 k1 k2 k3 k4 HD HP hz1 hz2
      have HB1 := Lib.hid (fun o => HR.out.alloc HR.out.size o)
      generalize uniD ks j = u at *
      generalize uniP ks j = v at *
      go_wp2
      go_roundw
      case rel => exact ⟨j + 1, by omega, by go_num, by rw [HD.out]; go_num, by rw [HP.out]; go_num, by rw [HD.out]; omega, by rw [HP.out]; omega, HB1.out _⟩
      case measure => simp [intOf]; omega
    · obtain rfl : j = ks.length := by omega
      go_wp2
      go_ret2
      exact ⟨rfl, HR.out⟩
end Go.Proofs.YtcmljjhnfpfcfaaDoor
