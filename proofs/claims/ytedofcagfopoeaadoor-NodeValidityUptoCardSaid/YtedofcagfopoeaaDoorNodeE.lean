/- Package node: Equal (bytes.Equal and slices.EqualFunc by their code). -/
import Derived.Laws.BytesArg
import Derived.Laws.BytesString
import Derived.Laws.Strings
import Derived.Test.YtedofcagfopoeaaDoorNode
import Derived.Test.YtedofcagfopoeaaDoorRef01
namespace Go.Proofs.YtedofcagfopoeaaDoor
open Go.ChangeShapes Go.WideShapes Go.ChangeAt Go.RowKit
set_option linter.unusedVariables false
set_option linter.unusedSimpArgs false

theorem strOf_inj {d d' : List Int} (hb : Bts d) (hb' : Bts d') : ((strOfNums d).toList = (strOfNums d').toList) ↔ d = d' := by
  rw [ByteArray.toList_eq, ByteArray.toList_eq, strOfNums_data, strOfNums_data]
  constructor
  · intro h2
    apply List.ext_getElem
    · have := congrArg List.length h2
      simpa using this
    · intro i h1 h3
      have h4 := congrArg (fun l => l[i]?) h2
      simp only [List.getElem?_map, List.getElem?_eq_getElem h1, List.getElem?_eq_getElem h3, Option.map_some, Option.some.injEq] at h4
      have b1 := hb d[i] (List.getElem_mem h1)
      have b2 := hb' d'[i] (List.getElem_mem h3)
      have h5 := congrArg UInt8.toNat h4
      rw [UInt8.toNat_ofNat', UInt8.toNat_ofNat', Nat.mod_eq_of_lt (by omega), Nat.mod_eq_of_lt (by omega)] at h5
      omega
  · rintro rfl
    rfl

theorem convBytes {w : World} {A : Option Addr} {d : List Int} (h : Ri w .u8 A d) (c : Nat) : (convert 22 9 (.slice A d.length c)).run Tryd.prog w = .ok (.string (strOfNums d)) w := by
  rcases h with rfl | ⟨b, off, rfl, hc⟩
  · show (convert 22 9 (.slice A 0 c)).run Tryd.prog w = _
    rw [run_convert_bytes_string w 22 9 5 A 0 c Tryd.underlying22 Tryd.underlying5 Tryd.underlying9]
    cases A <;> simp [Conv.bytesToString, loadCells]
    all_goals rfl
  · exact run_convert_bytes_arg w 22 5 Tryd.underlying22 Tryd.underlying5 b off d.length c d rfl (fun i hi => hc i hi) 9 Tryd.underlying9

theorem BytesEqual_any (A : Option Addr) (c : Nat) (d : List Int) (A1 : Option Addr) (c3 : Nat) (d' : List Int) (w : World) (h1 : Ri w .u8 A d) (h2 : Ri w .u8 A1 d') (hb : Bts d) (hb' : Bts d') :
    Calls Tryd.prog 26 #[.slice A d.length c, .slice A1 d'.length c3] w fun r w' => r = .returned (.bool (sameB d d')) ∧ w' = w := by
  have q1 := convBytes h1 c
  have q2 := convBytes h2 c3
  have HR : Hid (sameB d d' = ((strOfNums d).toList == (strOfNums d').toList)) := Lib.hid (by
    unfold sameB
    rw [Bool.eq_iff_iff]
    simp only [decide_eq_true_iff, beq_iff_eq]
    exact (strOf_inj hb hb').symm)
  clear h1 h2 hb hb'
  go_enter Tryd.func26, Tryd.ntmps26
  go_wp2
  go_ret
  exact ⟨by rw [HR.out]; rfl, rfl⟩

open Classical in
noncomputable def eqK (l m : List Nd) : Bool := decide (l = m)
theorem eqK_yes {l m : List Nd} (h : l = m) : eqK l m = true := by unfold eqK; simp [h]
theorem eqK_no {l m : List Nd} (h : l ≠ m) : eqK l m = false := by unfold eqK; simp [h]

set_option maxHeartbeats 2000000 in
set_option maxRecDepth 100000 in
theorem EqualFunc_any (ks ks' : List Nd) (B : Option Addr) (c2 : Nat) (B1 : Option Addr) (c4 : Nat) (w : World) (hk : KsR w B ks) (hk' : KsR w B1 ks') (hl : ks.length ≤ 9223372036854775807) (hl' : ks'.length ≤ 9223372036854775807)
    (HC : Hid (∀ j (hj : j < ks.length) (y : Nd) A' c' B' c2' A'' c'' B'' c2'' wc, NdR wc A' c' B' c2' ks[j] → NdR wc A'' c'' B'' c2'' y → Calls Tryd.prog 12 #[.agg #[.int .i64 (ks[j]).k, .int .i64 (ks[j]).e, .int .i64 (ks[j]).n, .slice A' (ks[j]).d.length c', .slice B' (ks[j]).ks.length c2'], .agg #[.int .i64 y.k, .int .i64 y.e, .int .i64 y.n, .slice A'' y.d.length c'', .slice B'' y.ks.length c2'']] wc fun r w' => r = .returned (.bool (eqN ks[j] y)) ∧ Below wc.heap.size wc w')) :
    Calls Tryd.prog 27 #[.slice B ks.length c2, .slice B1 ks'.length c4, .func (.func 12) #[] #[]] w fun r w' => r = .returned (.bool (eqK ks ks')) ∧ Below w.heap.size w w' := by
  have HK := Lib.hid hk
  have HK' := Lib.hid hk'
  clear hk hk'
  by_cases h5 : ks.length = ks'.length
  case neg =>
    have t1 : ((ks.length : Int) != (ks'.length : Int)) = true := by simp; omega
    have HR : Hid (eqK ks ks' = false) := Lib.hid (eqK_no (fun h => h5 (by rw [h])))
    clear h5
    go_enter Tryd.func27, Tryd.ntmps27
    go_wp2
    go_ret
    exact ⟨by rw [HR.out]; rfl, Below.refl _ _⟩
  have HL := Lib.hid h5
  have t1 : ((ks.length : Int) != (ks'.length : Int)) = false := by simp; omega
  clear h5
  go_enter Tryd.func27, Tryd.ntmps27
  go_wp2
  go_loopw [17] (fun i wr => ∃ j : Nat, j ≤ ks.length ∧ i = .int .i64 j ∧ ks.take j = ks'.take j ∧ Below w.heap.size w wr) (fun i _ => ks.length - (intOf i).toNat)
  case atStart => exact ⟨0, by omega, rfl, by simp, Below.refl _ _⟩
  case round =>
    obtain ⟨j, hj, rfl, htk, hbr⟩ := hrel
    have HR := Lib.hid hbr
    have HTK := Lib.hid htk
    clear hbr htk
    by_cases hlt : j < ks.length
    · have hlt2 : j < ks'.length := by have := HL.out; omega
      have hj1 : (j : Int) < (ks.length : Int) := by omega
      have hj2 : (j : Int) < (ks'.length : Int) := by omega
      obtain ⟨b, off, Aa, ca, Ba, cb, rfl, k0, k1, k2, k3, k4, hsub⟩ := HK.out.atIn HR.out (Nat.le_refl _) hlt
      obtain ⟨b', off', Aa', ca', Ba', cb', rfl, l0, l1, l2, l3, l4, hsub'⟩ := HK'.out.atIn HR.out (Nat.le_refl _) hlt2
      have zb : b < wr.heap.size := World.block_lt_of_cell? wr ⟨b, off + j * 5, none⟩ k0
      have zb' : b' < wr.heap.size := World.block_lt_of_cell? wr ⟨b', off' + j * 5, none⟩ l0
      have HCJ : Hid (∀ wc, Below w.heap.size w wc → Calls Tryd.prog 12 #[.agg #[.int .i64 ks[j].k, .int .i64 ks[j].e, .int .i64 ks[j].n, .slice Aa ks[j].d.length ca, .slice Ba ks[j].ks.length cb], .agg #[.int .i64 ks'[j].k, .int .i64 ks'[j].e, .int .i64 ks'[j].n, .slice Aa' ks'[j].d.length ca', .slice Ba' ks'[j].ks.length cb']] wc fun r w' => r = .returned (.bool (eqN ks[j] ks'[j])) ∧ Below wc.heap.size wc w') :=
        Lib.hid (fun wc hwc => HC.out j hlt ks'[j] Aa ca Ba cb Aa' ca' Ba' cb' wc (hsub.on hwc (Nat.le_refl _)) (hsub'.on hwc (Nat.le_refl _)))
      have HTS := Lib.hid (take_eq_succ hlt hlt2 HTK.out)
      have HNE : Hid (ks[j] ≠ ks'[j] → eqK ks ks' = false) := Lib.hid (fun hne => eqK_no (fun h => hne (by subst h; rfl)))
      have HEJ : Hid (eqN ks[j] ks'[j] = true ↔ ks[j] = ks'[j]) := Lib.hid eqN_iff
      clear hsub hsub'
      generalize ks[j] = kx at *
      generalize ks'[j] = ky at *

      have HB2 : Hid (Below w.heap.size w ((wr.alloc (.cells #[.int .i64 kx.k, .int .i64 kx.e, .int .i64 kx.n, .slice Aa kx.d.length ca, .slice Ba kx.ks.length cb] 25)).alloc (.cells #[.int .i64 ky.k, .int .i64 ky.e, .int .i64 ky.n, .slice Aa' ky.d.length ca', .slice Ba' ky.ks.length cb'] 25))) := Lib.hid ((HR.out.alloc HR.out.size _).alloc (by have := HR.out.size; simp; omega) _)
      go_wp2_with fail
      refine (HCJ.out _ HB2.out).mono ?_
      rintro r w3 ⟨rfl, hb3⟩
      have HB3 : Hid (Below w.heap.size w w3) := Lib.hid (bel_on HB2.out hb3)
      clear hb3 k0 k1 k2 k3 k4 l0 l1 l2 l3 l4 zb zb'
      cases hq : eqN kx ky with
      | false =>
        have HF : Hid (eqK ks ks' = false) := Lib.hid (HNE.out (fun h => by rw [eqN_yes h] at hq; cases hq))
        clear hq
        go_wp2
        go_ret
        exact ⟨by rw [HF.out]; rfl, HB3.out⟩
      | true =>
        have HT := Lib.hid (HTS.out (HEJ.out.1 hq))
        clear hq
        go_wp2
        go_roundw
        case rel => exact ⟨j + 1, by omega, by go_num, HT.out, HB3.out⟩
        case measure => simp [intOf]; omega
    · obtain rfl : j = ks.length := by omega
      have HE : Hid (eqK ks ks' = true) := Lib.hid (eqK_yes (by have h := HTK.out; rw [List.take_length, HL.out, List.take_length] at h; exact h))
      go_wp2
      go_ret
      exact ⟨by rw [HE.out]; rfl, HR.out⟩

set_option maxHeartbeats 2000000 in
set_option maxRecDepth 100000 in
theorem NEqual_all : ∀ (x y : Nd) (A : Option Addr) (c : Nat) (B : Option Addr) (c2 : Nat) (A1 : Option Addr) (c3 : Nat) (B1 : Option Addr) (c4 : Nat) (w : World), NdR w A c B c2 x → NdR w A1 c3 B1 c4 y → 
    Calls Tryd.prog 12 #[.agg #[.int .i64 x.k, .int .i64 x.e, .int .i64 x.n, .slice A x.d.length c, .slice B x.ks.length c2], .agg #[.int .i64 y.k, .int .i64 y.e, .int .i64 y.n, .slice A1 y.d.length c3, .slice B1 y.ks.length c4]] w fun r w' => r = .returned (.bool (eqN x y)) ∧ Below w.heap.size w w' := by
  refine Nd.ind ?_
  intro k e n d ks ih y A c B c2 A1 c3 B1 c4 w hx hy
  obtain ⟨k', e', n', d', ks'⟩ := y
  simp only [Nd.k, Nd.e, Nd.n, Nd.d, Nd.ks]
  have HX := Lib.hid hx
  have HY := Lib.hid hy
  have HI := Lib.hid ih
  have HOX := Lib.hid hx.open
  have HOY := Lib.hid hy.open
  have HB0 : Hid (Below w.heap.size w ((w.alloc (.cells #[.int .i64 k, .int .i64 e, .int .i64 n, .slice A d.length c, .slice B ks.length c2] 25)).alloc (.cells #[.int .i64 k', .int .i64 e', .int .i64 n', .slice A1 d'.length c3, .slice B1 ks'.length c4] 25))) := Lib.hid (((Below.refl _ _).alloc (Nat.le_refl _) _).alloc (by simp) _)
  clear hx hy ih
  by_cases h1 : k = k'
  case neg =>
    have t1 : (k == k') = false := by simpa using h1
    have HR : Hid (eqN (.mk k e n d ks) (.mk k' e' n' d' ks') = false) := Lib.hid (eqN_no (fun h => h1 (by injection h)))
    clear h1
    go_enter Tryd.func12, Tryd.ntmps12
    go_wp2
    go_ret
    exact ⟨by rw [HR.out]; rfl, HB0.out⟩
  subst h1
  have t1 : (k == k) = true := by simp
  by_cases h2 : e = e'
  case neg =>
    have t2 : (e == e') = false := by simpa using h2
    have HR : Hid (eqN (.mk k e n d ks) (.mk k e' n' d' ks') = false) := Lib.hid (eqN_no (fun h => h2 (by injection h)))
    clear h2
    go_enter Tryd.func12, Tryd.ntmps12
    go_wp2
    go_ret
    exact ⟨by rw [HR.out]; rfl, HB0.out⟩
  subst h2
  by_cases h3 : n = n'
  case neg =>
    have t3 : (n == n') = false := by simpa using h3
    have HR : Hid (eqN (.mk k e n d ks) (.mk k e n' d' ks') = false) := Lib.hid (eqN_no (fun h => h3 (by injection h)))
    clear h3
    go_enter Tryd.func12, Tryd.ntmps12
    go_wp2
    go_ret
    exact ⟨by rw [HR.out]; rfl, HB0.out⟩
  subst h3
  have HSA := Lib.hid (BytesEqual_any A c d A1 c3 d' _ (HOX.out.2.2.2.1.below HB0.out (Nat.le_refl _)) (HOY.out.2.2.2.1.below HB0.out (Nat.le_refl _)) HOX.out.2.2.2.2.1 HOY.out.2.2.2.2.1)
  by_cases h4 : d = d'
  case neg =>
    have HR : Hid (eqN (.mk k e n d ks) (.mk k e n d' ks') = false) := Lib.hid (eqN_no (fun h => h4 (by injection h)))
    have hsb : sameB d d' = false := by unfold sameB; simp [h4]
    rw [hsb] at HSA
    clear h4 hsb
    go_enter Tryd.func12, Tryd.ntmps12
    go_wp2_with fail
    refine HSA.out.mono ?_
    rintro r w1 ⟨rfl, rfl⟩
    go_wp2
    go_ret
    exact ⟨by rw [HR.out]; rfl, HB0.out⟩
  subst h4
  rw [sameB_self] at HSA
  have HR : Hid (eqN (.mk k e n d ks) (.mk k e n d ks') = eqK ks ks') := Lib.hid (by
    by_cases h : ks = ks'
    · subst h; rw [eqN_yes rfl, eqK_yes rfl]
    · rw [eqK_no h, eqN_no (fun hh => h (by injection hh))])
  have HEF := Lib.hid (EqualFunc_any ks ks' B c2 B1 c4 _ (HX.out.kids.on HB0.out (Nat.le_refl _)) (HY.out.kids.on HB0.out (Nat.le_refl _)) (by have h1 := HOX.out.2.2.2.2.2.2.2.2.1; have h2 := HOX.out.2.2.2.2.2.2.2.2.2.1; omega) (by have h1 := HOY.out.2.2.2.2.2.2.2.2.1; have h2 := HOY.out.2.2.2.2.2.2.2.2.2.1; omega)
    (Lib.hid (fun j hj y A' c' B' c2' A'' c'' B'' c2'' wc h1 h2 => HI.out ks[j] (List.getElem_mem hj) y A' c' B' c2' A'' c'' B'' c2'' wc h1 h2)))
  rw [HR.out]
  clear HR HI
  go_enter Tryd.func12, Tryd.ntmps12
  go_wp2_with fail
  refine HSA.out.mono ?_
  rintro r w1 ⟨rfl, rfl⟩
  go_wp2_with fail
  refine HEF.out.mono ?_
  rintro r w2 ⟨rfl, hb2⟩
  have HB2 : Hid (Below w.heap.size w w2) := Lib.hid (bel_on HB0.out hb2)
  clear hb2
  go_wp2
  go_ret
  exact ⟨rfl, HB2.out⟩
end Go.Proofs.YtedofcagfopoeaaDoor
