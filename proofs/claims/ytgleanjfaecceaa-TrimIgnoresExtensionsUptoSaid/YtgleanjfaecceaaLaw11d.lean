/- A law of layer 11: TrimUniform. -/
import Derived.Test.YtgleanjfaecceaaLaw11c
import Derived.Test.YtgleanjfaecceaaTrimN3
import Derived.Test.YtgleanjfaecceaaNodeK
namespace Go.Proofs.Ytgleanjfaecceaa
open Go.ChangeShapes Go.WideShapes Go.ChangeAt Go.RowKit
set_option linter.unusedVariables false
set_option linter.unusedSimpArgs false
attribute [local simp] AllK KnowsV look Is

/-- the list with one element more -/
def listM (x y : Nd) : Nd := .mk x.k x.e (x.n + 1) x.d (x.ks ++ [y])
theorem listM_size (x y : Nd) : sizeN (listM x y) = sizeN x + sizeN y := by
  obtain ⟨k, e, n, d, ks⟩ := x
  simp only [listM, Nd.k, Nd.e, Nd.n, Nd.d, Nd.ks, sizeN, sizeK_append, sizeK]
  omega
theorem comp_len {x : Nd} (hk : x.k = 2) (he : x.e = 7) (hv : validN x = true) : (x.ks.length : Int) = x.n ∧ x.d.length = 0 ∧ x.n ≤ 536870911 := by
  obtain ⟨k, e, n, d, ks⟩ := x
  simp only [Nd.k, Nd.e] at hk he
  subst hk he
  simp only [validN, Bool.and_eq_true] at hv
  have h := hv.2
  unfold headB at h
  rw [if_neg (by decide), if_neg (by decide), if_pos rfl] at h
  have h2 := of_decide_eq_true h
  simp only [Nd.ks, Nd.d, Nd.n]
  have h3 := h2.2.2.2.2.1 (by decide)
  exact ⟨h3.2, h3.1, h2.2.1⟩
theorem listM_valid {x y : Nd} (hk : x.k = 2) (he : x.e = 7) (hv : validN x = true) (hy : validN y = true) (hyk : y.k = 1) (hs : x.ks.length < 536870911) : validN (listM x y) = true := by
  have hl := comp_len hk he hv
  obtain ⟨k, e, n, d, ks⟩ := x
  simp only [Nd.k, Nd.e, Nd.ks, Nd.d, Nd.n] at hk he hl hs
  subst hk he
  simp only [validN, Bool.and_eq_true] at hv
  simp only [listM, Nd.k, Nd.e, Nd.n, Nd.d, Nd.ks, validN, Bool.and_eq_true]
  refine ⟨?_, ?_⟩
  · rw [validK_append, hv.1]
    simp [validK, hy, hyk]
  · unfold headB
    rw [if_neg (by decide), if_neg (by decide), if_pos rfl]
    refine decide_eq_true ⟨by omega, by omega, by decide, by decide, fun _ => ⟨hl.2.1, by rw [List.length_append]; simp; omega⟩, fun h => absurd h (by decide)⟩
theorem listM_len (x y : Nd) : (listM x y).ks.length = x.ks.length + 1 := by simp [listM, Nd.ks]
/-- it lies in memory: the kids that came in in a row of the call's own -/
theorem listM_here {W0 w : World} {x y : Nd} {A1 : Option Addr} {c1 : Nat} {B1 : Option Addr} {e1 : Nat} {base N0 n0 : Nat} {B7 : Option Addr} {c7 : Nat} (hn : -9223372036854775808 ≤ x.n + 1 ∧ x.n + 1 ≤ 9223372036854775807) (hx : NdR w A1 c1 B1 e1 x) (h : OwnK W0 w base (.slice B7 n0 c7) (x.ks ++ [y])) (hW : W0.heap.size ≤ N0) (hb : Below N0 W0 w) :
    n0 = x.ks.length + 1 ∧ NdR w A1 c1 B7 c7 (listM x y) := by
  obtain ⟨B, c, e, h1, h2, h3, h4⟩ := h.slice hW hb
  injection e with g1 g2 g3
  subst g1
  subst g3
  have hl : (x.ks ++ [y]).length = x.ks.length + 1 := by simp
  obtain ⟨k, e, n, d, ks⟩ := x
  obtain ⟨o1, o2, o3, o4, o5, o6, o7, o8, _⟩ := hx.open
  exact ⟨by rw [g2, hl], h1.node o1 o2 hn o4 o5 o6 (by unfold maxLen; omega) o8 h2 (by unfold maxLen; omega) h4⟩
theorem TUniform_m (x y : Nd) (u v : Int) (A1 : Option Addr) (c1 : Nat) (B7 : Option Addr) (c7 : Nat) (w : World) (hT : TabOK w) (hm : NdR w A1 c1 B7 c7 (listM x y)) (hs : sizeN (listM x y) ≤ 1099511627776) (hv : validN (listM x y) = true) (hk : x.k = 2) (he : x.e = 7) (hu : (uniD (x.ks ++ [y]) (x.ks ++ [y]).length : Int) = u) (hw : (uniP (x.ks ++ [y]) (x.ks ++ [y]).length : Int) = v) :
    Calls Try.prog 18 #[.agg #[.int .i64 x.k, .int .i64 x.e, .int .i64 (x.n + 1), .slice A1 x.d.length c1, .slice B7 (x.ks.length + 1) c7]] w fun r w' => r = .returned (.tuple #[.int .i64 u, .int .i64 v]) ∧ Below w.heap.size w w' := by
  have h := TUniform_a (listM x y) u v A1 c1 B7 c7 w hT hm hs hv hk he hu hw
  rw [listM_len] at h
  exact h

/-- the flags of the loop -/
def flagD (ks : List Nd) (a : Nat) : Nat → Bool
  | 0 => decide (ks.length = 0 ∧ a = 0)
  | i + 1 => flagD ks a i || decide (((ks[i]?.map Nd.d).getD []).length = 8 * a)
def flagP (ks : List Nd) (b : Nat) : Nat → Bool
  | 0 => decide (ks.length = 0 ∧ b = 0)
  | i + 1 => flagP ks b i || decide (((ks[i]?.map Nd.ks).getD []).length = b)
theorem flagD_succ {ks : List Nd} {a i : Nat} (h : i < ks.length) : flagD ks a (i + 1) = (flagD ks a i || decide ((ks[i]).d.length = 8 * a)) := by simp [flagD, h]
theorem flagP_succ {ks : List Nd} {b i : Nat} (h : i < ks.length) : flagP ks b (i + 1) = (flagP ks b i || decide ((ks[i]).ks.length = b)) := by simp [flagP, h]
theorem flagD_yes {ks : List Nd} {a j : Nat} (hj : j < ks.length) (h : (ks[j]).d.length = 8 * a) : ∀ i, i ≤ ks.length → j < i → flagD ks a i = true
  | 0, _, h => by omega
  | i + 1, hi, h2 => by
    rw [flagD_succ (by omega)]
    by_cases e : j = i
    · subst e; simp [h]
    · rw [flagD_yes hj h i (by omega) (by omega)]; rfl
theorem flagP_yes {ks : List Nd} {b j : Nat} (hj : j < ks.length) (h : (ks[j]).ks.length = b) : ∀ i, i ≤ ks.length → j < i → flagP ks b i = true
  | 0, _, h => by omega
  | i + 1, hi, h2 => by
    rw [flagP_succ (by omega)]
    by_cases e : j = i
    · subst e; simp [h]
    · rw [flagP_yes hj h i (by omega) (by omega)]; rfl
theorem flagD_end (ks : List Nd) (h8 : ∀ y ∈ ks, y.d.length % 8 = 0) : flagD ks (uniD ks ks.length) ks.length = true := by
  by_cases h : ks.length = 0
  · obtain rfl := List.eq_nil_of_length_eq_zero h
    simp [flagD, uniD]
  · obtain ⟨j, hj, h1, h2⟩ := uniD_attained ks h8 _ (Nat.le_refl _) (by omega)
    exact flagD_yes hj h2 _ (Nat.le_refl _) h1
theorem flagP_end (ks : List Nd) : flagP ks (uniP ks ks.length) ks.length = true := by
  by_cases h : ks.length = 0
  · obtain rfl := List.eq_nil_of_length_eq_zero h
    simp [flagP, uniP]
  · obtain ⟨j, hj, h1, h2⟩ := uniP_attained ks _ (Nat.le_refl _) (by omega)
    exact flagP_yes hj h2 _ (Nat.le_refl _) h1
/-- the elements of a well-formed composite list are structs -/
theorem comp_kids {x : Nd} (hk : x.k = 2) (he : x.e = 7) (hv : validN x = true) : ∀ y ∈ x.ks, y.d.length % 8 = 0 := by
  intro y hy
  obtain ⟨k, e, n, d, ks⟩ := x
  simp only [Nd.k, Nd.e] at hk he
  subst hk he
  simp only [validN, Bool.and_eq_true] at hv
  have h := validK_mem hv.1 hy
  obtain ⟨k', e', n', d', ks'⟩ := y
  have hk1 : k' = 1 := Classical.byContradiction fun h2 => h.2 ⟨rfl, rfl, h2⟩
  exact valid_struct h.1 hk1
attribute [local irreducible] validN fewN eqN trimN trimmedN depthN objsN wordsT ptrsT uniD uniP flagD flagP

set_option maxHeartbeats 8000000 in
set_option maxRecDepth 100000 in
theorem Uniform11_walk (x y : Nd) (A1 : Option Addr) (c1 : Nat) (B1 : Option Addr) (e1 : Nat) (A2 : Option Addr) (c2 : Nat) (B2 : Option Addr) (e2 : Nat) (w : World) (hT : TabOK w) (hx : NdR w A1 c1 B1 e1 x) (hy : NdR w A2 c2 B2 e2 y) (hsx : sizeN x ≤ 1048576) (hsy : sizeN y ≤ 1048576) :
    Calls Try.prog 6 #[.agg #[.int .i64 x.k, .int .i64 x.e, .int .i64 x.n, .slice A1 x.d.length c1, .slice B1 x.ks.length e1], .agg #[.int .i64 y.k, .int .i64 y.e, .int .i64 y.n, .slice A2 y.d.length c2, .slice B2 y.ks.length e2]] w fun r w' => r = .returned (.bool true) ∧ Below w.heap.size w w' := by
  have HX := Lib.hid hx
  have HY := Lib.hid hy
  have HT := Lib.hid hT
  have HSX : Hid (sizeN x ≤ 1099511627776) := Lib.hid (by omega)
  have HSY : Hid (sizeN y ≤ 1099511627776) := Lib.hid (by omega)
  have HSM : Hid (sizeN (listM x y) ≤ 1099511627776) := Lib.hid (by rw [listM_size]; omega)
  have HKL : Hid (x.ks.length + 1 ≤ 1099511627776 ∧ x.ks.length ≤ 1048576 ∧ y.ks.length ≤ 1048576 ∧ y.d.length ≤ 1048576) := Lib.hid (by have h1 := sizeK_length x.ks; have h2 := sizeK_ks x; have h3 := sizeK_length y.ks; have h4 := sizeK_ks y; have h5 : y.d.length ≤ sizeN y := (by cases y; simp only [Nd.d, sizeN]; omega); omega)
  clear hx hy hT
  go_enter Try.func6, Try.ntmps6
  go_wp2_with fail
  refine abs_world (F := fun W => Blk W w.heap.size #[.int .i64 x.k, .int .i64 x.e, .int .i64 x.n, .slice A1 x.d.length c1, .slice B1 x.ks.length e1] ∧ Blk W (w.heap.size + 1) #[.int .i64 y.k, .int .i64 y.e, .int .i64 y.n, .slice A2 y.d.length c2, .slice B2 y.ks.length e2] ∧ Below w.heap.size w W) ⟨?_, ?_, ?_⟩ ?_
  · exact (Blk.fresh _ _ _).alloc _
  · exact Blk.new (by simp)
  · exact ((Below.refl _ _).alloc (Nat.le_refl _) _).alloc (by simp) _
  rintro w0 ⟨h2, h3, hb0⟩
  have H2 := Lib.hid h2
  have H3 := Lib.hid h3
  have HB := Lib.hid hb0
  clear h2 h3 hb0
  refine (awake11_any _ (HT.out.on HB.out)).mono ?_
  rintro r w1 ⟨rfl, hb1⟩
  have H2n := Lib.hid (H2.out.below hb1)
  have H3n := Lib.hid (H3.out.below hb1)
  have HBn := Lib.hid (bel_on HB.out hb1)
  clear hb1 H2 H3 HB
  have H2 := H2n
  have H3 := H3n
  have HB := HBn
  clear H2n H3n HBn
  obtain ⟨x2, y2, z2⟩ := H2.out
  obtain ⟨x3, y3, z3⟩ := H3.out
  go_wp2_with fail
  refine (RefFew_node x A1 c1 B1 e1 _ (HX.out.on HB.out (Nat.le_refl _)) HSX.out).mono ?_
  rintro r w2 ⟨rfl, hb2⟩
  clear x2 y2 z2 x3 y3 z3
  have H2n := Lib.hid (H2.out.below hb2)
  have H3n := Lib.hid (H3.out.below hb2)
  have HBn := Lib.hid (bel_on HB.out hb2)
  clear hb2 H2 H3 HB
  have H2 := H2n
  have H3 := H3n
  have HB := HBn
  clear H2n H3n HBn
  obtain ⟨x2, y2, z2⟩ := H2.out
  obtain ⟨x3, y3, z3⟩ := H3.out
  cases hf : fewN x with
  | false =>
    clear hf
    go_wp2_with fail
    refine (awake11_any _ (HT.out.on HB.out)).mono ?_
    rintro r w9 ⟨rfl, hb9⟩
    have HB9 := Lib.hid (bel_on HB.out hb9)
    clear hb9
    go_wp2
    go_ret
    exact ⟨rfl, HB9.out⟩
  | true =>
  clear hf
  go_wp2_with fail
  refine (RefValid_node x A1 c1 B1 e1 _ (HX.out.on HB.out (Nat.le_refl _)) HSX.out).mono ?_
  rintro r w2 ⟨rfl, hb2⟩
  clear x2 y2 z2 x3 y3 z3
  have H2n := Lib.hid (H2.out.below hb2)
  have H3n := Lib.hid (H3.out.below hb2)
  have HBn := Lib.hid (bel_on HB.out hb2)
  clear hb2 H2 H3 HB
  have H2 := H2n
  have H3 := H3n
  have HB := HBn
  clear H2n H3n HBn
  obtain ⟨x2, y2, z2⟩ := H2.out
  obtain ⟨x3, y3, z3⟩ := H3.out
  cases hvx : validN x with
  | false =>
    clear hvx
    go_wp2_with fail
    refine (awake11_any _ (HT.out.on HB.out)).mono ?_
    rintro r w9 ⟨rfl, hb9⟩
    have HB9 := Lib.hid (bel_on HB.out hb9)
    clear hb9
    go_wp2
    go_ret
    exact ⟨rfl, HB9.out⟩
  | true =>
  have HVX := Lib.hid hvx
  clear hvx
  by_cases kx : x.k = 2
  case neg =>
    have tkx : (x.k != 2) = true := bne_iff_ne.2 kx
    clear kx
    go_wp2_with fail
    refine (awake11_any _ (HT.out.on HB.out)).mono ?_
    rintro r w9 ⟨rfl, hb9⟩
    have HB9 := Lib.hid (bel_on HB.out hb9)
    clear hb9
    go_wp2
    go_ret
    exact ⟨rfl, HB9.out⟩
  have tkx : (x.k != 2) = false := by rw [kx]; rfl
  have Hkx := Lib.hid kx
  clear kx
  by_cases ex : x.e = 7
  case neg =>
    have tex : (x.e != 7) = true := bne_iff_ne.2 ex
    clear ex
    go_wp2_with fail
    refine (awake11_any _ (HT.out.on HB.out)).mono ?_
    rintro r w9 ⟨rfl, hb9⟩
    have HB9 := Lib.hid (bel_on HB.out hb9)
    clear hb9
    go_wp2
    go_ret
    exact ⟨rfl, HB9.out⟩
  have tex : (x.e != 7) = false := by rw [ex]; rfl
  have Hex := Lib.hid ex
  clear ex
  go_wp2_with fail
  refine (RefFew_node y A2 c2 B2 e2 _ (HY.out.on HB.out (Nat.le_refl _)) HSY.out).mono ?_
  rintro r w2 ⟨rfl, hb2⟩
  clear x2 y2 z2 x3 y3 z3
  have H2n := Lib.hid (H2.out.below hb2)
  have H3n := Lib.hid (H3.out.below hb2)
  have HBn := Lib.hid (bel_on HB.out hb2)
  clear hb2 H2 H3 HB
  have H2 := H2n
  have H3 := H3n
  have HB := HBn
  clear H2n H3n HBn
  obtain ⟨x2, y2, z2⟩ := H2.out
  obtain ⟨x3, y3, z3⟩ := H3.out
  cases hf : fewN y with
  | false =>
    clear hf
    go_wp2_with fail
    refine (awake11_any _ (HT.out.on HB.out)).mono ?_
    rintro r w9 ⟨rfl, hb9⟩
    have HB9 := Lib.hid (bel_on HB.out hb9)
    clear hb9
    go_wp2
    go_ret
    exact ⟨rfl, HB9.out⟩
  | true =>
  clear hf
  go_wp2_with fail
  refine (RefValid_node y A2 c2 B2 e2 _ (HY.out.on HB.out (Nat.le_refl _)) HSY.out).mono ?_
  rintro r w2 ⟨rfl, hb2⟩
  clear x2 y2 z2 x3 y3 z3
  have H2n := Lib.hid (H2.out.below hb2)
  have H3n := Lib.hid (H3.out.below hb2)
  have HBn := Lib.hid (bel_on HB.out hb2)
  clear hb2 H2 H3 HB
  have H2 := H2n
  have H3 := H3n
  have HB := HBn
  clear H2n H3n HBn
  obtain ⟨x2, y2, z2⟩ := H2.out
  obtain ⟨x3, y3, z3⟩ := H3.out
  cases hvy : validN y with
  | false =>
    clear hvy
    go_wp2_with fail
    refine (awake11_any _ (HT.out.on HB.out)).mono ?_
    rintro r w9 ⟨rfl, hb9⟩
    have HB9 := Lib.hid (bel_on HB.out hb9)
    clear hb9
    go_wp2
    go_ret
    exact ⟨rfl, HB9.out⟩
  | true =>
  have HVY := Lib.hid hvy
  clear hvy
  by_cases ky : y.k = 1
  case neg =>
    have tky : (y.k != 1) = true := bne_iff_ne.2 ky
    clear ky
    go_wp2_with fail
    refine (awake11_any _ (HT.out.on HB.out)).mono ?_
    rintro r w9 ⟨rfl, hb9⟩
    have HB9 := Lib.hid (bel_on HB.out hb9)
    clear hb9
    go_wp2
    go_ret
    exact ⟨rfl, HB9.out⟩
  have tky : (y.k != 1) = false := by rw [ky]; rfl
  have Hky := Lib.hid ky
  clear ky
  obtain ⟨hl1, hl2, hl3⟩ := comp_len Hkx.out Hex.out HVX.out
  have HLN := Lib.hid hl1
  have HMV : Hid (validN (listM x y) = true) := Lib.hid (listM_valid Hkx.out Hex.out HVX.out HVY.out Hky.out (by have := HKL.out; omega))
  have H8 := Lib.hid (comp_kids Hkx.out Hex.out HVX.out)
  have hkl := HKL.out.2.1
  have HAB : Hid (uniD x.ks x.ks.length ≤ 1048576 ∧ uniP x.ks x.ks.length ≤ 1048576) := Lib.hid ⟨uniD_le _ _ _ (Nat.le_refl _) (fun z hz => by have h1 := sizeN_kid hz; have h2 := sizeK_ks x; have h3 : z.d.length ≤ sizeN z := (by cases z; simp only [Nd.d, sizeN]; omega); omega), uniP_le _ _ _ (Nat.le_refl _) (fun z hz => by have h1 := sizeN_kid hz; have h2 := sizeK_ks x; have h3 := sizeK_length z.ks; have h4 := sizeK_ks z; omega)⟩
  obtain ⟨a, ha⟩ : ∃ a, uniD x.ks x.ks.length = a := ⟨_, rfl⟩
  obtain ⟨b, hb⟩ : ∃ b, uniP x.ks x.ks.length = b := ⟨_, rfl⟩
  have HA := Lib.hid ha
  have HP := Lib.hid hb
  have HCD : Hid (∀ j (hj : j < x.ks.length), (x.ks[j]).d.length ≤ 8 * a) := Lib.hid (fun j hj => by rw [← ha]; exact uniD_covers x.ks H8.out _ (Nat.le_refl _) j hj hj)
  have HCP : Hid (∀ j (hj : j < x.ks.length), (x.ks[j]).ks.length ≤ b) := Lib.hid (fun j hj => by rw [← hb]; exact uniP_covers x.ks _ (Nat.le_refl _) j hj hj)
  have HFD : Hid (flagD x.ks a x.ks.length = true) := Lib.hid (by rw [← ha]; exact flagD_end x.ks H8.out)
  have HFP : Hid (flagP x.ks b x.ks.length = true) := Lib.hid (by rw [← hb]; exact flagP_end x.ks)
  have hab := HAB.out
  rw [ha, hb] at hab
  have HZ : Hid (x.ks = [] → a = 0 ∧ b = 0) := Lib.hid (fun h => by rw [← ha, ← hb, h]; simp [uniD, uniP])
  clear ha hb hl1 hl2 hl3
  go_wp2_with fail
  refine (TUniform_a x a b A1 c1 B1 e1 _ (HT.out.on HB.out) (HX.out.on HB.out (Nat.le_refl _)) HSX.out HVX.out Hkx.out Hex.out (by rw [HA.out]) (by rw [HP.out])).mono ?_
  rintro r w4 ⟨rfl, hb4⟩
  clear x2 y2 z2 x3 y3 z3
  have H2n := Lib.hid (H2.out.below hb4)
  have H3n := Lib.hid (H3.out.below hb4)
  have HBn := Lib.hid (bel_on HB.out hb4)
  clear hb4 H2 H3 HB
  have H2 := H2n
  have H3 := H3n
  have HB := HBn
  clear H2n H3n HBn
  obtain ⟨x2, y2, z2⟩ := H2.out
  obtain ⟨x3, y3, z3⟩ := H3.out
  by_cases hne : x.ks = []
  · have hl0 : x.ks.length = 0 := by rw [hne]; rfl
    obtain ⟨ha0, hb0⟩ := HZ.out hne
    subst ha0 hb0
    have HL0 := Lib.hid hl0
    rw [hl0] at x2
    clear hne hl0
    go_wp2
    go_loop [7, 8, 9] (fun d p i => i = .int .i64 0 ∧ d = .bool true ∧ p = .bool true) (fun _ _ i => 0)
    case atStart => exact ⟨rfl, rfl, rfl⟩
    case round =>
      obtain ⟨rfl, rfl, rfl⟩ := hrel
      have H2z := H2.out
      rw [HL0.out] at H2z
      clear H2 x2
      have H2 := Lib.hid H2z
      clear H2z
      obtain ⟨x2, -, -⟩ := H2.out
      obtain ⟨T, hT⟩ : ∃ T, trimN x = T := ⟨_, rfl⟩
      have HTE := Lib.hid hT
      have hkx := Hkx.out
      have hex := Hex.out
      have HVT : Hid (validN T = true) := Lib.hid (by rw [← hT]; exact valid_trim x HVX.out)
      have HKT : Hid (T.k = 2) := Lib.hid (by rw [← hT, trimN_k]; exact hkx)
      have HET : Hid (T.e = 7) := Lib.hid (by rw [← hT, trimN_e]; exact hex)
      have HST : Hid (sizeN T ≤ 1099511627776) := Lib.hid (by have := size_trim x; have := HSX.out; rw [hT] at *; omega)
      obtain ⟨c, hc⟩ : ∃ c, uniD T.ks T.ks.length = c := ⟨_, rfl⟩
      obtain ⟨d, hd⟩ : ∃ d, uniP T.ks T.ks.length = d := ⟨_, rfl⟩
      have hca : c ≤ 0 := by rw [← hc, ← hT, ← HA.out]; exact uniD_trim (by rw [hkx]; decide)
      have hdb : d ≤ 0 := by rw [← hd, ← hT, ← HP.out]; exact uniP_trim (by rw [hkx]; decide)
      have HC := Lib.hid hc
      have HD := Lib.hid hd
      have HNB : Hid (0 ≤ x.n ∧ x.n ≤ 1048576) := Lib.hid (by have h1 := HLN.out; have h2 := HKL.out; omega)
      have hnb := HNB.out
      clear hT hkx hex hc hd
      have htr := TTrim_c x T A1 c1 B1 e1 _ (HT.out.on HB.out) (HX.out.on HB.out (Nat.le_refl _)) HSX.out HVX.out HTE.out
      rw [HL0.out] at htr
      have HTR := Lib.hid htr
      clear htr
      go_wp2_with fail
      refine (HTR.out).mono ?_
      rintro r w5 ⟨v5, rfl, ⟨A5, c5, B5, e5, hi5, rfl, hh5, ho5⟩, hb5⟩
      have HN := Lib.hid ho5.nd
      clear ho5 hh5 HTR
      clear x2 y2 z2 x3 y3 z3
      have H2n := Lib.hid (H2.out.below hb5)
      have H3n := Lib.hid (H3.out.below hb5)
      have HBn := Lib.hid (bel_on HB.out hb5)
      clear hb5 H2 H3 HB
      have H2 := H2n
      have H3 := H3n
      have HB := HBn
      clear H2n H3n HBn
      obtain ⟨x2, y2, z2⟩ := H2.out
      obtain ⟨x3, y3, z3⟩ := H3.out
      go_wp2_with fail
      refine (TUniform_a T c d A5 c5 B5 e5 _ (HT.out.on HB.out) HN.out HST.out HVT.out HKT.out HET.out (by rw [HC.out]) (by rw [HD.out])).mono ?_
      rintro r w7 ⟨rfl, hb7⟩
      clear HN
      clear x2 y2 z2 x3 y3 z3
      have H2n := Lib.hid (H2.out.below hb7)
      have H3n := Lib.hid (H3.out.below hb7)
      have HBn := Lib.hid (bel_on HB.out hb7)
      clear hb7 H2 H3 HB
      have H2 := H2n
      have H3 := H3n
      have HB := HBn
      clear H2n H3n HBn
      obtain ⟨x2, y2, z2⟩ := H2.out
      obtain ⟨x3, y3, z3⟩ := H3.out
      go_wp2_with fail
      refine abs_code10 (F := fun W => Blk W w.heap.size #[.int .i64 x.k, .int .i64 x.e, .int .i64 x.n, .slice A1 x.d.length c1, .slice B1 0 e1] ∧ Blk W (w.heap.size + 1) #[.int .i64 y.k, .int .i64 y.e, .int .i64 y.n, .slice A2 y.d.length c2, .slice B2 y.ks.length e2] ∧ Blk W w7.heap.size #[.int .i64 x.k, .int .i64 x.e, .int .i64 (x.n + 1), .slice A1 x.d.length c1, .slice B1 0 e1] ∧ Below w.heap.size w W ∧ w.heap.size + 1 < w7.heap.size) ⟨?_, ?_, ?_, ?_, ?_⟩ ?_
      · exact H2.out.alloc _
      · exact H3.out.alloc _
      · exact Blk.fresh _ _ _
      · exact HB.out.alloc HB.out.size _
      · exact H3.out.lt
      generalize w7.heap.size = bm
      clear H2 H3 HB
      clear x2 y2 z2 x3 y3 z3
      rintro w8 ⟨h2, h3, h7, hb, hlo⟩
      have H2 := Lib.hid h2
      have H3 := Lib.hid h3
      have H7 := Lib.hid h7
      have HB := Lib.hid hb
      clear h2 h3 h7 hb
      have hxo : ∀ wc, Keeps (fun q => w8.heap.size ≤ q) w8.drew wc → Blk wc w.heap.size #[.int .i64 x.k, .int .i64 x.e, .int .i64 x.n, .slice A1 x.d.length c1, .slice B1 0 e1] := fun wc hk => H2.out.drew.keeps hk (by have := H2.out.lt; omega)
      have hyo : ∀ wc, Keeps (fun q => w8.heap.size ≤ q) w8.drew wc → Blk wc (w.heap.size + 1) #[.int .i64 y.k, .int .i64 y.e, .int .i64 y.n, .slice A2 y.d.length c2, .slice B2 y.ks.length e2] := fun wc hk => H3.out.drew.keeps hk (by have := H3.out.lt; omega)
      have HXO := Lib.hid hxo
      have HYO := Lib.hid hyo
      clear hxo hyo
      rename_i KK hKK
      refine wp_region_a8 6 (fun q => w8.heap.size ≤ q) (by kernel_rfl) (by kernel_rfl) ?_
      refine a_new_l (T := EmpF w8.heap.size) [] (by kernel_rfl) rfl (by kernel_rfl) trivial (stable_empF _) (fun ρ wc hbc hcn hk => ?_) ?_
      · obtain ⟨hcn, -⟩ := hcn
        exact ⟨.slice (some ⟨wc.heap.size, 0, none⟩) 0 0, wc.alloc (.cells #[] 25), by go_simp, ⟨_, rfl, hbc.size, heap_alloc_new wc _⟩, (Below.refl _ _).alloc (Nat.le_refl _) _⟩
      refine a_val_l (u := ?_) [2] (by kernel_rfl) rfl (by kernel_rfl) trivial (fun ρ wc hbc hcn hk => ?_) ?_; rotate_left
      · obtain ⟨hcn, -⟩ := hcn
        simp at hk
        go_simp
        rfl
      refine a_val_l (u := ?_) [139] (by kernel_rfl) rfl (by kernel_rfl) trivial (fun ρ wc hbc hcn hk => ?_) ?_; rotate_left
      · obtain ⟨hcn, -⟩ := hcn
        simp at hk
        obtain ⟨x2, y2, z2⟩ := HXO.out wc hbc
        go_simp
        rfl
      refine a_new (T := OwnKF w w8.heap.size x.ks) [138, 140] (by kernel_rfl) rfl rfl (by kernel_rfl) trivial (stable_ownKF _ _ _) (fun ρ wc hbc hcn hk => ?_) ?_
      · obtain ⟨⟨q0, h56, hq0, hqc⟩, h58, -⟩ := hk
        obtain ⟨hk1, hk2, hk3⟩ := HX.out.kidsX
        exact exec_appK0 (.tmp 138) (.tmp 140) 23 rfl Try.underlying23 h56 hqc hq0 (h58.trans (by rw [HL0.out])) hk1 hk2 hk3 (N0 := w.heap.size) (Nat.le_refl _) (bel_on (bel_drew HB.out) hbc) (by have := HKL.out; omega)
      refine a_val_l (u := ?_) [3] (by kernel_rfl) rfl (by kernel_rfl) trivial (fun ρ wc hbc hcn hk => ?_) ?_; rotate_left
      · obtain ⟨hcn, -⟩ := hcn
        simp at hk
        obtain ⟨x3, y3, z3⟩ := HYO.out wc hbc
        go_simp
        rfl
      refine a_new (T := CelF y A2 c2 B2 e2) [142] (by kernel_rfl) rfl rfl (by kernel_rfl) trivial (stable_celF _ _ _ _ _) (fun ρ wc hbc hcn hk => ?_) ?_
      · obtain ⟨hcn, -⟩ := hcn
        simp at hk
        exact ⟨.slice (some ⟨wc.heap.size, 0, none⟩) 1 1, wc.alloc (.cells #[.int .i64 y.k, .int .i64 y.e, .int .i64 y.n, .slice A2 y.d.length c2, .slice B2 y.ks.length e2] 25), by go_simp, ⟨_, rfl, fun o _ => by rw [blk_new]; simp [fiveC]⟩, (Below.refl _ _).alloc (Nat.le_refl _) _⟩
      refine a_sp (T := OwnKF w w8.heap.size (x.ks ++ [y])) [141, 143] rfl rfl (by kernel_rfl) trivial (stable_ownKF _ _ _) (fun a wc hbc hcn hk => ?_) ?_
      · obtain ⟨h59, ⟨q, h61, hq61⟩, -⟩ := hk
        refine wpList_appK1 rfl (.tmp 141) (.tmp 143) 23 rfl Try.underlying23 rfl h59 h61 hq61 HY.out HKL.out.1 hbc.size ?_
        intro v' w' hown' hgr
        refine ⟨rfl, v', rfl, hown', ?_⟩
        rw [if_pos rfl]
        refine ⟨hgr.os, hgr.tape, hgr.output, hgr.size, fun q1 h1 h2 => hgr.block q1 h1 fun e => h2 ?_⟩
        obtain ⟨vs, hv1, _⟩ := h59
        exact (hv1.lt q1 e.symm).1
      refine a_val_l (u := ?_) [12] (by kernel_rfl) rfl (by kernel_rfl) trivial (fun ρ wc hbc hcn hk => ?_) ?_; rotate_left
      · obtain ⟨hcn, -⟩ := hcn
        simp at hk
        go_simp
        rfl
      refine a_end_lit 184 rfl (fun ff w9 hb9 hk => ?_)
      have hO2 : OwnK w w9 w8.heap.size (ff 144) (x.ks ++ [y]) := allN_atF hk 144 (by decide) (by decide)
      simp [AllN] at hk
      simp only [frameL, hk, Nat.zero_add, Nat.reduceAdd]
      have HB9 := Lib.hid hb9
      have hbl : Below w8.heap.size w8 w9 := by
        have := hb9.below (B := w8.heap.size) (Nat.le_refl _) (fun q hq => hq)
        exact ⟨this.os, this.tape, this.output, this.size, this.block⟩
      have HBL := Lib.hid hbl
      obtain ⟨B7, c7, hv7, -⟩ := hO2.slice (N0 := w.heap.size) (Nat.le_refl _) (bel_on HB.out hbl)
      rw [show (x.ks ++ [y]).length = x.ks.length + 1 by simp] at hv7
      have HO2 := Lib.hid hO2
      clear hO2 hb9 hk hbl
      rw [hv7] at HO2
      rw [hv7]
      clear hv7
      generalize ff 138 = v56
      generalize ff 141 = v59
      generalize ff 143 = v61
      have z7 := H7.out.lt
      refine split_store (fun W => Blk W w.heap.size #[.int .i64 x.k, .int .i64 x.e, .int .i64 x.n, .slice A1 x.d.length c1, .slice B1 0 e1] ∧ Blk W (w.heap.size + 1) #[.int .i64 y.k, .int .i64 y.e, .int .i64 y.n, .slice A2 y.d.length c2, .slice B2 y.ks.length e2] ∧ Blk W bm #[.int .i64 x.k, .int .i64 x.e, .int .i64 (x.n + 1), .slice A1 x.d.length c1, .slice B7 (x.ks.length + 1) c7] ∧ NdR W A1 c1 B7 c7 (listM x y) ∧ Below w.heap.size w W) rfl ?_ ?_
      · obtain ⟨x7, y7, z7'⟩ := (H7.out.drew.keeps HB9.out (by have := H7.out.lt; omega))
        go_wp2
        have hst : ∀ u, Below w.heap.size w (w9.setCell ⟨bm, 4, none⟩ u) := fun u => Below.setCell ((bel_on HB.out HBL.out)) (by show w.heap.size ≤ bm; omega) _
        refine ⟨rfl, rfl, ?_, ?_, ?_, ?_, ?_⟩
        · exact (H2.out.below HBL.out).other (by show bm ≠ w.heap.size; omega) _
        · exact (H3.out.below HBL.out).other (by show bm ≠ w.heap.size + 1; omega) _
        · exact (H7.out.below HBL.out).set 4 (by simp) _
        · refine (listM_here (N0 := w.heap.size) (W0 := w) (x := x) (y := y) (by have := HNB.out; omega) (HX.out.on (hst _) (Nat.le_refl _)) (base := w8.heap.size) (n0 := x.ks.length + 1) (HO2.out.far (by show bm < w8.heap.size; exact z7) _) (Nat.le_refl _) (hst _)).2
        · exact hst _
      rintro w9 ⟨h2, h3, h7, hm, hb⟩
      refine hKK _ _ ?_
      clear H2 H3 H7 HB HB9 HBL HO2 HXO HYO
      have H2 := Lib.hid h2
      have H3 := Lib.hid h3
      have H7 := Lib.hid h7
      have HM := Lib.hid hm
      have HB := Lib.hid hb
      clear h2 h3 h7 hm hb hKK KK
      obtain ⟨x2, y2, z2⟩ := H2.out
      obtain ⟨x3, y3, z3⟩ := H3.out
      obtain ⟨x7, y7, z7⟩ := H7.out
      have HU : Hid ((uniD (x.ks ++ [y]) (x.ks ++ [y]).length : Int) = ((max 0 (y.d.length / 8) : Nat) : Int)) := Lib.hid (by rw [uniD_one, HA.out])
      have HV : Hid ((uniP (x.ks ++ [y]) (x.ks ++ [y]).length : Int) = ((max 0 y.ks.length : Nat) : Int)) := Lib.hid (by rw [uniP_one, HP.out])
      go_wp2_with fail
      refine (TUniform_m x y _ _ A1 c1 B7 c7 _ (HT.out.on HB.out) HM.out HSM.out HMV.out Hkx.out Hex.out HU.out HV.out).mono ?_
      rintro r w10 ⟨rfl, hb10⟩
      clear x2 y2 z2 x3 y3 z3 x7 y7 z7
      have H3n := H3.out.below hb10
      have HBn := Lib.hid (bel_on HB.out hb10)
      clear hb10 H2 H3 H7 HM HB
      obtain ⟨x3, y3, z3⟩ := H3n
      have hkl2 := HKL.out.2.2
      have ht1 : (c : Int) ≤ (0 : Int) := by omega
      have ht2 : (d : Int) ≤ (0 : Int) := by omega
      generalize y.d.length = dl at *
      generalize y.ks.length = kl at *
      obtain ⟨dq, hdq⟩ : ∃ dq : Nat, dl / 8 = dq := ⟨_, rfl⟩
      have hdi : (dl : Int) / 8 = (dq : Int) := by omega
      have hq8 : dq ≤ 1048576 := by omega
      rw [hdq]
      by_cases hm1 : 0 < dq
      · have hn1 : (0 : Int) < (dq : Int) := by omega
        rw [Nat.max_eq_right (by omega : 0 ≤ dq)]
        by_cases hm2 : 0 < kl
        · have hn2 : (0 : Int) < (kl : Int) := by omega
          rw [Nat.max_eq_right (by omega : 0 ≤ kl)]
          go_wp2
          go_ret
          exact ⟨rfl, HBn.out⟩
        · have hn2 : ¬ (0 : Int) < (kl : Int) := by omega
          rw [Nat.max_eq_left (by omega : kl ≤ 0)]
          go_wp2
          go_ret
          exact ⟨rfl, HBn.out⟩
      · have hn1 : ¬ (0 : Int) < (dq : Int) := by omega
        rw [Nat.max_eq_left (by omega : dq ≤ 0)]
        by_cases hm2 : 0 < kl
        · have hn2 : (0 : Int) < (kl : Int) := by omega
          rw [Nat.max_eq_right (by omega : 0 ≤ kl)]
          go_wp2
          go_ret
          exact ⟨rfl, HBn.out⟩
        · have hn2 : ¬ (0 : Int) < (kl : Int) := by omega
          rw [Nat.max_eq_left (by omega : kl ≤ 0)]
          go_wp2
          go_ret
          exact ⟨rfl, HBn.out⟩
  · have HF0 : Hid (flagD x.ks a 0 = false) := Lib.hid (by unfold flagD; simp [hne])
    have HG0 : Hid (flagP x.ks b 0 = false) := Lib.hid (by unfold flagP; simp [hne])
    go_wp2
    go_loop [7, 8, 9] (fun d p i => ∃ k : Nat, k ≤ x.ks.length ∧ i = .int .i64 k ∧ d = .bool (flagD x.ks a k) ∧ p = .bool (flagP x.ks b k)) (fun _ _ i => x.ks.length - (intOf i).toNat)
    case atStart => exact ⟨0, Nat.zero_le _, rfl, by rw [HF0.out], by rw [HG0.out]⟩
    case round =>
      obtain ⟨k, hk, rfl, rfl, rfl⟩ := hrel
      by_cases hlt : k < x.ks.length
      · obtain ⟨bb, off, A', c', B', c2', hB, -, -, -, g3, g4, -⟩ := (HX.out.on HB.out (Nat.le_refl _)).kidsX.1.at hlt
        subst hB
        have HFS := Lib.hid (flagD_succ (a := a) hlt)
        have HPS := Lib.hid (flagP_succ (b := b) hlt)
        have q1 := HCD.out k hlt
        have q2 := HCP.out k hlt
        have hi1 : (k : Int) < (x.ks.length : Int) := by omega
        generalize (x.ks[k]).d.length = dl at *
        generalize (x.ks[k]).ks.length = kl at *
        have q3 : ¬ (8 * (a : Int) < (dl : Int)) := by omega
        have q4 : ¬ ((b : Int) < (kl : Int)) := by omega
        cases hfd : flagD x.ks a k <;> cases hfp : flagP x.ks b k
        all_goals
          go_wp2
          go_round
          case rel => exact ⟨k + 1, by omega, by go_num, by rw [HFS.out, hfd]; simp; try (rw [Bool.eq_iff_iff]; simp; omega), by rw [HPS.out, hfp]; simp; try (rw [Bool.eq_iff_iff]; simp; omega)⟩
          case measure => simp [intOf]; omega
      · obtain rfl : k = x.ks.length := by omega
        rw [HFD.out, HFP.out]
        clear hk hlt
        obtain ⟨T, hT⟩ : ∃ T, trimN x = T := ⟨_, rfl⟩
        have HTE := Lib.hid hT
        have hkx := Hkx.out
        have hex := Hex.out
        have HVT : Hid (validN T = true) := Lib.hid (by rw [← hT]; exact valid_trim x HVX.out)
        have HKT : Hid (T.k = 2) := Lib.hid (by rw [← hT, trimN_k]; exact hkx)
        have HET : Hid (T.e = 7) := Lib.hid (by rw [← hT, trimN_e]; exact hex)
        have HST : Hid (sizeN T ≤ 1099511627776) := Lib.hid (by have := size_trim x; have := HSX.out; rw [hT] at *; omega)
        obtain ⟨c, hc⟩ : ∃ c, uniD T.ks T.ks.length = c := ⟨_, rfl⟩
        obtain ⟨d, hd⟩ : ∃ d, uniP T.ks T.ks.length = d := ⟨_, rfl⟩
        have hca : c ≤ a := by rw [← hc, ← hT, ← HA.out]; exact uniD_trim (by rw [hkx]; decide)
        have hdb : d ≤ b := by rw [← hd, ← hT, ← HP.out]; exact uniP_trim (by rw [hkx]; decide)
        have HC := Lib.hid hc
        have HD := Lib.hid hd
        have HNB : Hid (0 ≤ x.n ∧ x.n ≤ 1048576) := Lib.hid (by have h1 := HLN.out; have h2 := HKL.out; omega)
        have hnb := HNB.out
        clear hT hkx hex hc hd
        have htr := TTrim_c x T A1 c1 B1 e1 _ (HT.out.on HB.out) (HX.out.on HB.out (Nat.le_refl _)) HSX.out HVX.out HTE.out
        have HTR := Lib.hid htr
        clear htr
        go_wp2_with fail
        refine (HTR.out).mono ?_
        rintro r w5 ⟨v5, rfl, ⟨A5, c5, B5, e5, hi5, rfl, hh5, ho5⟩, hb5⟩
        have HN := Lib.hid ho5.nd
        clear ho5 hh5 HTR
        clear x2 y2 z2 x3 y3 z3
        have H2n := Lib.hid (H2.out.below hb5)
        have H3n := Lib.hid (H3.out.below hb5)
        have HBn := Lib.hid (bel_on HB.out hb5)
        clear hb5 H2 H3 HB
        have H2 := H2n
        have H3 := H3n
        have HB := HBn
        clear H2n H3n HBn
        obtain ⟨x2, y2, z2⟩ := H2.out
        obtain ⟨x3, y3, z3⟩ := H3.out
        go_wp2_with fail
        refine (TUniform_a T c d A5 c5 B5 e5 _ (HT.out.on HB.out) HN.out HST.out HVT.out HKT.out HET.out (by rw [HC.out]) (by rw [HD.out])).mono ?_
        rintro r w7 ⟨rfl, hb7⟩
        clear HN
        clear x2 y2 z2 x3 y3 z3
        have H2n := Lib.hid (H2.out.below hb7)
        have H3n := Lib.hid (H3.out.below hb7)
        have HBn := Lib.hid (bel_on HB.out hb7)
        clear hb7 H2 H3 HB
        have H2 := H2n
        have H3 := H3n
        have HB := HBn
        clear H2n H3n HBn
        obtain ⟨x2, y2, z2⟩ := H2.out
        obtain ⟨x3, y3, z3⟩ := H3.out
        go_wp2_with fail
        refine abs_code10 (F := fun W => Blk W w.heap.size #[.int .i64 x.k, .int .i64 x.e, .int .i64 x.n, .slice A1 x.d.length c1, .slice B1 x.ks.length e1] ∧ Blk W (w.heap.size + 1) #[.int .i64 y.k, .int .i64 y.e, .int .i64 y.n, .slice A2 y.d.length c2, .slice B2 y.ks.length e2] ∧ Blk W w7.heap.size #[.int .i64 x.k, .int .i64 x.e, .int .i64 (x.n + 1), .slice A1 x.d.length c1, .slice B1 x.ks.length e1] ∧ Below w.heap.size w W ∧ w.heap.size + 1 < w7.heap.size) ⟨?_, ?_, ?_, ?_, ?_⟩ ?_
        · exact H2.out.alloc _
        · exact H3.out.alloc _
        · exact Blk.fresh _ _ _
        · exact HB.out.alloc HB.out.size _
        · exact H3.out.lt
        generalize w7.heap.size = bm
        clear H2 H3 HB
        clear x2 y2 z2 x3 y3 z3
        rintro w8 ⟨h2, h3, h7, hb, hlo⟩
        have H2 := Lib.hid h2
        have H3 := Lib.hid h3
        have H7 := Lib.hid h7
        have HB := Lib.hid hb
        clear h2 h3 h7 hb
        have hxo : ∀ wc, Keeps (fun q => w8.heap.size ≤ q) w8.drew wc → Blk wc w.heap.size #[.int .i64 x.k, .int .i64 x.e, .int .i64 x.n, .slice A1 x.d.length c1, .slice B1 x.ks.length e1] := fun wc hk => H2.out.drew.keeps hk (by have := H2.out.lt; omega)
        have hyo : ∀ wc, Keeps (fun q => w8.heap.size ≤ q) w8.drew wc → Blk wc (w.heap.size + 1) #[.int .i64 y.k, .int .i64 y.e, .int .i64 y.n, .slice A2 y.d.length c2, .slice B2 y.ks.length e2] := fun wc hk => H3.out.drew.keeps hk (by have := H3.out.lt; omega)
        have HXO := Lib.hid hxo
        have HYO := Lib.hid hyo
        clear hxo hyo
        rename_i KK hKK
        refine wp_region_a8 6 (fun q => w8.heap.size ≤ q) (by kernel_rfl) (by kernel_rfl) ?_
        refine a_new_l (T := EmpF w8.heap.size) [] (by kernel_rfl) rfl (by kernel_rfl) trivial (stable_empF _) (fun ρ wc hbc hcn hk => ?_) ?_
        · obtain ⟨hcn, -⟩ := hcn
          exact ⟨.slice (some ⟨wc.heap.size, 0, none⟩) 0 0, wc.alloc (.cells #[] 25), by go_simp, ⟨_, rfl, hbc.size, heap_alloc_new wc _⟩, (Below.refl _ _).alloc (Nat.le_refl _) _⟩
        refine a_val_l (u := ?_) [2] (by kernel_rfl) rfl (by kernel_rfl) trivial (fun ρ wc hbc hcn hk => ?_) ?_; rotate_left
        · obtain ⟨hcn, -⟩ := hcn
          simp at hk
          go_simp
          rfl
        refine a_val_l (u := ?_) [139] (by kernel_rfl) rfl (by kernel_rfl) trivial (fun ρ wc hbc hcn hk => ?_) ?_; rotate_left
        · obtain ⟨hcn, -⟩ := hcn
          simp at hk
          obtain ⟨x2, y2, z2⟩ := HXO.out wc hbc
          go_simp
          rfl
        refine a_new (T := OwnKF w w8.heap.size x.ks) [138, 140] (by kernel_rfl) rfl rfl (by kernel_rfl) trivial (stable_ownKF _ _ _) (fun ρ wc hbc hcn hk => ?_) ?_
        · obtain ⟨⟨q0, h56, hq0, hqc⟩, h58, -⟩ := hk
          obtain ⟨hk1, hk2, hk3⟩ := HX.out.kidsX
          exact exec_appK0 (.tmp 138) (.tmp 140) 23 rfl Try.underlying23 h56 hqc hq0 h58 hk1 hk2 hk3 (N0 := w.heap.size) (Nat.le_refl _) (bel_on (bel_drew HB.out) hbc) (by have := HKL.out; omega)
        refine a_val_l (u := ?_) [3] (by kernel_rfl) rfl (by kernel_rfl) trivial (fun ρ wc hbc hcn hk => ?_) ?_; rotate_left
        · obtain ⟨hcn, -⟩ := hcn
          simp at hk
          obtain ⟨x3, y3, z3⟩ := HYO.out wc hbc
          go_simp
          rfl
        refine a_new (T := CelF y A2 c2 B2 e2) [142] (by kernel_rfl) rfl rfl (by kernel_rfl) trivial (stable_celF _ _ _ _ _) (fun ρ wc hbc hcn hk => ?_) ?_
        · obtain ⟨hcn, -⟩ := hcn
          simp at hk
          exact ⟨.slice (some ⟨wc.heap.size, 0, none⟩) 1 1, wc.alloc (.cells #[.int .i64 y.k, .int .i64 y.e, .int .i64 y.n, .slice A2 y.d.length c2, .slice B2 y.ks.length e2] 25), by go_simp, ⟨_, rfl, fun o _ => by rw [blk_new]; simp [fiveC]⟩, (Below.refl _ _).alloc (Nat.le_refl _) _⟩
        refine a_sp (T := OwnKF w w8.heap.size (x.ks ++ [y])) [141, 143] rfl rfl (by kernel_rfl) trivial (stable_ownKF _ _ _) (fun a wc hbc hcn hk => ?_) ?_
        · obtain ⟨h59, ⟨q, h61, hq61⟩, -⟩ := hk
          refine wpList_appK1 rfl (.tmp 141) (.tmp 143) 23 rfl Try.underlying23 rfl h59 h61 hq61 HY.out HKL.out.1 hbc.size ?_
          intro v' w' hown' hgr
          refine ⟨rfl, v', rfl, hown', ?_⟩
          rw [if_pos rfl]
          refine ⟨hgr.os, hgr.tape, hgr.output, hgr.size, fun q1 h1 h2 => hgr.block q1 h1 fun e => h2 ?_⟩
          obtain ⟨vs, hv1, _⟩ := h59
          exact (hv1.lt q1 e.symm).1
        refine a_val_l (u := ?_) [12] (by kernel_rfl) rfl (by kernel_rfl) trivial (fun ρ wc hbc hcn hk => ?_) ?_; rotate_left
        · obtain ⟨hcn, -⟩ := hcn
          simp at hk
          go_simp
          rfl
        refine a_end_lit 184 rfl (fun ff w9 hb9 hk => ?_)
        have hO2 : OwnK w w9 w8.heap.size (ff 144) (x.ks ++ [y]) := allN_atF hk 144 (by decide) (by decide)
        simp [AllN] at hk
        simp only [frameL, hk, Nat.zero_add, Nat.reduceAdd]
        have HB9 := Lib.hid hb9
        have hbl : Below w8.heap.size w8 w9 := by
          have := hb9.below (B := w8.heap.size) (Nat.le_refl _) (fun q hq => hq)
          exact ⟨this.os, this.tape, this.output, this.size, this.block⟩
        have HBL := Lib.hid hbl
        obtain ⟨B7, c7, hv7, -⟩ := hO2.slice (N0 := w.heap.size) (Nat.le_refl _) (bel_on HB.out hbl)
        rw [show (x.ks ++ [y]).length = x.ks.length + 1 by simp] at hv7
        have HO2 := Lib.hid hO2
        clear hO2 hb9 hk hbl
        rw [hv7] at HO2
        rw [hv7]
        clear hv7
        generalize ff 138 = v56
        generalize ff 141 = v59
        generalize ff 143 = v61
        have z7 := H7.out.lt
        refine split_store (fun W => Blk W w.heap.size #[.int .i64 x.k, .int .i64 x.e, .int .i64 x.n, .slice A1 x.d.length c1, .slice B1 x.ks.length e1] ∧ Blk W (w.heap.size + 1) #[.int .i64 y.k, .int .i64 y.e, .int .i64 y.n, .slice A2 y.d.length c2, .slice B2 y.ks.length e2] ∧ Blk W bm #[.int .i64 x.k, .int .i64 x.e, .int .i64 (x.n + 1), .slice A1 x.d.length c1, .slice B7 (x.ks.length + 1) c7] ∧ NdR W A1 c1 B7 c7 (listM x y) ∧ Below w.heap.size w W) rfl ?_ ?_
        · obtain ⟨x7, y7, z7'⟩ := (H7.out.drew.keeps HB9.out (by have := H7.out.lt; omega))
          go_wp2
          have hst : ∀ u, Below w.heap.size w (w9.setCell ⟨bm, 4, none⟩ u) := fun u => Below.setCell ((bel_on HB.out HBL.out)) (by show w.heap.size ≤ bm; omega) _
          refine ⟨rfl, rfl, ?_, ?_, ?_, ?_, ?_⟩
          · exact (H2.out.below HBL.out).other (by show bm ≠ w.heap.size; omega) _
          · exact (H3.out.below HBL.out).other (by show bm ≠ w.heap.size + 1; omega) _
          · exact (H7.out.below HBL.out).set 4 (by simp) _
          · refine (listM_here (N0 := w.heap.size) (W0 := w) (x := x) (y := y) (by have := HNB.out; omega) (HX.out.on (hst _) (Nat.le_refl _)) (base := w8.heap.size) (n0 := x.ks.length + 1) (HO2.out.far (by show bm < w8.heap.size; exact z7) _) (Nat.le_refl _) (hst _)).2
          · exact hst _
        rintro w9 ⟨h2, h3, h7, hm, hb⟩
        refine hKK _ _ ?_
        clear H2 H3 H7 HB HB9 HBL HO2 HXO HYO
        have H2 := Lib.hid h2
        have H3 := Lib.hid h3
        have H7 := Lib.hid h7
        have HM := Lib.hid hm
        have HB := Lib.hid hb
        clear h2 h3 h7 hm hb hKK KK
        obtain ⟨x2, y2, z2⟩ := H2.out
        obtain ⟨x3, y3, z3⟩ := H3.out
        obtain ⟨x7, y7, z7⟩ := H7.out
        have HU : Hid ((uniD (x.ks ++ [y]) (x.ks ++ [y]).length : Int) = ((max a (y.d.length / 8) : Nat) : Int)) := Lib.hid (by rw [uniD_one, HA.out])
        have HV : Hid ((uniP (x.ks ++ [y]) (x.ks ++ [y]).length : Int) = ((max b y.ks.length : Nat) : Int)) := Lib.hid (by rw [uniP_one, HP.out])
        go_wp2_with fail
        refine (TUniform_m x y _ _ A1 c1 B7 c7 _ (HT.out.on HB.out) HM.out HSM.out HMV.out Hkx.out Hex.out HU.out HV.out).mono ?_
        rintro r w10 ⟨rfl, hb10⟩
        clear x2 y2 z2 x3 y3 z3 x7 y7 z7
        have H3n := H3.out.below hb10
        have HBn := Lib.hid (bel_on HB.out hb10)
        clear hb10 H2 H3 H7 HM HB
        obtain ⟨x3, y3, z3⟩ := H3n
        have hkl2 := HKL.out.2.2
        have ht1 : (c : Int) ≤ (a : Int) := by omega
        have ht2 : (d : Int) ≤ (b : Int) := by omega
        generalize y.d.length = dl at *
        generalize y.ks.length = kl at *
        obtain ⟨dq, hdq⟩ : ∃ dq : Nat, dl / 8 = dq := ⟨_, rfl⟩
        have hdi : (dl : Int) / 8 = (dq : Int) := by omega
        have hq8 : dq ≤ 1048576 := by omega
        rw [hdq]
        by_cases hm1 : a < dq
        · have hn1 : (a : Int) < (dq : Int) := by omega
          rw [Nat.max_eq_right (by omega : a ≤ dq)]
          by_cases hm2 : b < kl
          · have hn2 : (b : Int) < (kl : Int) := by omega
            rw [Nat.max_eq_right (by omega : b ≤ kl)]
            go_wp2
            go_ret
            exact ⟨rfl, HBn.out⟩
          · have hn2 : ¬ (b : Int) < (kl : Int) := by omega
            rw [Nat.max_eq_left (by omega : kl ≤ b)]
            go_wp2
            go_ret
            exact ⟨rfl, HBn.out⟩
        · have hn1 : ¬ (a : Int) < (dq : Int) := by omega
          rw [Nat.max_eq_left (by omega : dq ≤ a)]
          by_cases hm2 : b < kl
          · have hn2 : (b : Int) < (kl : Int) := by omega
            rw [Nat.max_eq_right (by omega : b ≤ kl)]
            go_wp2
            go_ret
            exact ⟨rfl, HBn.out⟩
          · have hn2 : ¬ (b : Int) < (kl : Int) := by omega
            rw [Nat.max_eq_left (by omega : kl ≤ b)]
            go_wp2
            go_ret
            exact ⟨rfl, HBn.out⟩
end Go.Proofs.Ytgleanjfaecceaa
