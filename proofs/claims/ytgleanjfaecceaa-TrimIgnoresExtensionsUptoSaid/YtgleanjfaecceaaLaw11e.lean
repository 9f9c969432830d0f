/- A law of layer 11: TrimIgnoresExtensions. -/
import Derived.Test.YtgleanjfaecceaaLaw11d
import Derived.Test.YtgleanjfaecceaaAppZ
namespace Go.Proofs.Ytgleanjfaecceaa
open Go.ChangeShapes Go.WideShapes Go.ChangeAt Go.RowKit
set_option linter.unusedVariables false
set_option linter.unusedSimpArgs false
attribute [local simp] AllK KnowsV look Is

/-- the struct with q zero bytes and p null pointers behind it -/
def extN (x : Nd) (q p : Nat) : Nd := .mk x.k x.e x.n (x.d ++ List.replicate q 0) (x.ks ++ List.replicate p nd0)
/-- with one pointer more -/
def ptrN (x y : Nd) : Nd := .mk x.k x.e x.n x.d (x.ks ++ [y])
/-- with bytes more -/
def datN (x : Nd) (bs : List Int) : Nd := .mk x.k x.e x.n (x.d ++ bs) x.ks
def oneL (x : Nd) : Nd := .mk 2 7 1 [] [x]
theorem struct_head {x : Nd} (hk : x.k = 1) (hv : validN x = true) : x.e = 0 ∧ x.n = 0 ∧ x.d.length % 8 = 0 := by
  obtain ⟨k, e, n, d, ks⟩ := x
  simp only [Nd.k] at hk
  subst hk
  simp only [validN, Bool.and_eq_true] at hv
  have h := hv.2
  unfold headB at h
  rw [if_neg (by decide), if_pos rfl] at h
  have h2 := of_decide_eq_true h
  exact ⟨h2.1, h2.2.1, h2.2.2.1⟩
theorem struct_valid {x : Nd} (hk : x.k = 1) (hv : validN x = true) {d' : List Int} {ks' : List Nd} (h8 : d'.length % 8 = 0) (hd : d'.length ≤ 524280) (hks : ks'.length ≤ 65535) (hk' : ∀ z ∈ ks', validN z = true) : validN (.mk x.k x.e x.n d' ks') = true := by
  obtain ⟨he, hn, -⟩ := struct_head hk hv
  rw [hk, he, hn]
  simp only [validN, Bool.and_eq_true]
  refine ⟨validK_all fun z hz => ⟨hk' z hz, fun h => absurd h.1 (by decide)⟩, ?_⟩
  unfold headB
  rw [if_neg (by decide), if_pos rfl]
  exact decide_eq_true ⟨rfl, rfl, h8, hd, hks⟩
theorem struct_kids {x : Nd} (hv : validN x = true) : ∀ z ∈ x.ks, validN z = true := by
  obtain ⟨k, e, n, d, ks⟩ := x
  simp only [validN, Bool.and_eq_true] at hv
  exact fun z hz => (validK_mem hv.1 hz).1
theorem nd0_valid : validN nd0 = true := by decide +kernel
theorem ext_valid {x : Nd} {q p : Nat} (hk : x.k = 1) (hv : validN x = true) (hs : sizeN x ≤ 3000) (hq : q % 8 = 0) (hq2 : q ≤ 1000) (hp : p ≤ 1000) : validN (extN x q p) = true := by
  have h1 := sizeK_length x.ks
  have h2 := sizeK_ks x
  have h3 : x.d.length ≤ sizeN x := by cases x; simp only [Nd.d, sizeN]; omega
  have h4 := (struct_head hk hv).2.2
  refine struct_valid hk hv (by rw [List.length_append, List.length_replicate]; omega) (by rw [List.length_append, List.length_replicate]; omega) (by rw [List.length_append, List.length_replicate]; omega) fun z hz => ?_
  rcases List.mem_append.1 hz with h | h
  · exact struct_kids hv z h
  · rw [List.eq_of_mem_replicate h]; exact nd0_valid
theorem ext_size (x : Nd) (q p : Nat) : sizeN (extN x q p) = sizeN x + q + p := by
  obtain ⟨k, e, n, d, ks⟩ := x
  have h : ∀ p, sizeK (List.replicate p nd0) = p := by
    intro p
    induction p with
    | zero => simp [sizeK]
    | succ p ih => simp only [List.replicate_succ, sizeK, ih]; simp [nd0, sizeN, sizeK]; omega
  simp only [extN, Nd.k, Nd.e, Nd.n, Nd.d, Nd.ks, sizeN, sizeK_append, h, List.length_append, List.length_replicate]
  omega
theorem ptr_size (x y : Nd) : sizeN (ptrN x y) = sizeN x + sizeN y := by
  obtain ⟨k, e, n, d, ks⟩ := x
  simp only [ptrN, Nd.k, Nd.e, Nd.n, Nd.d, Nd.ks, sizeN, sizeK_append, sizeK]
  omega
theorem dat_size (x : Nd) (bs : List Int) : sizeN (datN x bs) = sizeN x + bs.length := by
  obtain ⟨k, e, n, d, ks⟩ := x
  simp only [datN, Nd.k, Nd.e, Nd.n, Nd.d, Nd.ks, sizeN, List.length_append]
  omega
theorem one_size (x : Nd) : sizeN (oneL x) = 1 + sizeN x := by simp [oneL, sizeN, sizeK]
theorem one_valid {x : Nd} (hk : x.k = 1) (hv : validN x = true) : validN (oneL x) = true := by
  simp only [oneL, validN, validK, hv, Bool.and_eq_true]
  refine ⟨⟨⟨trivial, by simp [hk]⟩, trivial⟩, ?_⟩
  unfold headB
  rw [if_neg (by decide), if_neg (by decide), if_pos rfl]
  exact decide_eq_true ⟨by decide, by decide, by decide, by decide, fun _ => ⟨rfl, rfl⟩, fun h => absurd h (by decide)⟩
theorem ptr_valid {x y : Nd} (hk : x.k = 1) (hv : validN x = true) (hy : validN y = true) (hs : sizeN x ≤ 5000) : validN (ptrN x y) = true := by
  have h1 := sizeK_length x.ks
  have h2 := sizeK_ks x
  have h3 : x.d.length ≤ sizeN x := by cases x; simp only [Nd.d, sizeN]; omega
  refine struct_valid hk hv (struct_head hk hv).2.2 (by omega) (by rw [List.length_append, List.length_singleton]; omega) fun z hz => ?_
  rcases List.mem_append.1 hz with h | h
  · exact struct_kids hv z h
  · rw [List.mem_singleton.1 h]; exact hy
theorem dat_valid {x : Nd} {bs : List Int} (hk : x.k = 1) (hv : validN x = true) (hs : sizeN x ≤ 5000) (hb : bs.length = 8) : validN (datN x bs) = true := by
  have h1 := sizeK_length x.ks
  have h2 := sizeK_ks x
  have h3 : x.d.length ≤ sizeN x := by cases x; simp only [Nd.d, sizeN]; omega
  have h4 := (struct_head hk hv).2.2
  exact struct_valid hk hv (by rw [List.length_append, hb]; omega) (by rw [List.length_append, hb]; omega) (by omega) (struct_kids hv)
theorem ext_trim {x : Nd} (hk : x.k = 1) (hv : validN x = true) (q p : Nat) : trimN (extN x q p) = trimN x := by
  have h8 := (struct_head hk hv).2.2
  obtain ⟨k, e, n, d, ks⟩ := x
  simp only [Nd.k] at hk
  subst hk
  exact trim_extend h8 fun z hz => by rw [List.eq_of_mem_replicate hz]; rfl
theorem one_trim (x : Nd) : trimN (oneL x) = oneL (trimN x) := by simp [oneL, trimN, trimK]
theorem ptr_trim {x y : Nd} (hk : x.k = 1) (hv : validN x = true) (q p : Nat) : (trimN (ptrN (extN x q p) y) = trimN x) ↔ y.k = 0 := by
  have h8 := (struct_head hk hv).2.2
  have he := ext_trim hk hv q p
  obtain ⟨k, e, n, d, ks⟩ := x
  simp only [Nd.k] at hk
  subst hk
  constructor
  · intro h
    refine Classical.byContradiction fun h0 => ?_
    rw [← he] at h
    exact trim_more h0 h
  · intro h0
    have h1 : ptrN (extN (.mk 1 e n d ks) q p) y = .mk 1 e n (d ++ List.replicate q 0) (ks ++ (List.replicate p nd0 ++ [y])) := by
      simp [ptrN, extN, Nd.k, Nd.e, Nd.n, Nd.d, Nd.ks]
    rw [h1]
    exact trim_extend h8 fun z hz => by
      rcases List.mem_append.1 hz with h | h
      · rw [List.eq_of_mem_replicate h]; rfl
      · rw [List.mem_singleton.1 h]; exact h0
theorem dat_trim {x : Nd} {b : Int} (hk : x.k = 1) (hv : validN x = true) (q p : Nat) (hq : q % 8 = 0) : (trimN (datN (extN x q p) [0, 0, 0, 0, 0, 0, 0, b]) = trimN x) ↔ b = 0 := by
  have h8 := (struct_head hk hv).2.2
  have he := ext_trim hk hv q p
  obtain ⟨k, e, n, d, ks⟩ := x
  simp only [Nd.k] at hk
  subst hk
  constructor
  · intro h
    refine Classical.byContradiction fun h0 => ?_
    rw [← he] at h
    exact trim_word (by show (d ++ List.replicate q 0).length % 8 = 0; simp only [Nd.d] at h8; rw [List.length_append, List.length_replicate]; omega) h0 h
  · rintro rfl
    have h1 : datN (extN (.mk 1 e n d ks) q p) [0, 0, 0, 0, 0, 0, 0, 0] = .mk 1 e n (d ++ List.replicate (q + 8) 0) (ks ++ List.replicate p nd0) := by
      simp only [datN, extN, Nd.k, Nd.e, Nd.n, Nd.d, Nd.ks, List.append_assoc]
      rw [show ([0, 0, 0, 0, 0, 0, 0, 0] : List Int) = List.replicate 8 0 from rfl, List.replicate_append_replicate]
    rw [h1]
    exact trim_extend h8 fun z hz => by rw [List.eq_of_mem_replicate hz]; rfl
theorem own_made {W : World} {W0 : World} {q base : Nat} (hq : W.heap[q]? = some (.cells #[] 25 (0, 0))) (hb : base ≤ q) : OwnK W0 W base (.slice (some ⟨q, 0, none⟩) 0 0) [] :=
  ⟨[], ⟨rfl, .inr ⟨q, 0, #[], rfl, hb, hq, by simp, by unfold maxLen; omega, rfl, rfl⟩⟩, fun j hj => by simp at hj⟩
theorem node_dat {w : World} {A : Option Addr} {c : Nat} {B : Option Addr} {c2 : Nat} {x : Nd} (h : NdR w A c B c2 x) : Ri w .u8 A x.d ∧ Bts x.d ∧ x.d.length ≤ c ∧ c ≤ 9223372036854775807 ∧ (A = none → c = 0) ∧ (-9223372036854775808 ≤ x.k ∧ x.k ≤ 9223372036854775807) ∧ (-9223372036854775808 ≤ x.e ∧ x.e ≤ 9223372036854775807) ∧ (-9223372036854775808 ≤ x.n ∧ x.n ≤ 9223372036854775807) := by
  obtain ⟨k, e, n, d, ks⟩ := x
  obtain ⟨o1, o2, o3, o4, o5, o6, o7, o8, _⟩ := h.open
  exact ⟨o4, o5, o6, o7, o8, o1, o2, o3⟩
theorem ext_here {w : World} {x : Nd} {q p : Nat} {A : Option Addr} {c : Nat} {B : Option Addr} {e : Nat} (hk : (-9223372036854775808 ≤ x.k ∧ x.k ≤ 9223372036854775807) ∧ (-9223372036854775808 ≤ x.e ∧ x.e ≤ 9223372036854775807) ∧ (-9223372036854775808 ≤ x.n ∧ x.n ≤ 9223372036854775807)) (hb : Bts x.d)
    (hd : Ri w .u8 A (x.d ++ List.replicate q 0)) (hdl : x.d.length + q ≤ c) (hc : c ≤ maxLen) (hA : A = none → c = 0) (hks : KsR w B (x.ks ++ List.replicate p nd0)) (hkl : x.ks.length + p ≤ e) (he : e ≤ maxLen) (hB : B = none → e = 0) : NdR w A c B e (extN x q p) :=
  hks.node hk.1 hk.2.1 hk.2.2 hd (fun z hz => by
    rcases List.mem_append.1 hz with h | h
    · exact hb z h
    · rw [List.eq_of_mem_replicate h]; exact ⟨by decide, by decide⟩) (by rw [List.length_append, List.length_replicate]; exact hdl) hc hA (by rw [List.length_append, List.length_replicate]; exact hkl) he hB
/-- it lies in memory: the kids in a row of the call's own -/
theorem ptr_here {W0 w : World} {x y : Nd} {A1 : Option Addr} {c1 : Nat} {B1 : Option Addr} {e1 : Nat} {base N0 n0 : Nat} {B7 : Option Addr} {c7 : Nat} (hx : NdR w A1 c1 B1 e1 x) (h : OwnK W0 w base (.slice B7 n0 c7) (x.ks ++ [y])) (hW : W0.heap.size ≤ N0) (hb : Below N0 W0 w) : NdR w A1 c1 B7 c7 (ptrN x y) := by
  obtain ⟨B, c, e, h1, h2, h3, h4⟩ := h.slice hW hb
  injection e with g1 g2 g3
  subst g1
  subst g3
  have hd := node_dat hx
  exact h1.node hd.2.2.2.2.2.1 hd.2.2.2.2.2.2.1 hd.2.2.2.2.2.2.2 hd.1 hd.2.1 hd.2.2.1 (by unfold maxLen; have := hd.2.2.2.1; omega) hd.2.2.2.2.1 h2 (by unfold maxLen; omega) h4
theorem dat_here {w : World} {x : Nd} {bs : List Int} {A1 : Option Addr} {c1 : Nat} {B1 : Option Addr} {e1 : Nat} {A : Option Addr} {c : Nat} (hx : NdR w A1 c1 B1 e1 x) (hbs : Bts bs) (hd : Ri w .u8 A (x.d ++ bs)) (hdl : (x.d ++ bs).length ≤ c) (hc : c ≤ maxLen) (hA : A = none → c = 0) : NdR w A c B1 e1 (datN x bs) := by
  have hn := node_dat hx
  obtain ⟨hk1, hk2, hk3⟩ := hx.kidsX
  have he : e1 ≤ maxLen := by
    obtain ⟨k, e, n, d, ks⟩ := x
    have := hx.open.2.2.2.2.2.2.2.2.2.1
    unfold maxLen
    omega
  exact hk1.node hn.2.2.2.2.2.1 hn.2.2.2.2.2.2.1 hn.2.2.2.2.2.2.2 hd (fun z hz => by
    rcases List.mem_append.1 hz with h | h
    · exact hn.2.1 z h
    · exact hbs z h) hdl hc hA hk3 he hk2
/-- trimming, the node's fields written out -/
theorem TTrim_v (X T : Nd) (A : Option Addr) (c : Nat) (B : Option Addr) (c2 : Nat) (k e n : Int) (dl kl : Nat) (h1 : X.k = k) (h2 : X.e = e) (h3 : X.n = n) (h4 : X.d.length = dl) (h5 : X.ks.length = kl) (w : World) (hT : TabOK w) (hx : NdR w A c B c2 X) (hs : sizeN X ≤ 1099511627776) (hv : validN X = true) (hy : trimN X = T) :
    Calls Try.prog 16 #[.agg #[.int .i64 k, .int .i64 e, .int .i64 n, .slice A dl c, .slice B kl c2]] w fun r w' => ∃ v, r = .returned v ∧ NodF w.heap.size T v w' ∧ Below w.heap.size w w' := by
  subst h1 h2 h3 h4 h5
  exact TTrim_c X T A c B c2 w hT hx hs hv hy
attribute [local irreducible] validN fewN eqN trimN trimmedN depthN objsN wordsT ptrsT uniD uniP

set_option maxHeartbeats 8000000 in
set_option maxRecDepth 100000 in
theorem Ignores11_walk (x : Nd) (a0 p0 : Int) (y : Nd) (b0 : Int) (A1 : Option Addr) (c1 : Nat) (B1 : Option Addr) (e1 : Nat) (A2 : Option Addr) (c2 : Nat) (B2 : Option Addr) (e2 : Nat) (w : World) (hT : TabOK w) (hx : NdR w A1 c1 B1 e1 x) (hy : NdR w A2 c2 B2 e2 y) (hsx : sizeN x ≤ 1048576) (hsy : sizeN y ≤ 1048576)
    (ha0 : 0 ≤ a0) (ha1 : a0 < 256) (hp0 : 0 ≤ p0) (hp1 : p0 < 256) (hb0 : 0 ≤ b0) (hb1 : b0 < 256) :
    Calls Try.prog 5 #[.agg #[.int .i64 x.k, .int .i64 x.e, .int .i64 x.n, .slice A1 x.d.length c1, .slice B1 x.ks.length e1], .int .u8 a0, .int .u8 p0, .agg #[.int .i64 y.k, .int .i64 y.e, .int .i64 y.n, .slice A2 y.d.length c2, .slice B2 y.ks.length e2], .int .u8 b0] w fun r w' => r = .returned (.bool true) ∧ Below w.heap.size w w' := by
  obtain ⟨i8, hi8, hy0, hy1, hy2⟩ := info_parts int8_info
  have HX := Lib.hid hx
  have HY := Lib.hid hy
  have HT := Lib.hid hT
  have HSX : Hid (sizeN x ≤ 1099511627776) := Lib.hid (by omega)
  have HSY : Hid (sizeN y ≤ 1099511627776) := Lib.hid (by omega)
  have HKL : Hid (x.ks.length ≤ 1048576 ∧ x.d.length ≤ 1048576) := Lib.hid (by have h1 := sizeK_length x.ks; have h2 := sizeK_ks x; have h5 : x.d.length ≤ sizeN x := (by cases x; simp only [Nd.d, sizeN]; omega); omega)
  clear hx hy hT
  go_enter Try.func5, Try.ntmps5
  go_wp2_with fail
  refine abs_world (F := fun W => Blk W w.heap.size #[.int .i64 x.k, .int .i64 x.e, .int .i64 x.n, .slice A1 x.d.length c1, .slice B1 x.ks.length e1] ∧ Blk W (w.heap.size + 1) #[.int .i64 y.k, .int .i64 y.e, .int .i64 y.n, .slice A2 y.d.length c2, .slice B2 y.ks.length e2] ∧ Below w.heap.size w W) ⟨?_, ?_, ?_⟩ ?_
  · exact (Blk.fresh _ _ _).alloc _
  · exact Blk.new (by simp)
  · exact ((Below.refl _ _).alloc (Nat.le_refl _) _).alloc (by simp) _
  rintro w0 ⟨h2, h3, hbw⟩
  have H2 := Lib.hid h2
  have H3 := Lib.hid h3
  have HB := Lib.hid hbw
  clear h2 h3 hbw
  refine (awake11_any _ (HT.out.on HB.out)).mono ?_
  rintro r w1 ⟨rfl, hb1⟩
  have H2n := Lib.hid (H2.out.below hb1)
  have H3n := Lib.hid (H3.out.below hb1)
  have HBn := Lib.hid (bel_on HB.out hb1)
  clear hb1 H2 H3 HB
  have H2 := H2n
  have H3 := H3n
  have HB := HBn
  clear H2n H3n HBn
  obtain ⟨x2, y2, z2⟩ := H2.out
  obtain ⟨x3, y3, z3⟩ := H3.out
  go_wp2_with fail
  refine (RefFew_node x A1 c1 B1 e1 _ (HX.out.on HB.out (Nat.le_refl _)) HSX.out).mono ?_
  rintro r w2 ⟨rfl, hb2⟩
  clear x2 y2 z2 x3 y3 z3
  have H2n := Lib.hid (H2.out.below hb2)
  have H3n := Lib.hid (H3.out.below hb2)
  have HBn := Lib.hid (bel_on HB.out hb2)
  clear hb2 H2 H3 HB
  have H2 := H2n
  have H3 := H3n
  have HB := HBn
  clear H2n H3n HBn
  obtain ⟨x2, y2, z2⟩ := H2.out
  obtain ⟨x3, y3, z3⟩ := H3.out
  cases hfx : fewN x with
  | false =>
    clear hfx
    go_wp2_with fail
    refine (awake11_any _ (HT.out.on HB.out)).mono ?_
    rintro r w9 ⟨rfl, hb9⟩
    have HB9 := Lib.hid (bel_on HB.out hb9)
    clear hb9
    go_wp2
    go_ret
    exact ⟨rfl, HB9.out⟩
  | true =>
  have HFx := Lib.hid hfx
  clear hfx
  go_wp2_with fail
  refine (RefValid_node x A1 c1 B1 e1 _ (HX.out.on HB.out (Nat.le_refl _)) HSX.out).mono ?_
  rintro r w2 ⟨rfl, hb2⟩
  clear x2 y2 z2 x3 y3 z3
  have H2n := Lib.hid (H2.out.below hb2)
  have H3n := Lib.hid (H3.out.below hb2)
  have HBn := Lib.hid (bel_on HB.out hb2)
  clear hb2 H2 H3 HB
  have H2 := H2n
  have H3 := H3n
  have HB := HBn
  clear H2n H3n HBn
  obtain ⟨x2, y2, z2⟩ := H2.out
  obtain ⟨x3, y3, z3⟩ := H3.out
  cases hvx : validN x with
  | false =>
    clear hvx
    go_wp2_with fail
    refine (awake11_any _ (HT.out.on HB.out)).mono ?_
    rintro r w9 ⟨rfl, hb9⟩
    have HB9 := Lib.hid (bel_on HB.out hb9)
    clear hb9
    go_wp2
    go_ret
    exact ⟨rfl, HB9.out⟩
  | true =>
  have HVX := Lib.hid hvx
  clear hvx
  go_wp2_with fail
  refine (RefFew_node y A2 c2 B2 e2 _ (HY.out.on HB.out (Nat.le_refl _)) HSY.out).mono ?_
  rintro r w2 ⟨rfl, hb2⟩
  clear x2 y2 z2 x3 y3 z3
  have H2n := Lib.hid (H2.out.below hb2)
  have H3n := Lib.hid (H3.out.below hb2)
  have HBn := Lib.hid (bel_on HB.out hb2)
  clear hb2 H2 H3 HB
  have H2 := H2n
  have H3 := H3n
  have HB := HBn
  clear H2n H3n HBn
  obtain ⟨x2, y2, z2⟩ := H2.out
  obtain ⟨x3, y3, z3⟩ := H3.out
  cases hfy : fewN y with
  | false =>
    clear hfy
    go_wp2_with fail
    refine (awake11_any _ (HT.out.on HB.out)).mono ?_
    rintro r w9 ⟨rfl, hb9⟩
    have HB9 := Lib.hid (bel_on HB.out hb9)
    clear hb9
    go_wp2
    go_ret
    exact ⟨rfl, HB9.out⟩
  | true =>
  have HFy := Lib.hid hfy
  clear hfy
  go_wp2_with fail
  refine (RefValid_node y A2 c2 B2 e2 _ (HY.out.on HB.out (Nat.le_refl _)) HSY.out).mono ?_
  rintro r w2 ⟨rfl, hb2⟩
  clear x2 y2 z2 x3 y3 z3
  have H2n := Lib.hid (H2.out.below hb2)
  have H3n := Lib.hid (H3.out.below hb2)
  have HBn := Lib.hid (bel_on HB.out hb2)
  clear hb2 H2 H3 HB
  have H2 := H2n
  have H3 := H3n
  have HB := HBn
  clear H2n H3n HBn
  obtain ⟨x2, y2, z2⟩ := H2.out
  obtain ⟨x3, y3, z3⟩ := H3.out
  cases hvy : validN y with
  | false =>
    clear hvy
    go_wp2_with fail
    refine (awake11_any _ (HT.out.on HB.out)).mono ?_
    rintro r w9 ⟨rfl, hb9⟩
    have HB9 := Lib.hid (bel_on HB.out hb9)
    clear hb9
    go_wp2
    go_ret
    exact ⟨rfl, HB9.out⟩
  | true =>
  have HVY := Lib.hid hvy
  clear hvy
  by_cases kx : x.k = 1
  case neg =>
    have tkx : (x.k != 1) = true := bne_iff_ne.2 kx
    clear kx
    go_wp2_with fail
    refine (awake11_any _ (HT.out.on HB.out)).mono ?_
    rintro r w9 ⟨rfl, hb9⟩
    have HB9 := Lib.hid (bel_on HB.out hb9)
    clear hb9
    go_wp2
    go_ret
    exact ⟨rfl, HB9.out⟩
  have tkx : (x.k != 1) = false := by rw [kx]; rfl
  have Hkx := Lib.hid kx
  clear kx
  have hsz3 : sizeN x ≤ 3000 := by have h := HFx.out; unfold fewN at h; exact (of_decide_eq_true h).1
  have HS3 := Lib.hid hsz3
  clear hsz3
  obtain ⟨q0, hq0⟩ := Int.eq_ofNat_of_zero_le (by omega : 0 ≤ a0 % 5)
  obtain ⟨p1, hp2⟩ := Int.eq_ofNat_of_zero_le (by omega : 0 ≤ p0 % 5)
  have hq5 : q0 < 5 := by omega
  have hp5 : p1 < 5 := by omega
  have HQ0 : Hid (8 * (a0 % 5) = ((8 * q0 : Nat) : Int)) := Lib.hid (by omega)
  have HP0 := Lib.hid hp2
  clear hq0 hp2
  have hbx := z3
  go_wp2_with (at_builtin; refine abs_list (F := fun W => Blk W w.heap.size #[.int .i64 x.k, .int .i64 x.e, .int .i64 x.n, .slice A1 x.d.length c1, .slice B1 x.ks.length e1] ∧ Blk W (w.heap.size + 1) #[.int .i64 y.k, .int .i64 y.e, .int .i64 y.n, .slice A2 y.d.length c2, .slice B2 y.ks.length e2] ∧ Blk W w2.heap.size #[.int .i64 x.k, .int .i64 x.e, .int .i64 x.n, .slice A1 x.d.length c1, .slice B1 x.ks.length e1] ∧ Got W (w2.heap.size + 1) 5 .u8 (.slice (some ⟨w2.heap.size + 1, 0, none⟩) 0 0) [] ∧ Below w.heap.size w W ∧ W.heap.size = w2.heap.size + 1 + 1) ?_ ?_; rotate_left; (rintro W ⟨k2, k3, ke, hg, hbw, hsz⟩; refine hold_it ?_))
  · refine Lib.hid ?_
    refine wpList_appN rfl (.tmp 46) (.tmp 48) 22 rfl Try.underlying22 hi8 hy0 hy1 hy2 rfl hg rfl ((node_dat HX.out).1.below hbw (Nat.le_refl _)) (node_dat HX.out).2.2.2.2.1 (by unfold maxLen; have := HKL.out; simp only [List.length_nil]; omega) (by have := HKL.out; simp only [List.length_nil]; omega) (by omega) ?_
    intro v3 w3 hg3 hb3
    rw [List.nil_append] at hg3
    have K2 := Lib.hid (k2.belowN hb3 (by omega))
    have K3 := Lib.hid (k3.belowN hb3 (by omega))
    have KE := Lib.hid (ke.belowN hb3 (by omega))
    have HBW := Lib.hid (hbw.trans (hb3.mono (by omega)))
    have HG3 := Lib.hid hg3
    have hsz3 : w2.heap.size + 1 + 1 ≤ w3.heap.size := by have := hb3.size; omega
    clear k2 k3 ke hg hbw hsz hg3 hb3 H2 H3 HB x2 y2 z2 x3 y3 z3
    go_wp2_with (at_builtin; refine hold_it ?_)
    refine Lib.hid ?_
    refine wpList_appZ rfl (.tmp 49) (.tmp 53) 22 3 rfl Try.underlying22 Try.underlying3 hi8 hy0 hy1 hy2 rfl HG3.out (n := 8 * q0) (by rw [← HQ0.out]; rfl) (by unfold maxLen; have := HKL.out; omega) (by have := HKL.out; omega) (by omega) ?_
    intro v4 w4 hg4 hb4
    obtain ⟨A5, c5, rfl, hcl5, hcm5, -, hcn5⟩ := hg4.full
    have hle5 : (x.d ++ List.replicate (8 * q0) 0).length = x.d.length + 8 * q0 := by rw [List.length_append, List.length_replicate]
    have HG4 := Lib.hid hg4
    have k2 := K2.out.belowN hb4 (by omega)
    have k3 := K3.out.belowN hb4 (by omega)
    have ke := KE.out.belowN hb4 (by omega)
    have hbw := HBW.out.trans (hb4.mono (by omega))
    have hsz4 : w2.heap.size + 1 + 1 ≤ w4.heap.size := by have := hb4.size; omega
    rw [hle5]
    rw [hle5] at HG4 hcl5
    have HC5 : Hid (x.d.length + 8 * q0 ≤ c5 ∧ c5 ≤ maxLen ∧ (A5 = none → c5 = 0)) := Lib.hid ⟨hcl5, hcm5, hcn5⟩
    clear hcl5 hcm5 hcn5
    have K2 := Lib.hid k2
    have K3 := Lib.hid k3
    have KE := Lib.hid ke
    have HBW := Lib.hid hbw
    clear hg4 hb4 HG3 hle5 hbw
    obtain ⟨x2, y2, z2⟩ := k2
    obtain ⟨xe, ye, ze⟩ := ke
    clear k3
    go_wp2_with (at_builtin; refine hold_it ?_)
    refine Lib.hid ?_
    refine abs_list (F := fun W => Blk W w.heap.size #[.int .i64 x.k, .int .i64 x.e, .int .i64 x.n, .slice A1 x.d.length c1, .slice B1 x.ks.length e1] ∧ Blk W (w.heap.size + 1) #[.int .i64 y.k, .int .i64 y.e, .int .i64 y.n, .slice A2 y.d.length c2, .slice B2 y.ks.length e2] ∧ Blk W w2.heap.size #[.int .i64 x.k, .int .i64 x.e, .int .i64 x.n, .slice A5 (x.d.length + 8 * q0) c5, .slice B1 x.ks.length e1] ∧ Below w4.heap.size (w4.setCell ⟨w2.heap.size, 3, none⟩ (.slice A5 (x.d.length + 8 * q0) c5)) W ∧ OwnK w W w4.heap.size (.slice (some ⟨w4.heap.size, 0, none⟩) 0 0) [] ∧ Below w.heap.size w W ∧ W.heap.size = w4.heap.size + 1) ⟨?_, ?_, ?_, ?_, ?_, ?_, ?_⟩ ?_
    · exact (K2.out.other (by show w2.heap.size ≠ w.heap.size; omega) _).alloc _
    · exact (K3.out.other (by show w2.heap.size ≠ w.heap.size + 1; omega) _).alloc _
    · exact (KE.out.set 3 (by simp) _).alloc _
    · exact (Below.refl _ _).alloc (by simp [World.setCell]) _
    · exact own_made (by have h := heap_alloc_new (w4.setCell ⟨w2.heap.size, 3, none⟩ (.slice A5 (x.d.length + 8 * q0) c5)) (.cells #[] 25); simpa [World.setCell] using h) (Nat.le_refl _)
    · exact (HBW.out.setCell (by show w.heap.size ≤ w2.heap.size; omega) _).alloc (by have := HBW.out.size; simp [World.setCell]; omega) _
    · simp [World.setCell]
    clear x2 y2 z2 xe ye ze K2 K3 KE HBW
    rintro W ⟨k2, k3, ke, hg, ho, hbw, hsz⟩
    refine wpList_appK rfl (.tmp 56) (.tmp 58) 23 rfl Try.underlying23 rfl ho rfl HX.out.kidsX.1 HX.out.kidsX.2.1 HX.out.kidsX.2.2 (N0 := w.heap.size) (Nat.le_refl _) hbw (by have := HKL.out; simp only [List.length_nil]; omega) (by omega) ?_
    intro v5 w5 ho5 hb5
    rw [List.nil_append] at ho5
    have K2 := Lib.hid (k2.belowN hb5 (by omega))
    have K3 := Lib.hid (k3.belowN hb5 (by omega))
    have KE := Lib.hid (ke.belowN hb5 (by omega))
    have HG := Lib.hid (HG4.out.far (p := ⟨w2.heap.size, 3, none⟩) (by show w2.heap.size < w2.heap.size + 1; omega) (.slice A5 (x.d.length + 8 * q0) c5))
    have HCH := Lib.hid (hg.trans hb5)
    have HBW := Lib.hid (hbw.trans (hb5.mono (by omega)))
    have HO := Lib.hid ho5
    have hsz5 : w4.heap.size + 1 ≤ w5.heap.size := by have := hb5.size; omega
    clear k2 k3 ke hg ho hbw hsz ho5 hb5 HG4
    go_wp2_with (at_builtin; refine hold_it ?_)
    refine Lib.hid ?_
    refine wpList_appKZ rfl (.tmp 59) (.tmp 62) 23 3 rfl Try.underlying23 Try.underlying3 rfl HO.out (n := p1) (by rw [← HP0.out]; rfl) (by have := HKL.out; omega) (by omega) ?_
    intro v6 w6 ho6 hb6
    have hbw := HBW.out.trans (hb6.mono (by omega))
    obtain ⟨B5, e5, rfl, hks6, hkl6, hkc6, hkn6⟩ := ho6.slice (N0 := w.heap.size) (Nat.le_refl _) hbw
    have hle6 : (x.ks ++ List.replicate p1 nd0).length = x.ks.length + p1 := by rw [List.length_append, List.length_replicate]
    rw [hle6] at hkl6
    rw [hle6]
    have HC6 : Hid (x.ks.length + p1 ≤ e5 ∧ e5 ≤ maxLen ∧ (B5 = none → e5 = 0)) := Lib.hid ⟨hkl6, by unfold maxLen; omega, hkn6⟩
    have k2 := K2.out.belowN hb6 (by omega)
    have k3 := K3.out.belowN hb6 (by omega)
    have ke := KE.out.belowN hb6 (by omega)
    have hg6 := HG.out.below (HCH.out.trans hb6) (by simp [World.setCell])
    have HG6 := Lib.hid hg6
    have HO6 := Lib.hid ho6
    have K2 := Lib.hid k2
    have K3 := Lib.hid k3
    have KE := Lib.hid ke
    have HBW := Lib.hid hbw
    have hbe4 : w2.heap.size < w4.heap.size := by omega
    clear HG HCH HO hks6 hkl6 hkc6 hkn6 ho6 hb6 hg6 hbw k3
    obtain ⟨x2, y2, z2⟩ := k2
    obtain ⟨xe, ye, ze⟩ := ke
    obtain ⟨X, hX⟩ : ∃ X, X = extN x (8 * q0) p1 := ⟨_, rfl⟩
    have hXk : X.k = x.k := by rw [hX]; rfl
    have hXe : X.e = x.e := by rw [hX]; rfl
    have hXn : X.n = x.n := by rw [hX]; rfl
    have hXd : X.d.length = x.d.length + 8 * q0 := by rw [hX]; show (x.d ++ List.replicate (8 * q0) 0).length = _; rw [List.length_append, List.length_replicate]
    have hXs : X.ks.length = x.ks.length + p1 := by rw [hX]; show (x.ks ++ List.replicate p1 nd0).length = _; rw [List.length_append, List.length_replicate]
    have HXk := Lib.hid hXk
    have HXe := Lib.hid hXe
    have HXn := Lib.hid hXn
    have HXd := Lib.hid hXd
    have HXs := Lib.hid hXs
    have HXX := Lib.hid hX
    clear hX hXk hXe hXn hXd hXs
    go_wp2_with fail
    refine abs_world (F := fun W => Blk W w.heap.size #[.int .i64 x.k, .int .i64 x.e, .int .i64 x.n, .slice A1 x.d.length c1, .slice B1 x.ks.length e1] ∧ Blk W (w.heap.size + 1) #[.int .i64 y.k, .int .i64 y.e, .int .i64 y.n, .slice A2 y.d.length c2, .slice B2 y.ks.length e2] ∧ Blk W w2.heap.size #[.int .i64 X.k, .int .i64 X.e, .int .i64 X.n, .slice A5 X.d.length c5, .slice B5 X.ks.length e5] ∧ NdR W A5 c5 B5 e5 X ∧ Below w.heap.size w W) ⟨?_, ?_, ?_, ?_, ?_⟩ ?_
    · exact K2.out.other (by show w2.heap.size ≠ w.heap.size; omega) _
    · exact K3.out.other (by show w2.heap.size ≠ w.heap.size + 1; omega) _
    · rw [HXk.out, HXe.out, HXn.out, HXd.out, HXs.out]
      exact KE.out.set 4 (by simp) _
    · have hbv := HBW.out.setCell (p := ⟨w2.heap.size, 4, none⟩) (by show w.heap.size ≤ w2.heap.size; omega) (.slice B5 (x.ks.length + p1) e5)
      have hgv := (HG6.out.far (p := ⟨w2.heap.size, 4, none⟩) (by show w2.heap.size < w2.heap.size + 1; omega) (.slice B5 (x.ks.length + p1) e5)).ri.1
      have hov := HO6.out.far (p := ⟨w2.heap.size, 4, none⟩) (by show w2.heap.size < w4.heap.size; omega) (.slice B5 (x.ks.length + p1) e5)
      obtain ⟨B6, e6, heq, hks, -⟩ := hov.slice (N0 := w.heap.size) (Nat.le_refl _) hbv
      injection heq with g1 g2 g3
      subst g1
      have hd := node_dat HX.out
      rw [HXX.out]
      exact ext_here hd.2.2.2.2.2 hd.2.1 hgv HC5.out.1 HC5.out.2.1 HC5.out.2.2 hks HC6.out.1 HC6.out.2.1 HC6.out.2.2
    · exact HBW.out.setCell (by show w.heap.size ≤ w2.heap.size; omega) _
    have hbe2 : w.heap.size + 1 < w2.heap.size := hbx
    generalize w2.heap.size = be at *
    clear x2 y2 z2 xe ye ze K2 K3 KE HBW HG6 HO6 hsz3 hsz4 hsz5 hbe4 hle6 hbx
    rintro W ⟨k2, k3, ke, hne, hbw⟩
    have hXsz : sizeN X ≤ 4000 := by rw [HXX.out, ext_size]; have := HS3.out; omega
    have HSXX : Hid (sizeN X ≤ 1099511627776) := Lib.hid (by omega)
    have HXL : Hid (X.ks.length ≤ 4000 ∧ X.d.length ≤ 4000) := Lib.hid (by have h1 := sizeK_length X.ks; have h2 := sizeK_ks X; have h5 : X.d.length ≤ sizeN X := (by cases X; simp only [Nd.d, sizeN]; omega); omega)
    have hVX : validN X = true := by rw [HXX.out]; exact ext_valid Hkx.out HVX.out HS3.out (by omega) (by omega) (by omega)
    have hXk1 : X.k = 1 := HXk.out.trans Hkx.out
    obtain ⟨T, hT⟩ : ∃ T, trimN x = T := ⟨_, rfl⟩
    have HTE := Lib.hid hT
    have HTX : Hid (trimN X = T) := Lib.hid (by rw [HXX.out, ← hT]; exact ext_trim Hkx.out HVX.out _ _)
    have HVXX := Lib.hid hVX
    have HLV : Hid (validN (oneL X) = true) := Lib.hid (one_valid hXk1 hVX)
    have HLS : Hid (sizeN (oneL X) ≤ 1099511627776) := Lib.hid (by rw [one_size]; omega)
    have HLT : Hid (trimN (oneL X) = oneL T) := Lib.hid (by rw [one_trim, HTX.out])
    have HPV : Hid (validN (ptrN X y) = true) := Lib.hid (ptr_valid hXk1 hVX HVY.out (by omega))
    have HPS : Hid (sizeN (ptrN X y) ≤ 1099511627776) := Lib.hid (by rw [ptr_size]; omega)
    have HDV : Hid (validN (datN X [0, 0, 0, 0, 0, 0, 0, b0]) = true) := Lib.hid (dat_valid hXk1 hVX (by omega) rfl)
    have HDS : Hid (sizeN (datN X [0, 0, 0, 0, 0, 0, 0, b0]) ≤ 1099511627776) := Lib.hid (by rw [dat_size]; simp only [List.length_cons, List.length_nil]; omega)
    have HPT : Hid ((trimN (ptrN X y) = T) ↔ y.k = 0) := Lib.hid (by rw [HXX.out, ← hT]; exact ptr_trim Hkx.out HVX.out _ _)
    have HDT : Hid ((trimN (datN X [0, 0, 0, 0, 0, 0, 0, b0]) = T) ↔ b0 = 0) := Lib.hid (by rw [HXX.out, ← hT]; exact dat_trim Hkx.out HVX.out _ _ (by omega))
    clear hT hVX hXsz hXk1
    have K2 := Lib.hid k2
    have K3 := Lib.hid k3
    have KE := Lib.hid ke
    have HNX := Lib.hid hne
    have HB := Lib.hid hbw
    clear k2 k3 ke hne hbw
    refine (TTrim_c x T A1 c1 B1 e1 _ (HT.out.on HB.out) (HX.out.on HB.out (Nat.le_refl _)) HSX.out HVX.out HTE.out).mono ?_
    rintro r w6 ⟨v6, rfl, ⟨A6, c6, B6, e6, hi6, rfl, hh6, ho6⟩, hb6⟩
    have HNT := Lib.hid ho6.nd
    clear ho6 hh6
    have K2n := Lib.hid (K2.out.below hb6)
    have K3n := Lib.hid (K3.out.below hb6)
    have KEn := Lib.hid (KE.out.below hb6)
    have HNXn := Lib.hid (HNX.out.on hb6 (Nat.le_refl _))
    have HBn := Lib.hid (bel_on HB.out hb6)
    clear K2 K3 KE HNX HB
    have K2 := K2n
    have K3 := K3n
    have KE := KEn
    have HNX := HNXn
    have HB := HBn
    clear K2n K3n KEn HNXn HBn
    clear hb6
    have xe := (KE.out.alloc (.cells #[.int .i64 T.k, .int .i64 T.e, .int .i64 T.n, .slice A6 T.d.length c6, .slice B6 T.ks.length e6] 25)).cell
    go_wp2_with fail
    refine abs_world (F := fun W => Blk W w.heap.size #[.int .i64 x.k, .int .i64 x.e, .int .i64 x.n, .slice A1 x.d.length c1, .slice B1 x.ks.length e1] ∧ Blk W (w.heap.size + 1) #[.int .i64 y.k, .int .i64 y.e, .int .i64 y.n, .slice A2 y.d.length c2, .slice B2 y.ks.length e2] ∧ Blk W be #[.int .i64 X.k, .int .i64 X.e, .int .i64 X.n, .slice A5 X.d.length c5, .slice B5 X.ks.length e5] ∧ Blk W w6.heap.size #[.int .i64 T.k, .int .i64 T.e, .int .i64 T.n, .slice A6 T.d.length c6, .slice B6 T.ks.length e6] ∧ NdR W A5 c5 B5 e5 X ∧ NdR W A6 c6 B6 e6 T ∧ NdR W none 0 (some ⟨w6.heap.size + 1, 0, none⟩) 1 (oneL X) ∧ Below w.heap.size w W) ⟨?_, ?_, ?_, ?_, ?_, ?_, ?_, ?_⟩ ?_
    · exact ((K2.out.alloc _).alloc _).alloc _
    · exact ((K3.out.alloc _).alloc _).alloc _
    · exact ((KE.out.alloc _).alloc _).alloc _
    · exact ((Blk.fresh _ _ _).alloc _).alloc _
    · exact HNX.out.on ((((Below.refl _ _).alloc (Nat.le_refl _) _).alloc (by simp) _).alloc (by simp; omega) _) (Nat.le_refl _)
    · exact HNT.out.on ((((Below.refl _ _).alloc (Nat.le_refl _) _).alloc (by simp) _).alloc (by simp; omega) _) (Nat.le_refl _)
    · have hr := row1_new (HNX.out.on ((Below.refl _ _).alloc (Nat.le_refl _) (.cells #[.int .i64 T.k, .int .i64 T.e, .int .i64 T.n, .slice A6 T.d.length c6, .slice B6 T.ks.length e6] 25)) (Nat.le_refl _)) 25
      rw [World.size_alloc] at hr
      exact (KsR.on hr ((Below.refl _ _).alloc (Nat.le_refl _) _) (Nat.le_refl _)).node ⟨by decide, by decide⟩ ⟨by decide, by decide⟩ ⟨by decide, by decide⟩ (Ri.nil _ _ _) (fun z hz => by cases hz) (by decide) (by unfold maxLen; omega) (fun _ => rfl) (by simp) (by unfold maxLen; omega) (fun h => by cases h)
    · have := HB.out.size
      exact ((HB.out.alloc HB.out.size _).alloc (by simp; omega) _).alloc (by simp; omega) _
    have hbt : be < w6.heap.size := KE.out.lt
    generalize w6.heap.size = bt at *
    clear K2 K3 KE HNX HNT HB xe
    rintro W6 ⟨k2, k3, ke, kt, hnx, hnt, hnl, hbw⟩
    have K2 := Lib.hid k2
    have K3 := Lib.hid k3
    have KE := Lib.hid ke
    have KT := Lib.hid kt
    have HNX := Lib.hid hnx
    have HNT := Lib.hid hnt
    have HNL := Lib.hid hnl
    have HB := Lib.hid hbw
    clear k2 k3 ke kt hnx hnt hnl hbw
    refine (TTrim_b (oneL X) (oneL T) 2 7 1 0 1 _ _ _ _ _ (HT.out.on HB.out) HNL.out HLS.out HLV.out HLT.out rfl rfl rfl rfl rfl).mono ?_
    rintro r w7 ⟨A7, c7, B7, e7, rfl, hnl, hb7⟩
    clear HNL
    have K2n := Lib.hid (K2.out.below hb7)
    have K3n := Lib.hid (K3.out.below hb7)
    have KEn := Lib.hid (KE.out.below hb7)
    have KTn := Lib.hid (KT.out.below hb7)
    have HNXn := Lib.hid (HNX.out.on hb7 (Nat.le_refl _))
    have HNTn := Lib.hid (HNT.out.on hb7 (Nat.le_refl _))
    have HBn := Lib.hid (bel_on HB.out hb7)
    clear K2 K3 KE KT HNX HNT HB
    have K2 := K2n
    have K3 := K3n
    have KE := KEn
    have KT := KTn
    have HNX := HNXn
    have HNT := HNTn
    have HB := HBn
    clear K2n K3n KEn KTn HNXn HNTn HBn
    clear hb7
    have HNL := Lib.hid hnl
    clear hnl
    have xe := (KE.out.alloc (.cells #[.int .i64 2, .int .i64 7, .int .i64 1, .slice A7 0 c7, .slice B7 1 e7] 25)).cell
    go_wp2_with fail
    refine abs_code10 (F := fun W => Blk W w.heap.size #[.int .i64 x.k, .int .i64 x.e, .int .i64 x.n, .slice A1 x.d.length c1, .slice B1 x.ks.length e1] ∧ Blk W (w.heap.size + 1) #[.int .i64 y.k, .int .i64 y.e, .int .i64 y.n, .slice A2 y.d.length c2, .slice B2 y.ks.length e2] ∧ Blk W be #[.int .i64 X.k, .int .i64 X.e, .int .i64 X.n, .slice A5 X.d.length c5, .slice B5 X.ks.length e5] ∧ Blk W bt #[.int .i64 T.k, .int .i64 T.e, .int .i64 T.n, .slice A6 T.d.length c6, .slice B6 T.ks.length e6] ∧ Blk W w7.heap.size #[.int .i64 2, .int .i64 7, .int .i64 1, .slice A7 0 c7, .slice B7 1 e7] ∧ Blk W (w7.heap.size + 1) #[.int .i64 X.k, .int .i64 X.e, .int .i64 X.n, .slice A5 X.d.length c5, .slice B5 X.ks.length e5] ∧ Below w7.heap.size w7 W ∧ Below w.heap.size w W) ⟨?_, ?_, ?_, ?_, ?_, ?_, ?_, ?_⟩ ?_
    · exact (K2.out.alloc _).alloc _
    · exact (K3.out.alloc _).alloc _
    · exact (KE.out.alloc _).alloc _
    · exact (KT.out.alloc _).alloc _
    · exact (Blk.fresh _ _ _).alloc _
    · exact Blk.new (by simp)
    · exact ((Below.refl _ _).alloc (Nat.le_refl _) _).alloc (by simp) _
    · have := HB.out.size
      exact (HB.out.alloc HB.out.size _).alloc (by simp; omega) _
    have hbl : bt < w7.heap.size := KT.out.lt
    have hw7 : w.heap.size ≤ w7.heap.size := HB.out.size
    obtain ⟨bl, hbl7⟩ : ∃ bl, bl = w7.heap.size := ⟨_, rfl⟩
    rw [← hbl7]
    rw [← hbl7] at hbl hw7
    have HBL7 := Lib.hid hbl7
    have HB7 := HB
    have HNX7 := HNX
    have HNT7 := HNT
    have HNL7 := HNL
    clear hbl7 K2 K3 KE KT HNX HNT HNL HB xe
    rintro w8 ⟨k2, k3, ke, kt, kl, ky, hb78, hbw⟩
    have K2 := Lib.hid k2
    have K3 := Lib.hid k3
    have KE := Lib.hid ke
    have KT := Lib.hid kt
    have KL := Lib.hid kl
    have KY := Lib.hid ky
    have HB78 := Lib.hid hb78
    have HNX := Lib.hid (HNX7.out.on hb78 (by rw [← HBL7.out]; exact Nat.le_refl _))
    have HB := Lib.hid hbw
    have hby : bl + 1 < w8.heap.size := ky.lt
    clear k2 k3 ke kt kl ky hb78 hbw
    have hxo : ∀ wc, Keeps (fun q => w8.heap.size ≤ q) w8.drew wc → Blk wc be #[.int .i64 X.k, .int .i64 X.e, .int .i64 X.n, .slice A5 X.d.length c5, .slice B5 X.ks.length e5] := fun wc hk => KE.out.drew.keeps hk (by have := KE.out.lt; omega)
    have hyo : ∀ wc, Keeps (fun q => w8.heap.size ≤ q) w8.drew wc → Blk wc (w.heap.size + 1) #[.int .i64 y.k, .int .i64 y.e, .int .i64 y.n, .slice A2 y.d.length c2, .slice B2 y.ks.length e2] := fun wc hk => K3.out.drew.keeps hk (by have := K3.out.lt; omega)
    have HXO := Lib.hid hxo
    have HYO := Lib.hid hyo
    have HY8 := Lib.hid (HY.out.on HB7.out (Nat.le_refl _))
    clear hxo hyo
    rename_i KK hKK
    refine wp_region_a8 6 (fun q => w8.heap.size ≤ q) (by kernel_rfl) (by kernel_rfl) ?_
    refine a_new_l (T := EmpF w8.heap.size) [] (by kernel_rfl) rfl (by kernel_rfl) trivial (stable_empF _) (fun ρ wc hbc hcn hk => ?_) ?_
    · obtain ⟨hcn, -⟩ := hcn
      exact ⟨.slice (some ⟨wc.heap.size, 0, none⟩) 0 0, wc.alloc (.cells #[] 25), by go_simp, ⟨_, rfl, hbc.size, heap_alloc_new wc _⟩, (Below.refl _ _).alloc (Nat.le_refl _) _⟩
    refine a_val_l (u := ?_) [11] (by kernel_rfl) rfl (by kernel_rfl) trivial (fun ρ wc hbc hcn hk => ?_) ?_; rotate_left
    · obtain ⟨hcn, -⟩ := hcn
      simp at hk
      go_simp
      rfl
    refine a_val_l (u := ?_) [74] (by kernel_rfl) rfl (by kernel_rfl) trivial (fun ρ wc hbc hcn hk => ?_) ?_; rotate_left
    · obtain ⟨hcn, -⟩ := hcn
      simp at hk
      obtain ⟨xe, ye, ze⟩ := HXO.out wc hbc
      go_simp
      rfl
    refine a_new (T := OwnKF w7 w8.heap.size X.ks) [73, 75] (by kernel_rfl) rfl rfl (by kernel_rfl) trivial (stable_ownKF _ _ _) (fun ρ wc hbc hcn hk => ?_) ?_
    · obtain ⟨⟨q0', h56, hq0, hqc⟩, h58, -⟩ := hk
      obtain ⟨hk1, hk2, hk3⟩ := HNX7.out.kidsX
      exact exec_appK0 (.tmp 73) (.tmp 75) 23 rfl Try.underlying23 h56 hqc hq0 h58 hk1 hk2 hk3 (N0 := bl) (by rw [← HBL7.out]; exact Nat.le_refl _) ((bel_drew HB78.out).trans (hbc.mono (by show bl ≤ w8.heap.size; omega))) (by have := HXL.out; omega)
    refine a_val_l (u := ?_) [8] (by kernel_rfl) rfl (by kernel_rfl) trivial (fun ρ wc hbc hcn hk => ?_) ?_; rotate_left
    · obtain ⟨hcn, -⟩ := hcn
      simp at hk
      obtain ⟨x3, y3, z3⟩ := HYO.out wc hbc
      go_simp
      rfl
    refine a_new (T := CelF y A2 c2 B2 e2) [77] (by kernel_rfl) rfl rfl (by kernel_rfl) trivial (stable_celF _ _ _ _ _) (fun ρ wc hbc hcn hk => ?_) ?_
    · obtain ⟨hcn, -⟩ := hcn
      simp at hk
      exact ⟨.slice (some ⟨wc.heap.size, 0, none⟩) 1 1, wc.alloc (.cells #[.int .i64 y.k, .int .i64 y.e, .int .i64 y.n, .slice A2 y.d.length c2, .slice B2 y.ks.length e2] 25), by go_simp, ⟨_, rfl, fun o _ => by rw [blk_new]; simp [fiveC]⟩, (Below.refl _ _).alloc (Nat.le_refl _) _⟩
    refine a_sp (T := OwnKF w7 w8.heap.size (X.ks ++ [y])) [76, 78] rfl rfl (by kernel_rfl) trivial (stable_ownKF _ _ _) (fun a wc hbc hcn hk => ?_) ?_
    · obtain ⟨h59, ⟨q, h61, hq61⟩, -⟩ := hk
      refine wpList_appK1 rfl (.tmp 76) (.tmp 78) 23 rfl Try.underlying23 rfl h59 h61 hq61 HY8.out (by have := HXL.out; omega) hbc.size ?_
      intro v' w' hown' hgr
      refine ⟨rfl, v', rfl, hown', ?_⟩
      rw [if_pos rfl]
      refine ⟨hgr.os, hgr.tape, hgr.output, hgr.size, fun q1 h1 h2 => hgr.block q1 h1 fun e => h2 ?_⟩
      obtain ⟨vs, hv1, _⟩ := h59
      exact (hv1.lt q1 e.symm).1
    refine a_val_l (u := ?_) [15] (by kernel_rfl) rfl (by kernel_rfl) trivial (fun ρ wc hbc hcn hk => ?_) ?_; rotate_left
    · obtain ⟨hcn, -⟩ := hcn
      simp at hk
      go_simp
      rfl
    refine a_end_lit 127 rfl (fun ff w9 hb9 hk => ?_)
    have hO2 : OwnK w7 w9 w8.heap.size (ff 79) (X.ks ++ [y]) := allN_atF hk 79 (by decide) (by decide)
    simp [AllN] at hk
    simp only [frameL, hk, Nat.zero_add, Nat.reduceAdd]
    have HB9 := Lib.hid hb9
    have hbl9 : Below w8.heap.size w8 w9 := by
      have := hb9.below (B := w8.heap.size) (Nat.le_refl _) (fun q hq => hq)
      exact ⟨this.os, this.tape, this.output, this.size, this.block⟩
    have HBL := Lib.hid hbl9
    obtain ⟨B8, c8, hv7, -⟩ := hO2.slice (N0 := bl) (by rw [← HBL7.out]; exact Nat.le_refl _) (HB78.out.trans (hbl9.mono (by omega)))
    rw [show (X.ks ++ [y]).length = X.ks.length + 1 by simp] at hv7
    have HO2 := Lib.hid hO2
    clear hO2 hb9 hk hbl9
    rw [hv7] at HO2
    rw [hv7]
    clear hv7
    generalize ff 73 = v56
    generalize ff 76 = v59
    generalize ff 78 = v61
    refine split_store (fun W => Blk W w.heap.size #[.int .i64 x.k, .int .i64 x.e, .int .i64 x.n, .slice A1 x.d.length c1, .slice B1 x.ks.length e1] ∧ Blk W (w.heap.size + 1) #[.int .i64 y.k, .int .i64 y.e, .int .i64 y.n, .slice A2 y.d.length c2, .slice B2 y.ks.length e2] ∧ Blk W be #[.int .i64 X.k, .int .i64 X.e, .int .i64 X.n, .slice A5 X.d.length c5, .slice B5 X.ks.length e5] ∧ Blk W bt #[.int .i64 T.k, .int .i64 T.e, .int .i64 T.n, .slice A6 T.d.length c6, .slice B6 T.ks.length e6] ∧ Blk W bl #[.int .i64 2, .int .i64 7, .int .i64 1, .slice A7 0 c7, .slice B7 1 e7] ∧ Blk W (bl + 1) #[.int .i64 X.k, .int .i64 X.e, .int .i64 X.n, .slice A5 X.d.length c5, .slice B8 (X.ks.length + 1) c8] ∧ NdR W A5 c5 B5 e5 X ∧ NdR W A6 c6 B6 e6 T ∧ NdR W A7 c7 B7 e7 (oneL T) ∧ NdR W A5 c5 B8 c8 (ptrN X y) ∧ Below w.heap.size w W) rfl ?_ ?_
    · obtain ⟨x7, y7, z7'⟩ := (KY.out.drew.keeps HB9.out (by have := KY.out.lt; omega))
      go_wp2
      have hst : ∀ u, Below bl w7 (w9.setCell ⟨bl + 1, 4, none⟩ u) := fun u => Below.setCell (HB78.out.trans (HBL.out.mono (by omega))) (by show bl ≤ bl + 1; omega) _
      have hsw : ∀ u, Below w.heap.size w (w9.setCell ⟨bl + 1, 4, none⟩ u) := fun u => Below.setCell (bel_on HB.out HBL.out) (by show w.heap.size ≤ bl + 1; omega) _
      refine ⟨rfl, rfl, ?_, ?_, ?_, ?_, ?_, ?_, ?_, ?_, ?_, ?_, ?_⟩
      · exact (K2.out.below HBL.out).other (by show bl + 1 ≠ w.heap.size; omega) _
      · exact (K3.out.below HBL.out).other (by show bl + 1 ≠ w.heap.size + 1; omega) _
      · exact (KE.out.below HBL.out).other (by show bl + 1 ≠ be; omega) _
      · exact (KT.out.below HBL.out).other (by show bl + 1 ≠ bt; omega) _
      · exact (KL.out.below HBL.out).other (by show bl + 1 ≠ bl; omega) _
      · exact (KY.out.below HBL.out).set 4 (by simp) _
      · exact HNX7.out.on (hst _) (by rw [← HBL7.out]; exact Nat.le_refl _)
      · exact HNT7.out.on (hst _) (by rw [← HBL7.out]; exact Nat.le_refl _)
      · exact HNL7.out.on (hst _) (by rw [← HBL7.out]; exact Nat.le_refl _)
      · exact ptr_here (N0 := bl) (W0 := w7) (HNX7.out.on (hst _) (by rw [← HBL7.out]; exact Nat.le_refl _)) (base := w8.heap.size) (n0 := X.ks.length + 1) (HO2.out.far (by show bl + 1 < w8.heap.size; exact hby) _) (by rw [← HBL7.out]; exact Nat.le_refl _) (hst _)
      · exact hsw _
    rintro W10 ⟨k2, k3, ke, kt, kl, ky, hnx, hnt, hnl, hny, hbw⟩
    refine hKK _ _ ?_
    clear K2 K3 KE KT KL KY HB HB9 HBL HO2 HXO HYO HNX HNX7 HNT7 HNL7 HB7 HB78 HBL7 HY8
    have K2 := Lib.hid k2
    have K3 := Lib.hid k3
    have KE := Lib.hid ke
    have KT := Lib.hid kt
    have KL := Lib.hid kl
    have KY := Lib.hid ky
    have HNX := Lib.hid hnx
    have HNT := Lib.hid hnt
    have HNL := Lib.hid hnl
    have HNY := Lib.hid hny
    have HB := Lib.hid hbw
    clear hKK KK k2 k3 kt kl ky hnx hnt hnl hny hbw hby
    obtain ⟨xe, ye, ze⟩ := ke
    have xe1 := (KE.out.alloc (.cells #[.int .i64 X.k, .int .i64 X.e, .int .i64 X.n, .slice A5 X.d.length c5, .slice B5 X.ks.length e5] 25)).cell
    have xe2 := ((KE.out.alloc (.cells #[.int .i64 X.k, .int .i64 X.e, .int .i64 X.n, .slice A5 X.d.length c5, .slice B5 X.ks.length e5] 25)).alloc (.cells #[] 5)).cell
    go_wp2_with (at_builtin; refine hold_it ?_)
    refine Lib.hid ?_
    refine abs_list (F := fun W => Below W10.heap.size W10 W ∧ Blk W W10.heap.size #[.int .i64 X.k, .int .i64 X.e, .int .i64 X.n, .slice A5 X.d.length c5, .slice B5 X.ks.length e5] ∧ Got W (W10.heap.size + 1) 5 .u8 (.slice (some ⟨W10.heap.size + 1, 0, none⟩) 0 0) [] ∧ W.heap.size = W10.heap.size + 1 + 1) ⟨?_, ?_, ?_, ?_⟩ ?_
    · exact ((Below.refl _ _).alloc (Nat.le_refl _) _).alloc (by simp) _
    · exact (Blk.fresh _ _ _).alloc _
    · have h := Got.empty_made (W10.alloc (.cells #[.int .i64 X.k, .int .i64 X.e, .int .i64 X.n, .slice A5 X.d.length c5, .slice B5 X.ks.length e5] 25)) (base := W10.heap.size + 1) 5 .u8 (by simp)
      rw [World.size_alloc] at h
      exact h
    · simp
    clear xe ye ze xe1 xe2
    rintro W ⟨hch, kz, hg, hsz⟩
    refine wpList_appN rfl (.tmp 82) (.tmp 84) 22 rfl Try.underlying22 hi8 hy0 hy1 hy2 rfl hg rfl ((node_dat HNX.out).1.below hch (Nat.le_refl _)) (node_dat HNX.out).2.2.2.2.1 (by unfold maxLen; have := HXL.out; simp only [List.length_nil]; omega) (by have := HXL.out; simp only [List.length_nil]; omega) (by omega) ?_
    intro v11 w11 hg11 hb11
    rw [List.nil_append] at hg11
    have HCH := Lib.hid (hch.trans (hb11.mono (by omega)))
    have KZ := Lib.hid (kz.belowN hb11 (by omega))
    have HG11 := Lib.hid hg11
    have hsz11 : W10.heap.size + 1 + 1 ≤ w11.heap.size := by have := hb11.size; omega
    clear hch kz hg hsz hg11 hb11
    go_wp2_with (at_builtin; refine hold_it ?_)
    refine Lib.hid ?_
    refine wpList_appN rfl (.tmp 85) (.tmp 87) 22 rfl Try.underlying22 hi8 hy0 hy1 hy2 rfl (HG11.out.below ((Below.refl _ _).alloc (Nat.le_refl _) _) (Nat.le_refl _)) (ys := [0, 0, 0, 0, 0, 0, 0, b0]) rfl (Ri.lit w11 .u8 [0, 0, 0, 0, 0, 0, 0, b0] 5) (fun h => by cases h) (by unfold maxLen; have := HXL.out; simp only [List.length_cons, List.length_nil]; omega) (by have := HXL.out; simp only [List.length_cons, List.length_nil]; omega) (by simp; omega) ?_
    intro v12 w12 hg12 hb12
    obtain ⟨A9, c9, rfl, hcl9, hcm9, -, hcn9⟩ := hg12.full
    have hle9 : (X.d ++ [0, 0, 0, 0, 0, 0, 0, b0]).length = X.d.length + 8 := by rw [List.length_append]; rfl
    have hcl9' := hcl9
    rw [hle9]
    have HC9 : Hid ((X.d ++ [0, 0, 0, 0, 0, 0, 0, b0]).length ≤ c9 ∧ c9 ≤ maxLen ∧ (A9 = none → c9 = 0)) := Lib.hid ⟨hcl9, hcm9, hcn9⟩
    have HCH2 := Lib.hid (HCH.out.trans (((Below.refl W10.heap.size w11).alloc (by omega) _).trans (hb12.mono (by omega))))
    have kz := (KZ.out.alloc _).belowN hb12 (by omega)
    have KZ2 := Lib.hid kz
    rw [hle9] at hg12
    have HG12 := Lib.hid hg12
    clear hcl9 hcl9' hcm9 hcn9 hg12 hb12 hle9 KZ HG11 HCH
    obtain ⟨xz, yz, zz⟩ := kz
    go_wp2_with fail
    obtain ⟨b7, o7, Ak, ck, Bk, ek, hB7, k0, k1, k2, k3, k4, hnk⟩ := HNL.out.kid (j := 0) (by simp)
    subst hB7
    have HLB : Hid (b7 < W10.heap.size) := Lib.hid (World.block_lt_of_cell? W10 ⟨b7, o7 + 0 * 5, none⟩ k0)
    have HNK10 := Lib.hid hnk
    simp only [Nat.zero_mul, Nat.add_zero] at k0 k1 k2 k3 k4
    have HK10 := Lib.hid (And.intro k0 (And.intro k1 (And.intro k2 (And.intro k3 k4))))
    clear k0 k1 k2 k3 k4 hnk
    refine abs_code10 (F := fun W => Below W10.heap.size W10 W ∧ Blk W W10.heap.size #[.int .i64 X.k, .int .i64 X.e, .int .i64 X.n, .slice A9 (X.d.length + 8) c9, .slice B5 X.ks.length e5] ∧ NdR W A9 c9 B5 e5 (datN X [0, 0, 0, 0, 0, 0, 0, b0])) ⟨?_, ?_, ?_⟩ ?_
    · exact HCH2.out.setCell (Nat.le_refl _) _
    · exact KZ2.out.set 3 (by simp) _
    · have hv := HCH2.out.setCell (p := ⟨W10.heap.size, 3, none⟩) (Nat.le_refl _) (.slice A9 (X.d.length + 8) c9)
      have hg := (HG12.out.far (p := ⟨W10.heap.size, 3, none⟩) (by show W10.heap.size < W10.heap.size + 1; omega) (.slice A9 (X.d.length + 8) c9)).ri.1
      exact dat_here (HNX.out.on hv (Nat.le_refl _)) (by
        intro z hz
        simp only [List.mem_cons, List.not_mem_nil, or_false] at hz
        rcases hz with h | h | h | h | h | h | h | h <;> subst h <;> first | exact ⟨by decide, by decide⟩ | exact ⟨hb0, hb1⟩) hg HC9.out.1 HC9.out.2.1 HC9.out.2.2
    clear xz yz zz KZ2 HG12 HCH2
    rintro W13 ⟨hch, kz, hnz⟩
    have hkc : ∀ wc, Below W13.drew.heap.size W13.drew wc → wc.cell? ⟨b7, o7, none⟩ = some (.int .i64 T.k) ∧ wc.cell? ⟨b7, o7 + 1, none⟩ = some (.int .i64 T.e) ∧ wc.cell? ⟨b7, o7 + 2, none⟩ = some (.int .i64 T.n) ∧ wc.cell? ⟨b7, o7 + 3, none⟩ = some (.slice Ak T.d.length ck) ∧ wc.cell? ⟨b7, o7 + 4, none⟩ = some (.slice Bk T.ks.length ek) := by
      intro wc hbc
      have hz := hch.size
      have hlb := HLB.out
      have hc := fun o => (hbc.cell (p := ⟨b7, o, none⟩) (by show b7 < W13.heap.size; omega)).trans (hch.cell (p := ⟨b7, o, none⟩) (by show b7 < W10.heap.size; exact hlb))
      obtain ⟨k0, k1, k2, k3, k4⟩ := HK10.out
      exact ⟨(hc _).trans k0, (hc _).trans k1, (hc _).trans k2, (hc _).trans k3, (hc _).trans k4⟩
    have HKC := Lib.hid hkc
    have HNKn := Lib.hid (HNK10.out.on hch (Nat.le_refl _))
    have K3n := Lib.hid (K3.out.below hch)
    have KEn := Lib.hid (KE.out.below hch)
    have KTn := Lib.hid (KT.out.below hch)
    have KLn := Lib.hid (KL.out.below hch)
    have KYn := Lib.hid (KY.out.below hch)
    have KZ := Lib.hid kz
    have HNXn := Lib.hid (HNX.out.on hch (Nat.le_refl _))
    have HNTn := Lib.hid (HNT.out.on hch (Nat.le_refl _))
    have HNYn := Lib.hid (HNY.out.on hch (Nat.le_refl _))
    have HNZ := Lib.hid hnz
    have HBn := Lib.hid (bel_on HB.out hch)
    have HEP : Hid (eqN (trimN (ptrN X y)) T = (y.k == 0)) := Lib.hid (by
      by_cases h : y.k = 0
      · rw [eqN_yes (HPT.out.2 h), h]; rfl
      · rw [eqN_no (fun h2 => h (HPT.out.1 h2)), beq_eq_false_iff_ne.2 h])
    have HED : Hid (eqN (trimN (datN X [0, 0, 0, 0, 0, 0, 0, b0])) T = (b0 == 0)) := Lib.hid (by
      by_cases h : b0 = 0
      · rw [eqN_yes (HDT.out.2 h), h]; rfl
      · rw [eqN_no (fun h2 => h (HDT.out.1 h2)), beq_eq_false_iff_ne.2 h])
    clear hkc K2 K3 KE KT KL KY HNX HNT HNL HNY HB HNK10 HK10 HPT HDT hch kz hnz
    have K3 := K3n
    have KE := KEn
    have KT := KTn
    have KL := KLn
    have KY := KYn
    have HNX := HNXn
    have HNT := HNTn
    have HNY := HNYn
    have HNK := HNKn
    have HB := HBn
    clear K3n KEn KTn KLn KYn HNXn HNTn HNYn HNKn HBn
    rename_i KK hKK
    refine wp_region_chain (by kernel_rfl) (by kernel_rfl) ?_
    refine chain_val (u := ?_) [11] rfl (by kernel_rfl) trivial (fun ρ wc hbc hcn hk => ?_) ?_; rotate_left
    · obtain ⟨hcn, -⟩ := hcn
      simp at hk
      obtain ⟨x3, y3, z3⟩ := K3.out.drew.below hbc
      obtain ⟨xe, ye, ze⟩ := KE.out.drew.below hbc
      obtain ⟨xt, yt, zt⟩ := KT.out.drew.below hbc
      obtain ⟨xl, yl, zl⟩ := KL.out.drew.below hbc
      obtain ⟨xy, yy, zy⟩ := KY.out.drew.below hbc
      obtain ⟨xz, yz, zz⟩ := KZ.out.drew.below hbc
      obtain ⟨k0, k1, k2, k3, k4⟩ := HKC.out wc hbc
      go_simp
      rfl
    refine chain_call (T := NodF w.heap.size T) 16 [90] rfl (by kernel_rfl) trivial (stable_nod _ _) (fun ρ wc hbc hcn hk => ?_) ?_
    · obtain ⟨hcn, hfn⟩ := hcn
      simp at hk
      refine ⟨_, by go_simp; rfl, ?_⟩
      refine (TTrim_v X T A5 c5 B5 e5 _ _ _ _ _ rfl rfl rfl rfl rfl wc (HT.out.on (bel_on (bel_drew HB.out) hbc)) (HNX.out.on (w' := wc) (N := W13.heap.size) ⟨hbc.os, hbc.tape, hbc.output, hbc.size, hbc.block⟩ (Nat.le_refl _)) HSXX.out HVXX.out HTX.out).mono ?_
      rintro r w' ⟨v5, rfl, ⟨Aa, ca, Ba, da, hia, rfl, h5, h6⟩, hb5⟩
      exact ⟨_, rfl, ⟨Aa, ca, Ba, da, hia, rfl, h5, h6.wide (bel_on (bel_drew HB.out) hbc).size (Nat.le_refl _)⟩, hb5⟩
    refine chain_val (u := ?_) [12] rfl (by kernel_rfl) trivial (fun ρ wc hbc hcn hk => ?_) ?_; rotate_left
    · obtain ⟨hcn, -⟩ := hcn
      simp at hk
      obtain ⟨x3, y3, z3⟩ := K3.out.drew.below hbc
      obtain ⟨xe, ye, ze⟩ := KE.out.drew.below hbc
      obtain ⟨xt, yt, zt⟩ := KT.out.drew.below hbc
      obtain ⟨xl, yl, zl⟩ := KL.out.drew.below hbc
      obtain ⟨xy, yy, zy⟩ := KY.out.drew.below hbc
      obtain ⟨xz, yz, zz⟩ := KZ.out.drew.below hbc
      obtain ⟨k0, k1, k2, k3, k4⟩ := HKC.out wc hbc
      go_simp
      rfl
    refine chain_call (T := Is (.bool true)) 15 [91, 92] rfl (by kernel_rfl) trivial (stable_is _) (fun ρ wc hbc hcn hk => ?_) ?_
    · obtain ⟨hcn, hfn⟩ := hcn
      simp at hk
      obtain ⟨⟨Aa, ca, Ba, da, hia, ea, ha, na⟩, hk2⟩ := hk
      refine ⟨_, by go_simp; rfl, ?_⟩
      refine (RefEqual_c T T Aa ca Ba da A6 c6 B6 e6 true wc na.nd (HNT.out.on (w' := wc) (N := W13.heap.size) ⟨hbc.os, hbc.tape, hbc.output, hbc.size, hbc.block⟩ (Nat.le_refl _)) (eqN_yes rfl)).mono ?_
      rintro e w' ⟨rfl, hbq⟩
      refine ⟨_, rfl, ?_, hbq⟩
      unfold Is
      rfl
    refine chain_val (u := ?_) [93] rfl (by kernel_rfl) trivial (fun ρ wc hbc hcn hk => ?_) ?_; rotate_left
    · obtain ⟨hcn, -⟩ := hcn
      simp at hk
      go_simp
      rfl
    refine chain_val (u := ?_) [14] rfl (by kernel_rfl) ⟨94, by decide +kernel, rfl, fun w x hx => by simpa using hx⟩ (fun ρ wc hbc hcn hk => ?_) ?_; rotate_left
    · obtain ⟨hcn, -⟩ := hcn
      simp at hk
      go_simp
      rfl
    refine chain_val (u := ?_) [95] rfl (by kernel_rfl) ⟨94, by decide +kernel, rfl, fun w x hx => by simpa using hx⟩ (fun ρ wc hbc hcn hk => ?_) ?_; rotate_left
    · obtain ⟨hcn, -⟩ := hcn
      simp at hk
      obtain ⟨x3, y3, z3⟩ := K3.out.drew.below hbc
      obtain ⟨xe, ye, ze⟩ := KE.out.drew.below hbc
      obtain ⟨xt, yt, zt⟩ := KT.out.drew.below hbc
      obtain ⟨xl, yl, zl⟩ := KL.out.drew.below hbc
      obtain ⟨xy, yy, zy⟩ := KY.out.drew.below hbc
      obtain ⟨xz, yz, zz⟩ := KZ.out.drew.below hbc
      obtain ⟨k0, k1, k2, k3, k4⟩ := HKC.out wc hbc
      go_simp
      rfl
    refine chain_val (u := ?_) [96] rfl (by kernel_rfl) ⟨94, by decide +kernel, rfl, fun w x hx => by simpa using hx⟩ (fun ρ wc hbc hcn hk => ?_) ?_; rotate_left
    · obtain ⟨hcn, -⟩ := hcn
      simp at hk
      go_simp
      rfl
    refine chain_val (u := ?_) [97] rfl (by kernel_rfl) ⟨94, by decide +kernel, rfl, fun w x hx => by simpa using hx⟩ (fun ρ wc hbc hcn hk => ?_) ?_; rotate_left
    · obtain ⟨hcn, -⟩ := hcn
      simp at hk
      go_simp
      rfl
    refine chain_val (u := ?_) [94, 98] rfl (by kernel_rfl) trivial (fun ρ wc hbc hcn hk => ?_) ?_; rotate_left
    · obtain ⟨hcn, -⟩ := hcn
      simp at hk
      go_simp
      rfl
    refine chain_val (u := ?_) [99] rfl (by kernel_rfl) trivial (fun ρ wc hbc hcn hk => ?_) ?_; rotate_left
    · obtain ⟨hcn, -⟩ := hcn
      simp at hk
      go_simp
      rfl
    refine chain_val (u := ?_) [14] rfl (by kernel_rfl) ⟨100, by decide +kernel, rfl, fun w x hx => by simpa using hx⟩ (fun ρ wc hbc hcn hk => ?_) ?_; rotate_left
    · obtain ⟨hcn, -⟩ := hcn
      simp at hk
      go_simp
      rfl
    refine chain_val (u := ?_) [101] rfl (by kernel_rfl) ⟨100, by decide +kernel, rfl, fun w x hx => by simpa using hx⟩ (fun ρ wc hbc hcn hk => ?_) ?_; rotate_left
    · obtain ⟨hcn, -⟩ := hcn
      simp at hk
      obtain ⟨x3, y3, z3⟩ := K3.out.drew.below hbc
      obtain ⟨xe, ye, ze⟩ := KE.out.drew.below hbc
      obtain ⟨xt, yt, zt⟩ := KT.out.drew.below hbc
      obtain ⟨xl, yl, zl⟩ := KL.out.drew.below hbc
      obtain ⟨xy, yy, zy⟩ := KY.out.drew.below hbc
      obtain ⟨xz, yz, zz⟩ := KZ.out.drew.below hbc
      obtain ⟨k0, k1, k2, k3, k4⟩ := HKC.out wc hbc
      go_simp
      rfl
    refine chain_val (u := ?_) [102] rfl (by kernel_rfl) ⟨100, by decide +kernel, rfl, fun w x hx => by simpa using hx⟩ (fun ρ wc hbc hcn hk => ?_) ?_; rotate_left
    · obtain ⟨hcn, -⟩ := hcn
      simp at hk
      go_simp
      rfl
    refine chain_val (u := ?_) [103] rfl (by kernel_rfl) ⟨100, by decide +kernel, rfl, fun w x hx => by simpa using hx⟩ (fun ρ wc hbc hcn hk => ?_) ?_; rotate_left
    · obtain ⟨hcn, -⟩ := hcn
      simp at hk
      obtain ⟨x3, y3, z3⟩ := K3.out.drew.below hbc
      obtain ⟨xe, ye, ze⟩ := KE.out.drew.below hbc
      obtain ⟨xt, yt, zt⟩ := KT.out.drew.below hbc
      obtain ⟨xl, yl, zl⟩ := KL.out.drew.below hbc
      obtain ⟨xy, yy, zy⟩ := KY.out.drew.below hbc
      obtain ⟨xz, yz, zz⟩ := KZ.out.drew.below hbc
      obtain ⟨k0, k1, k2, k3, k4⟩ := HKC.out wc hbc
      go_simp
      rfl
    refine chain_val (u := ?_) [12] rfl (by kernel_rfl) ⟨100, by decide +kernel, rfl, fun w x hx => by simpa using hx⟩ (fun ρ wc hbc hcn hk => ?_) ?_; rotate_left
    · obtain ⟨hcn, -⟩ := hcn
      simp at hk
      obtain ⟨x3, y3, z3⟩ := K3.out.drew.below hbc
      obtain ⟨xe, ye, ze⟩ := KE.out.drew.below hbc
      obtain ⟨xt, yt, zt⟩ := KT.out.drew.below hbc
      obtain ⟨xl, yl, zl⟩ := KL.out.drew.below hbc
      obtain ⟨xy, yy, zy⟩ := KY.out.drew.below hbc
      obtain ⟨xz, yz, zz⟩ := KZ.out.drew.below hbc
      obtain ⟨k0, k1, k2, k3, k4⟩ := HKC.out wc hbc
      go_simp
      rfl
    refine chain_call (T := Is ?_) 15 [104, 105] rfl (by kernel_rfl) ⟨100, by decide +kernel, rfl, fun w x hx => by simpa using hx⟩ (stable_is _) (fun ρ wc hbc hcn hk => ?_) ?_; rotate_left
    · obtain ⟨hcn, hfn⟩ := hcn
      simp at hk
      refine ⟨_, by go_simp; rfl, ?_⟩
      refine (RefEqual_c T T Ak ck Bk ek A6 c6 B6 e6 true wc (HNK.out.on (w' := wc) (N := W13.heap.size) ⟨hbc.os, hbc.tape, hbc.output, hbc.size, hbc.block⟩ (Nat.le_refl _)) (HNT.out.on (w' := wc) (N := W13.heap.size) ⟨hbc.os, hbc.tape, hbc.output, hbc.size, hbc.block⟩ (Nat.le_refl _)) (eqN_yes rfl)).mono ?_
      rintro e w' ⟨rfl, hbq⟩
      refine ⟨_, rfl, ?_, hbq⟩
      unfold Is
      rfl
    refine chain_val (u := ?_) [100, 106] rfl (by kernel_rfl) trivial (fun ρ wc hbc hcn hk => ?_) ?_; rotate_left
    · obtain ⟨hcn, -⟩ := hcn
      simp at hk
      go_simp
      rfl
    refine chain_val (u := ?_) [107] rfl (by kernel_rfl) trivial (fun ρ wc hbc hcn hk => ?_) ?_; rotate_left
    · obtain ⟨hcn, -⟩ := hcn
      simp at hk
      go_simp
      rfl
    refine chain_val (u := ?_) [15] rfl (by kernel_rfl) ⟨108, by decide +kernel, rfl, fun w x hx => by simpa using hx⟩ (fun ρ wc hbc hcn hk => ?_) ?_; rotate_left
    · obtain ⟨hcn, -⟩ := hcn
      simp at hk
      obtain ⟨x3, y3, z3⟩ := K3.out.drew.below hbc
      obtain ⟨xe, ye, ze⟩ := KE.out.drew.below hbc
      obtain ⟨xt, yt, zt⟩ := KT.out.drew.below hbc
      obtain ⟨xl, yl, zl⟩ := KL.out.drew.below hbc
      obtain ⟨xy, yy, zy⟩ := KY.out.drew.below hbc
      obtain ⟨xz, yz, zz⟩ := KZ.out.drew.below hbc
      obtain ⟨k0, k1, k2, k3, k4⟩ := HKC.out wc hbc
      go_simp
      rfl
    refine chain_call (T := NodF w.heap.size (trimN (ptrN X y))) 16 [109] rfl (by kernel_rfl) ⟨108, by decide +kernel, rfl, fun w x hx => by simpa using hx⟩ (stable_nod _ _) (fun ρ wc hbc hcn hk => ?_) ?_
    · obtain ⟨hcn, hfn⟩ := hcn
      simp at hk
      refine ⟨_, by go_simp; rfl, ?_⟩
      refine (TTrim_v (ptrN X y) (trimN (ptrN X y)) A5 c5 B8 c8 _ _ _ _ _ rfl rfl rfl rfl (by simp [ptrN, Nd.ks]) wc (HT.out.on (bel_on (bel_drew HB.out) hbc)) (HNY.out.on (w' := wc) (N := W13.heap.size) ⟨hbc.os, hbc.tape, hbc.output, hbc.size, hbc.block⟩ (Nat.le_refl _)) HPS.out HPV.out rfl).mono ?_
      rintro r w' ⟨v5, rfl, ⟨Aa, ca, Ba, da, hia, rfl, h5, h6⟩, hb5⟩
      exact ⟨_, rfl, ⟨Aa, ca, Ba, da, hia, rfl, h5, h6.wide (bel_on (bel_drew HB.out) hbc).size (Nat.le_refl _)⟩, hb5⟩
    refine chain_val (u := ?_) [12] rfl (by kernel_rfl) ⟨108, by decide +kernel, rfl, fun w x hx => by simpa using hx⟩ (fun ρ wc hbc hcn hk => ?_) ?_; rotate_left
    · obtain ⟨hcn, -⟩ := hcn
      simp at hk
      obtain ⟨x3, y3, z3⟩ := K3.out.drew.below hbc
      obtain ⟨xe, ye, ze⟩ := KE.out.drew.below hbc
      obtain ⟨xt, yt, zt⟩ := KT.out.drew.below hbc
      obtain ⟨xl, yl, zl⟩ := KL.out.drew.below hbc
      obtain ⟨xy, yy, zy⟩ := KY.out.drew.below hbc
      obtain ⟨xz, yz, zz⟩ := KZ.out.drew.below hbc
      obtain ⟨k0, k1, k2, k3, k4⟩ := HKC.out wc hbc
      go_simp
      rfl
    refine chain_call (T := Is (.bool (y.k == 0))) 15 [110, 111] rfl (by kernel_rfl) ⟨108, by decide +kernel, rfl, fun w x hx => by simpa using hx⟩ (stable_is _) (fun ρ wc hbc hcn hk => ?_) ?_
    · obtain ⟨hcn, hfn⟩ := hcn
      simp at hk
      obtain ⟨⟨Aa, ca, Ba, da, hia, ea, ha, na⟩, hk2⟩ := hk
      refine ⟨_, by go_simp; rfl, ?_⟩
      refine (RefEqual_c (trimN (ptrN X y)) T Aa ca Ba da A6 c6 B6 e6 (y.k == 0) wc na.nd (HNT.out.on (w' := wc) (N := W13.heap.size) ⟨hbc.os, hbc.tape, hbc.output, hbc.size, hbc.block⟩ (Nat.le_refl _)) HEP.out).mono ?_
      rintro e w' ⟨rfl, hbq⟩
      refine ⟨_, rfl, ?_, hbq⟩
      unfold Is
      rfl
    refine chain_val (u := ?_) [8] rfl (by kernel_rfl) ⟨108, by decide +kernel, rfl, fun w x hx => by simpa using hx⟩ (fun ρ wc hbc hcn hk => ?_) ?_; rotate_left
    · obtain ⟨hcn, -⟩ := hcn
      simp at hk
      go_simp
      rfl
    refine chain_val (u := ?_) [113] rfl (by kernel_rfl) ⟨108, by decide +kernel, rfl, fun w x hx => by simpa using hx⟩ (fun ρ wc hbc hcn hk => ?_) ?_; rotate_left
    · obtain ⟨hcn, -⟩ := hcn
      simp at hk
      obtain ⟨x3, y3, z3⟩ := K3.out.drew.below hbc
      obtain ⟨xe, ye, ze⟩ := KE.out.drew.below hbc
      obtain ⟨xt, yt, zt⟩ := KT.out.drew.below hbc
      obtain ⟨xl, yl, zl⟩ := KL.out.drew.below hbc
      obtain ⟨xy, yy, zy⟩ := KY.out.drew.below hbc
      obtain ⟨xz, yz, zz⟩ := KZ.out.drew.below hbc
      obtain ⟨k0, k1, k2, k3, k4⟩ := HKC.out wc hbc
      go_simp
      rfl
    refine chain_val (u := ?_) [114] rfl (by kernel_rfl) ⟨108, by decide +kernel, rfl, fun w x hx => by simpa using hx⟩ (fun ρ wc hbc hcn hk => ?_) ?_; rotate_left
    · obtain ⟨hcn, -⟩ := hcn
      simp at hk
      go_simp
      rfl
    refine chain_val (u := ?_) [112, 115] rfl (by kernel_rfl) ⟨108, by decide +kernel, rfl, fun w x hx => by simpa using hx⟩ (fun ρ wc hbc hcn hk => ?_) ?_; rotate_left
    · obtain ⟨hcn, -⟩ := hcn
      simp at hk
      go_simp
      rfl
    refine chain_val (u := ?_) [108, 116] rfl (by kernel_rfl) trivial (fun ρ wc hbc hcn hk => ?_) ?_; rotate_left
    · obtain ⟨hcn, -⟩ := hcn
      simp at hk
      go_simp
      rfl
    refine chain_val (u := ?_) [117] rfl (by kernel_rfl) trivial (fun ρ wc hbc hcn hk => ?_) ?_; rotate_left
    · obtain ⟨hcn, -⟩ := hcn
      simp at hk
      go_simp
      rfl
    refine chain_val (u := ?_) [16] rfl (by kernel_rfl) ⟨118, by decide +kernel, rfl, fun w x hx => by simpa using hx⟩ (fun ρ wc hbc hcn hk => ?_) ?_; rotate_left
    · obtain ⟨hcn, -⟩ := hcn
      simp at hk
      obtain ⟨x3, y3, z3⟩ := K3.out.drew.below hbc
      obtain ⟨xe, ye, ze⟩ := KE.out.drew.below hbc
      obtain ⟨xt, yt, zt⟩ := KT.out.drew.below hbc
      obtain ⟨xl, yl, zl⟩ := KL.out.drew.below hbc
      obtain ⟨xy, yy, zy⟩ := KY.out.drew.below hbc
      obtain ⟨xz, yz, zz⟩ := KZ.out.drew.below hbc
      obtain ⟨k0, k1, k2, k3, k4⟩ := HKC.out wc hbc
      go_simp
      rfl
    refine chain_call (T := NodF w.heap.size (trimN (datN X [0, 0, 0, 0, 0, 0, 0, b0]))) 16 [119] rfl (by kernel_rfl) ⟨118, by decide +kernel, rfl, fun w x hx => by simpa using hx⟩ (stable_nod _ _) (fun ρ wc hbc hcn hk => ?_) ?_
    · obtain ⟨hcn, hfn⟩ := hcn
      simp at hk
      refine ⟨_, by go_simp; rfl, ?_⟩
      refine (TTrim_v (datN X [0, 0, 0, 0, 0, 0, 0, b0]) (trimN (datN X [0, 0, 0, 0, 0, 0, 0, b0])) A9 c9 B5 e5 _ _ _ _ _ rfl rfl rfl (by simp [datN, Nd.d]) rfl wc (HT.out.on (bel_on (bel_drew HB.out) hbc)) (HNZ.out.on (w' := wc) (N := W13.heap.size) ⟨hbc.os, hbc.tape, hbc.output, hbc.size, hbc.block⟩ (Nat.le_refl _)) HDS.out HDV.out rfl).mono ?_
      rintro r w' ⟨v5, rfl, ⟨Aa, ca, Ba, da, hia, rfl, h5, h6⟩, hb5⟩
      exact ⟨_, rfl, ⟨Aa, ca, Ba, da, hia, rfl, h5, h6.wide (bel_on (bel_drew HB.out) hbc).size (Nat.le_refl _)⟩, hb5⟩
    refine chain_val (u := ?_) [12] rfl (by kernel_rfl) ⟨118, by decide +kernel, rfl, fun w x hx => by simpa using hx⟩ (fun ρ wc hbc hcn hk => ?_) ?_; rotate_left
    · obtain ⟨hcn, -⟩ := hcn
      simp at hk
      obtain ⟨x3, y3, z3⟩ := K3.out.drew.below hbc
      obtain ⟨xe, ye, ze⟩ := KE.out.drew.below hbc
      obtain ⟨xt, yt, zt⟩ := KT.out.drew.below hbc
      obtain ⟨xl, yl, zl⟩ := KL.out.drew.below hbc
      obtain ⟨xy, yy, zy⟩ := KY.out.drew.below hbc
      obtain ⟨xz, yz, zz⟩ := KZ.out.drew.below hbc
      obtain ⟨k0, k1, k2, k3, k4⟩ := HKC.out wc hbc
      go_simp
      rfl
    refine chain_call (T := Is (.bool (b0 == 0))) 15 [120, 121] rfl (by kernel_rfl) ⟨118, by decide +kernel, rfl, fun w x hx => by simpa using hx⟩ (stable_is _) (fun ρ wc hbc hcn hk => ?_) ?_
    · obtain ⟨hcn, hfn⟩ := hcn
      simp at hk
      obtain ⟨⟨Aa, ca, Ba, da, hia, ea, ha, na⟩, hk2⟩ := hk
      refine ⟨_, by go_simp; rfl, ?_⟩
      refine (RefEqual_c (trimN (datN X [0, 0, 0, 0, 0, 0, 0, b0])) T Aa ca Ba da A6 c6 B6 e6 (b0 == 0) wc na.nd (HNT.out.on (w' := wc) (N := W13.heap.size) ⟨hbc.os, hbc.tape, hbc.output, hbc.size, hbc.block⟩ (Nat.le_refl _)) HED.out).mono ?_
      rintro e w' ⟨rfl, hbq⟩
      refine ⟨_, rfl, ?_, hbq⟩
      unfold Is
      rfl
    refine chain_val (u := ?_) [4] rfl (by kernel_rfl) ⟨118, by decide +kernel, rfl, fun w x hx => by simpa using hx⟩ (fun ρ wc hbc hcn hk => ?_) ?_; rotate_left
    · obtain ⟨hcn, -⟩ := hcn
      simp at hk
      go_simp
      rfl
    refine chain_val (u := ?_) [123] rfl (by kernel_rfl) ⟨118, by decide +kernel, rfl, fun w x hx => by simpa using hx⟩ (fun ρ wc hbc hcn hk => ?_) ?_; rotate_left
    · obtain ⟨hcn, -⟩ := hcn
      simp at hk
      go_simp
      rfl
    refine chain_val (u := ?_) [122, 124] rfl (by kernel_rfl) ⟨118, by decide +kernel, rfl, fun w x hx => by simpa using hx⟩ (fun ρ wc hbc hcn hk => ?_) ?_; rotate_left
    · obtain ⟨hcn, -⟩ := hcn
      simp at hk
      go_simp
      rfl
    refine chain_val (u := ?_) [118, 125] rfl (by kernel_rfl) trivial (fun ρ wc hbc hcn hk => ?_) ?_; rotate_left
    · obtain ⟨hcn, -⟩ := hcn
      simp at hk
      go_simp
      rfl
    refine chain_val (u := ?_) [126] rfl (by kernel_rfl) trivial (fun ρ wc hbc hcn hk => ?_) ?_; rotate_left
    · obtain ⟨hcn, -⟩ := hcn
      simp at hk
      go_simp
      rfl
    refine chain_end_lit 127 rfl (fun ff w17 hb17 hk => ?_)
    refine hKK _ _ ?_
    simp [AllN] at hk
    simp only [frameL, hk]
    have HB17 : Hid (Below w.heap.size w w17) := Lib.hid (bel_on (bel_drew HB.out) hb17)
    clear hb17 hk
    go_wp2
    go_ret
    exact ⟨rfl, HB17.out⟩
  · have hge := Got.empty_made (w2.alloc (.cells #[.int .i64 x.k, .int .i64 x.e, .int .i64 x.n, .slice A1 x.d.length c1, .slice B1 x.ks.length e1] 25)) (base := w2.heap.size + 1) 5 .u8 (by simp)
    rw [World.size_alloc] at hge
    have := HB.out.size
    exact ⟨(H2.out.alloc _).alloc _, (H3.out.alloc _).alloc _, (Blk.fresh _ _ _).alloc _, hge, (HB.out.alloc HB.out.size _).alloc (by simp; omega) _, by simp⟩
end Go.Proofs.Ytgleanjfaecceaa
