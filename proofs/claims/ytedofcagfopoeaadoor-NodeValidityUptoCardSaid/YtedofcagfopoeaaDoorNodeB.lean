/- Package node: hasExactBytes, isStruct, isList, Valid. -/
import Derived.Test.YtedofcagfopoeaaDoorNodeA
import Derived.Test.YtedofcagfopoeaaDoorList
import Derived.Test.YtedofcagfopoeaaDoorRegion
namespace Go.Proofs.YtedofcagfopoeaaDoor
open Go.ChangeShapes Go.WideShapes Go.ChangeAt Go.RowKit
set_option linter.unusedVariables false
set_option linter.unusedSimpArgs false
attribute [local simp] AllK KnowsV look Is

theorem abs_codeN {P : Program} {C : Code} {Q : Exit → Act → World → Prop} {a : Act} {V : World} (F : World → Prop) (hF : F V) (h : ∀ W, F W → C.wp P Q a W) : C.wp P Q a V := h V hF
theorem shr8_fin : ∀ q : Fin 8, ∀ z : Fin 256, ((z.val : Int) / 2 ^ q.val = 0 ↔ (z.val : Int) % p2 q.val = z.val) := by decide +kernel
theorem shr8 (q : Nat) (h : q < 8) (z : Int) (h0 : 0 ≤ z) (h1 : z < 256) : z / 2 ^ q = 0 ↔ z % p2 q = z := by
  have := shr8_fin ⟨q, h⟩ ⟨z.toNat, by omega⟩
  simpa [Int.toNat_of_nonneg h0] using this
theorem set_same {l : List Int} {m : Nat} (h : m < l.length) (v : Int) : l.set m v = l ↔ v = zat l m := by
  unfold zat
  constructor
  · intro he
    have : (l.set m v)[m]? = l[m]? := by rw [he]
    rw [List.getElem?_set_self h] at this
    rw [List.getD_eq_getElem?_getD, ← this]
    rfl
  · intro he
    subst he
    rw [List.getD_eq_getElem?_getD, List.getElem?_eq_getElem h]
    simp

set_option maxRecDepth 100000 in
theorem Exact_any (k e n : Int) (d : List Int) (A : Option Addr) (c : Nat) (B : Option Addr) (kl c2 : Nat) (w : World) (hT : TabOK w) (hr : Ri w .u8 A d) (hb : Bts d) (he0 : 0 ≤ e) (he5 : e ≤ 5) (h0 : 0 ≤ n) (h1 : n ≤ 536870911) (hd : d.length ≤ 1099511627776) :
    Calls Tryd.prog 31 #[.agg #[.int .i64 k, .int .i64 e, .int .i64 n, .slice A d.length c, .slice B kl c2]] w fun r w' => r = .returned (.bool (decide ((d.length : Int) = bytesI e n ∧ trimL d e n = d))) ∧ Below w.heap.size w w' := by
  obtain ⟨m0, m1⟩ := bitsI_mul e n h0
  have HB0 : Hid (Below w.heap.size w (w.alloc (.cells #[.int .i64 k, .int .i64 e, .int .i64 n, .slice A d.length c, .slice B kl c2] 25))) := Lib.hid ((Below.refl _ _).alloc (Nat.le_refl _) _)
  have HB := Lib.hid (LBytes_any e n _ (hT.alloc (.cells #[.int .i64 k, .int .i64 e, .int .i64 n, .slice A d.length c, .slice B kl c2] 25)) he0 he5 h0 h1)
  have hbb : 0 ≤ bytesI e n ∧ bytesI e n ≤ 4294967288 := by unfold bytesI; omega
  by_cases hl : (d.length : Int) = bytesI e n
  case neg =>
    have HR : Hid (decide ((d.length : Int) = bytesI e n ∧ trimL d e n = d) = false) := Lib.hid (by simp [hl])
    have t1 : ((d.length : Int) != bytesI e n) = true := by simpa using hl
    rw [HR.out]
    clear HR hl hT
    generalize bytesI e n = y at *
    go_enter Tryd.func31, Tryd.ntmps31
    go_wp2_with fail
    refine HB.out.mono ?_
    rintro r w' ⟨rfl, rfl⟩
    go_wp2
    go_ret
    exact ⟨rfl, HB0.out⟩
  obtain ⟨q, hq⟩ : ∃ q : Nat, bitsI e * n % 8 = q := ⟨(bitsI e * n % 8).toNat, by omega⟩
  have hq8 : q < 8 := by omega
  have HP := Lib.hid (fun h : q = 0 => trimL_plain (b := d) hl.symm (Nat.le_refl _) he0 he5 h0 (by rw [hq, h]; rfl))
  have HLAST := Lib.hid (fun h : 0 < q => trimL_last (b := d) hl.symm (Nat.le_refl _) he0 he5 h0 hq h)
  have HQ := Lib.hid hq
  have HRI := Lib.hid hr
  have HBT := Lib.hid hb
  have t1 : ((d.length : Int) != bytesI e n) = false := by simpa using hl
  have HL := Lib.hid hl
  have HV : Hid (decide ((d.length : Int) = bytesI e n ∧ trimL d e n = d) = decide (trimL d e n = d)) := Lib.hid (by simp [hl])
  have hz : q = 0 ∨ 0 < q := by omega
  have HT := Lib.hid hT
  have HBI := Lib.hid (fun wc (h : Below w.heap.size w wc) => LBits_any e wc (HT.out.on h) he0 (by omega))
  rw [HV.out]
  clear HV hr hb hT hl hq
  generalize hy : bytesI e n = y at *
  generalize trimL d e n = T at *
  generalize bitsI e = x at *
  go_enter Tryd.func31, Tryd.ntmps31
  go_wp2_with fail
  refine HB.out.mono ?_
  rintro r w' ⟨rfl, rfl⟩
  go_wp2_with fail
  refine abs_codeN (F := fun W => Blk W w.heap.size #[.int .i64 k, .int .i64 e, .int .i64 n, .slice A d.length c, .slice B kl c2] ∧ Below w.heap.size w W) ⟨Blk.fresh _ _ _, HB0.out⟩ ?_
  rintro W ⟨h1', hbW⟩
  have H1 := Lib.hid h1'
  have HBW := Lib.hid hbW
  obtain ⟨x1, y1, z1⟩ := h1'
  clear hbW HB0 HB
  rename_i KK hKK
  refine wp_region_chain (by kernel_rfl) (by kernel_rfl) ?_
  refine chain_val (u := ?_) [1] rfl (by kernel_rfl) trivial (fun ρ wc hbc hcn hk => ?_) ?_; rotate_left
  · obtain ⟨hcn, -⟩ := hcn
    simp at hk
    go_simp
    rfl
  refine chain_val (u := ?_) [15] rfl (by kernel_rfl) trivial (fun ρ wc hbc hcn hk => ?_) ?_; rotate_left
  · obtain ⟨hcn, -⟩ := hcn
    simp at hk
    obtain ⟨hcc, -⟩ := bcell hbc
    simp at hcc
    go_simp
    rfl
  refine chain_call (T := Is ?_) 38 [16] rfl (by kernel_rfl) trivial (stable_is _) (fun ρ wc hbc hcn hk => ?_) ?_; rotate_left
  · obtain ⟨hcn, hfn⟩ := hcn
    simp at hk
    refine ⟨_, by go_simp; rfl, ?_⟩
    refine (HBI.out wc (bel_on (bel_drew HBW.out) hbc)).mono ?_
    rintro e w' ⟨rfl, rfl⟩
    refine ⟨_, rfl, ?_, Below.refl _ _⟩
    unfold Is
    rfl
  refine chain_val (u := ?_) [1] rfl (by kernel_rfl) trivial (fun ρ wc hbc hcn hk => ?_) ?_; rotate_left
  · obtain ⟨hcn, -⟩ := hcn
    simp at hk
    go_simp
    rfl
  refine chain_val (u := ?_) [18] rfl (by kernel_rfl) trivial (fun ρ wc hbc hcn hk => ?_) ?_; rotate_left
  · obtain ⟨hcn, -⟩ := hcn
    simp at hk
    obtain ⟨hcc, -⟩ := bcell hbc
    simp at hcc
    go_simp
    rfl
  refine chain_val (u := ?_) [17, 19] rfl (by kernel_rfl) trivial (fun ρ wc hbc hcn hk => ?_) ?_; rotate_left
  · obtain ⟨hcn, -⟩ := hcn
    simp at hk
    go_simp
    rfl
  refine chain_val (u := ?_) [20] rfl (by kernel_rfl) trivial (fun ρ wc hbc hcn hk => ?_) ?_; rotate_left
  · obtain ⟨hcn, -⟩ := hcn
    simp at hk
    go_simp
    rfl
  refine chain_val (u := ?_) [21] rfl (by kernel_rfl) trivial (fun ρ wc hbc hcn hk => ?_) ?_; rotate_left
  · obtain ⟨hcn, -⟩ := hcn
    simp at hk
    go_simp
    rfl
  refine chain_end_lit 35 rfl (fun ff w7 hb7 hk => ?_)
  refine hKK _ _ ?_
  clear hKK KK
  simp [AllN] at hk
  simp only [frameL, hk]
  have HB7 : Hid (Below w.heap.size w w7) := Lib.hid (bel_on (bel_drew HBW.out) hb7)
  have B7 := H1.out.drew.below hb7
  clear hb7 hk x1 y1 z1 H1 HBW
  have HRI7 := Lib.hid (HRI.out.below HB7.out (Nat.le_refl _))
  obtain ⟨x1, y1, z1⟩ := B7
  have hm : (IntKind.i64.wrap (x * n)).tmod 8 = (q : Int) := by
    rw [IntKind.wrap_i64, show (x * n + 9223372036854775808) % 18446744073709551616 - 9223372036854775808 = x * n by omega, Int.tmod_eq_emod_of_nonneg m0]
    exact HQ.out
  rw [hm]
  clear hm
  rcases hz with hz | hz
  · have HR : Hid (decide (T = d) = true) := Lib.hid (by rw [HP.out hz]; simp)
    have t2 : ((q : Int) == 0) = true := by rw [hz]; rfl
    clear HP HLAST
    go_wp2
    go_ret
    exact ⟨by rw [HR.out]; rfl, HB7.out⟩
  · obtain ⟨hn1, -, hR⟩ := HLAST.out hz
    have t2 : ((q : Int) == 0) = false := by simp; omega
    obtain ⟨b, off, rfl, hcell⟩ := HRI7.out.at (i := d.length - 1) (by omega)
    have hbt := HBT.out.at (d.length - 1)
    have HZ := Lib.hid hbt
    have HS := Lib.hid (shr8 q hq8 _ hbt.1 hbt.2)
    have HR : Hid (decide (T = d) = (zat d (d.length - 1) / 2 ^ q == 0)) := Lib.hid (by
      rw [hR, List.take_length, Bool.eq_iff_iff]
      simp only [decide_eq_true_iff, beq_iff_eq]
      rw [set_same (by omega)]
      exact HS.out.symm)
    have hy2 : y = ((d.length - 1 : Nat) : Int) + 1 := by have := HL.out; omega
    have hj0 : (d.length - 1 : Nat) < d.length := by omega
    generalize d.length - 1 = m at *
    subst hy2
    clear HP HLAST hR hbt
    go_wp2
    go_ret
    exact ⟨by rw [HR.out]; rfl, HB7.out⟩

def structN (x : Nd) : Bool := decide (x.k = 1) && validN x
theorem validK_all {k e : Int} (h : ¬ (k = 2 ∧ e = 7)) (ks : List Nd) : validK k e ks = ks.all validN := by
  induction ks with
  | nil => simp [validK]
  | cons x xs ih =>
    have h2 : decide (k = 2 ∧ e = 7 ∧ x.k ≠ 1) = false := decide_eq_false (fun h3 => h ⟨h3.1, h3.2.1⟩)
    simp only [validK, ih, h2, Bool.not_false, Bool.and_true, List.all_cons]
theorem validK_str (ks : List Nd) : validK 2 7 ks = ks.all structN := by
  induction ks with
  | nil => simp [validK]
  | cons x xs ih =>
    simp only [validK, ih, List.all_cons]
    congr 1
    unfold structN
    by_cases h : x.k = 1
    · simp [h]
    · simp [h]

abbrev KidsOK (f : FuncId) (P : Nd → Bool) (w : World) (ks : List Nd) : Prop := Hid (∀ j (hj : j < ks.length) A' c' B' c2' wc, Below w.heap.size w wc → NdR wc A' c' B' c2' ks[j] → Calls Tryd.prog f #[.agg #[.int .i64 (ks[j]).k, .int .i64 (ks[j]).e, .int .i64 (ks[j]).n, .slice A' (ks[j]).d.length c', .slice B' (ks[j]).ks.length c2']] wc fun r w' => r = .returned (.bool (P ks[j])) ∧ Below wc.heap.size wc w')

set_option maxRecDepth 100000 in
theorem Struct_step (k e n : Int) (d : List Int) (ks : List Nd) (A : Option Addr) (c : Nat) (B : Option Addr) (c2 : Nat) (w : World) (hx : NdR w A c B c2 (.mk k e n d ks)) (hs : sizeN (.mk k e n d ks) ≤ 1099511627776)
    (HC : KidsOK 10 validN w ks) :
    Calls Tryd.prog 21 #[.agg #[.int .i64 k, .int .i64 e, .int .i64 n, .slice A d.length c, .slice B ks.length c2]] w fun r w' => r = .returned (.bool (structN (.mk k e n d ks))) ∧ Below w.heap.size w w' := by
  have hso : sizeN (.mk k e n d ks) = 1 + d.length + sizeK ks := by simp only [sizeN]
  rw [hso] at hs
  have hkl := sizeK_length ks
  have HK := Lib.hid hx.kids
  have HB0 : Hid (Below w.heap.size w (w.alloc (.cells #[.int .i64 k, .int .i64 e, .int .i64 n, .slice A d.length c, .slice B ks.length c2] 25))) := Lib.hid ((Below.refl _ _).alloc (Nat.le_refl _) _)
  clear hx hso
  by_cases hall : k = 1 ∧ e = 0 ∧ n = 0 ∧ d.length % 8 = 0 ∧ d.length ≤ 524280 ∧ ks.length ≤ 65535
  case neg =>
    have HR : Hid (structN (.mk k e n d ks) = false) := Lib.hid (by
      unfold structN
      by_cases h1 : k = 1
      · have : headB k e n d ks = false := by unfold headB; rw [if_neg (by omega), if_pos h1]; exact decide_eq_false (fun h => hall ⟨h1, h⟩)
        simp only [validN, this, Bool.and_false]
      · simp [Nd.k, h1])
    rw [HR.out]
    have hor : (k == 1) = false ∨ ((k == 1) = true ∧ (e == 0) = false) ∨ ((k == 1) = true ∧ (e == 0) = true ∧ (n == 0) = false) ∨ ((k == 1) = true ∧ (e == 0) = true ∧ (n == 0) = true ∧ ((d.length : Int) % 8 == 0) = false) ∨
        ((k == 1) = true ∧ (e == 0) = true ∧ (n == 0) = true ∧ ((d.length : Int) % 8 == 0) = true ∧ 524280 < d.length) ∨ ((k == 1) = true ∧ (e == 0) = true ∧ (n == 0) = true ∧ ((d.length : Int) % 8 == 0) = true ∧ d.length ≤ 524280 ∧ 65535 < ks.length) := by
      simp only [beq_iff_eq, beq_eq_false_iff_ne, ne_eq]
      omega
    clear hall HR
    rcases hor with h1 | ⟨h1, h2⟩ | ⟨h1, h2, h3⟩ | ⟨h1, h2, h3, h4⟩ | ⟨h1, h2, h3, h4, h5⟩ | ⟨h1, h2, h3, h4, h5, h6⟩ <;>
    ( go_enter Tryd.func21, Tryd.ntmps21
      go_wp2
      go_ret
      exact ⟨by simp, HB0.out⟩)
  obtain ⟨h1, h2, h3, h4, h5, h6⟩ := hall
  subst h1 h2 h3
  have HR : Hid (structN (.mk 1 0 0 d ks) = ks.all validN) := Lib.hid (by
    unfold structN
    have : headB 1 0 0 d ks = true := by unfold headB; rw [if_neg (by omega), if_pos rfl]; exact decide_eq_true ⟨rfl, rfl, h4, h5, h6⟩
    simp only [validN, this, validK_all (show ¬ ((1 : Int) = 2 ∧ (0 : Int) = 7) by omega), Bool.and_true, Nd.k, decide_true, Bool.true_and])
  rw [HR.out]
  have t4 : ((d.length : Int) % 8 == 0) = true := by simp only [beq_iff_eq]; omega
  clear HR
  go_enter Tryd.func21, Tryd.ntmps21
  go_wp2_with fail
  refine (All_any 10 (.inl rfl) validN ks B c2 _ (HK.out.on HB0.out (Nat.le_refl _)) (by omega) (Lib.hid (fun j hj A' c' B' c2' wc hb hx => HC.out j hj A' c' B' c2' wc (HB0.out.trans (hb.mono HB0.out.size)) hx))).mono ?_
  rintro r w1 ⟨rfl, hb1⟩
  have HB1 : Hid (Below w.heap.size w w1) := Lib.hid (bel_on HB0.out hb1)
  clear hb1
  go_wp2
  go_ret
  exact ⟨rfl, HB1.out⟩

set_option maxHeartbeats 4000000 in
set_option maxRecDepth 100000 in
theorem List_step (e n : Int) (d : List Int) (ks : List Nd) (A : Option Addr) (c : Nat) (B : Option Addr) (c2 : Nat) (w : World) (hT : TabOK w) (hx : NdR w A c B c2 (.mk 2 e n d ks)) (hs : sizeN (.mk 2 e n d ks) ≤ 1099511627776)
    (HC : KidsOK 10 validN w ks) (HCS : KidsOK 21 structN w ks) :
    Calls Tryd.prog 22 #[.agg #[.int .i64 2, .int .i64 e, .int .i64 n, .slice A d.length c, .slice B ks.length c2]] w fun r w' => r = .returned (.bool (validN (.mk 2 e n d ks))) ∧ Below w.heap.size w w' := by
  have hso : sizeN (.mk 2 e n d ks) = 1 + d.length + sizeK ks := by simp only [sizeN]
  rw [hso] at hs
  have hkl := sizeK_length ks
  have HK := Lib.hid hx.kids
  have HO := Lib.hid hx.open
  have HB0 : Hid (Below w.heap.size w (w.alloc (.cells #[.int .i64 2, .int .i64 e, .int .i64 n, .slice A d.length c, .slice B ks.length c2] 25))) := Lib.hid ((Below.refl _ _).alloc (Nat.le_refl _) _)
  have HT := Lib.hid hT
  have HV : Hid (validN (.mk 2 e n d ks) = (validK 2 e ks && decide (0 ≤ n ∧ n ≤ 536870911 ∧ 0 ≤ e ∧ e ≤ 7 ∧ (6 ≤ e → d.length = 0 ∧ (ks.length : Int) = n) ∧ (e < 6 → ks.length = 0 ∧ (d.length : Int) = bytesI e n ∧ trimL d e n = d)))) := Lib.hid (by
    simp only [validN]
    unfold headB
    rw [if_neg (by omega), if_neg (by omega), if_pos rfl])
  clear hx hso hT
  by_cases hr : 0 ≤ n ∧ n ≤ 536870911 ∧ 0 ≤ e ∧ e ≤ 7
  case neg =>
    have HR : Hid (validN (.mk 2 e n d ks) = false) := Lib.hid (by
      rw [HV.out, decide_eq_false (fun h => hr ⟨h.1, h.2.1, h.2.2.1, h.2.2.2.1⟩), Bool.and_false])
    rw [HR.out]
    clear HR HV
    have hor : n < 0 ∨ (0 ≤ n ∧ 536870911 < n) ∨ (0 ≤ n ∧ n ≤ 536870911 ∧ e < 0) ∨ (0 ≤ n ∧ n ≤ 536870911 ∧ 0 ≤ e ∧ 7 < e) := by omega
    clear hr
    rcases hor with hr | ⟨hr, hr2⟩ | ⟨hr, hr2, hr3⟩ | ⟨hr, hr2, hr3, hr4⟩ <;>
    ( go_enter Tryd.func22, Tryd.ntmps22
      go_wp2
      go_ret
      exact ⟨by simp, HB0.out⟩)
  obtain ⟨hn0, hn1, he0, he1⟩ := hr
  rcases (by omega : e ≤ 5 ∨ e = 6 ∨ e = 7) with he | rfl | rfl
  · have HVE : Hid (validN (.mk 2 e n d ks) = (decide (ks.length = 0) && decide ((d.length : Int) = bytesI e n ∧ trimL d e n = d))) := Lib.hid (by
      rw [HV.out]
      by_cases h0 : ks.length = 0
      · obtain rfl := List.eq_nil_of_length_eq_zero h0
        simp only [validK, Bool.true_and, List.length_nil, decide_true]
        rw [decide_eq_decide]
        exact ⟨fun h => (h.2.2.2.2.2 (by omega)).2, fun h => ⟨hn0, hn1, he0, he1, fun h6 => absurd h6 (by omega), fun _ => ⟨by trivial, h⟩⟩⟩
      · rw [decide_eq_false h0, Bool.false_and, decide_eq_false (fun h => h0 (h.2.2.2.2.2 (by omega)).1), Bool.and_false])
    rw [HVE.out]
    have HE := Lib.hid (fun wc (hb : Below w.heap.size w wc) => Exact_any 2 e n d A c B ks.length c2 wc (HT.out.on hb) (HO.out.2.2.2.1.below hb (Nat.le_refl _)) HO.out.2.2.2.2.1 he0 he hn0 hn1 (by omega))
    have hor : e = 0 ∨ e = 1 ∨ e = 2 ∨ e = 3 ∨ e = 4 ∨ e = 5 := by omega
    clear HV HVE HO
    by_cases h0 : ks.length = 0
    · have t0 : ((ks.length : Int) == 0) = true := by simp only [beq_iff_eq]; omega
      rw [decide_eq_true h0, Bool.true_and]
      clear h0
      generalize (decide ((d.length : Int) = bytesI e n ∧ trimL d e n = d)) = V at *
      rcases hor with rfl | rfl | rfl | rfl | rfl | rfl <;>
      ( go_enter Tryd.func22, Tryd.ntmps22
        go_wp2_with fail
        refine (HE.out _ HB0.out).mono ?_
        rintro r w1 ⟨rfl, hb1⟩
        have HB1 : Hid (Below w.heap.size w w1) := Lib.hid (bel_on HB0.out hb1)
        clear hb1
        go_wp2
        go_ret
        exact ⟨rfl, HB1.out⟩)
    · have t0 : ((ks.length : Int) == 0) = false := by simp only [beq_eq_false_iff_ne, ne_eq]; omega
      rw [decide_eq_false h0, Bool.false_and]
      rcases hor with rfl | rfl | rfl | rfl | rfl | rfl <;>
      ( go_enter Tryd.func22, Tryd.ntmps22
        go_wp2
        go_ret
        exact ⟨by simp, HB0.out⟩)
  · have HVE : Hid (validN (.mk 2 6 n d ks) = (decide (d.length = 0 ∧ (ks.length : Int) = n) && ks.all validN)) := Lib.hid (by
      rw [HV.out, validK_all (by omega), Bool.and_comm]
      congr 1
      rw [decide_eq_decide]
      exact ⟨fun h => h.2.2.2.2.1 (by omega), fun h => ⟨hn0, hn1, he0, he1, fun _ => h, fun h6 => absurd h6 (by omega)⟩⟩)
    rw [HVE.out]
    clear HV HVE HO
    by_cases hc : d.length = 0 ∧ (ks.length : Int) = n
    · obtain ⟨hd0, rfl⟩ := hc
      have t0 : ((d.length : Int) == 0) = true := by simp only [beq_iff_eq]; omega
      rw [decide_eq_true ⟨hd0, rfl⟩, Bool.true_and]
      clear hd0
      go_enter Tryd.func22, Tryd.ntmps22
      go_wp2_with fail
      refine (All_any 10 (.inl rfl) validN ks B c2 _ (HK.out.on HB0.out (Nat.le_refl _)) (by omega) (Lib.hid (fun j hj A' c' B' c2' wc hb hx => HC.out j hj A' c' B' c2' wc (HB0.out.trans (hb.mono HB0.out.size)) hx))).mono ?_
      rintro r w1 ⟨rfl, hb1⟩
      have HB1 : Hid (Below w.heap.size w w1) := Lib.hid (bel_on HB0.out hb1)
      clear hb1
      go_wp2
      go_ret
      exact ⟨rfl, HB1.out⟩
    · rw [decide_eq_false hc, Bool.false_and]
      have hor : ((d.length : Int) == 0) = false ∨ (((d.length : Int) == 0) = true ∧ ((ks.length : Int) == n) = false) := by simp only [beq_iff_eq, beq_eq_false_iff_ne, ne_eq]; omega
      clear hc
      rcases hor with t1 | ⟨t1, t2⟩ <;>
      ( go_enter Tryd.func22, Tryd.ntmps22
        go_wp2
        go_ret
        exact ⟨by simp, HB0.out⟩)
  · have HVE : Hid (validN (.mk 2 7 n d ks) = (decide (d.length = 0 ∧ (ks.length : Int) = n) && ks.all structN)) := Lib.hid (by
      rw [HV.out, validK_str, Bool.and_comm]
      congr 1
      rw [decide_eq_decide]
      exact ⟨fun h => h.2.2.2.2.1 (by omega), fun h => ⟨hn0, hn1, he0, he1, fun _ => h, fun h6 => absurd h6 (by omega)⟩⟩)
    rw [HVE.out]
    clear HV HVE HO
    by_cases hc : d.length = 0 ∧ (ks.length : Int) = n
    · obtain ⟨hd0, rfl⟩ := hc
      have t0 : ((d.length : Int) == 0) = true := by simp only [beq_iff_eq]; omega
      rw [decide_eq_true ⟨hd0, rfl⟩, Bool.true_and]
      clear hd0
      go_enter Tryd.func22, Tryd.ntmps22
      go_wp2_with fail
      refine (All_any 21 (.inr rfl) structN ks B c2 _ (HK.out.on HB0.out (Nat.le_refl _)) (by omega) (Lib.hid (fun j hj A' c' B' c2' wc hb hx => HCS.out j hj A' c' B' c2' wc (HB0.out.trans (hb.mono HB0.out.size)) hx))).mono ?_
      rintro r w1 ⟨rfl, hb1⟩
      have HB1 : Hid (Below w.heap.size w w1) := Lib.hid (bel_on HB0.out hb1)
      clear hb1
      go_wp2
      go_ret
      exact ⟨rfl, HB1.out⟩
    · rw [decide_eq_false hc, Bool.false_and]
      have hor : ((d.length : Int) == 0) = false ∨ (((d.length : Int) == 0) = true ∧ ((ks.length : Int) == n) = false) := by simp only [beq_iff_eq, beq_eq_false_iff_ne, ne_eq]; omega
      clear hc
      rcases hor with t1 | ⟨t1, t2⟩ <;>
      ( go_enter Tryd.func22, Tryd.ntmps22
        go_wp2
        go_ret
        exact ⟨by simp, HB0.out⟩)

set_option maxRecDepth 100000 in
theorem Valid_step (k e n : Int) (d : List Int) (ks : List Nd) (A : Option Addr) (c : Nat) (B : Option Addr) (c2 : Nat) (w : World) (hT : TabOK w) (hx : NdR w A c B c2 (.mk k e n d ks)) (hs : sizeN (.mk k e n d ks) ≤ 1099511627776)
    (HC : KidsOK 10 validN w ks) (HCS : KidsOK 21 structN w ks) :
    Calls Tryd.prog 10 #[.agg #[.int .i64 k, .int .i64 e, .int .i64 n, .slice A d.length c, .slice B ks.length c2]] w fun r w' => r = .returned (.bool (validN (.mk k e n d ks))) ∧ Below w.heap.size w w' := by
  have HB0 : Hid (Below w.heap.size w (w.alloc (.cells #[.int .i64 k, .int .i64 e, .int .i64 n, .slice A d.length c, .slice B ks.length c2] 25))) := Lib.hid ((Below.refl _ _).alloc (Nat.le_refl _) _)
  have HKO : ∀ (f : FuncId) (P : Nd → Bool), KidsOK f P w ks → KidsOK f P (w.alloc (.cells #[.int .i64 k, .int .i64 e, .int .i64 n, .slice A d.length c, .slice B ks.length c2] 25)) ks := fun f P h => Lib.hid (fun j hj A' c' B' c2' wc hb hx => h.out j hj A' c' B' c2' wc (HB0.out.trans (hb.mono HB0.out.size)) hx)
  have HX := Lib.hid (hx.on HB0.out (Nat.le_refl _))
  have HT := Lib.hid (hT.on HB0.out)
  have HK1 := HKO _ _ HC
  have HK2 := HKO _ _ HCS
  clear HKO HC HCS hx hT
  by_cases h0 : k = 0
  · subst h0
    by_cases hc : e = 0 ∧ n = 0 ∧ d.length = 0 ∧ ks.length = 0
    · obtain ⟨rfl, rfl, h1, h2⟩ := hc
      have t1 : ((d.length : Int) == 0) = true := by simp only [beq_iff_eq]; omega
      have t2 : ((ks.length : Int) == 0) = true := by simp only [beq_iff_eq]; omega
      have HR : Hid (validN (.mk 0 0 0 d ks) = true) := Lib.hid (by
        obtain rfl := List.eq_nil_of_length_eq_zero h2
        obtain rfl := List.eq_nil_of_length_eq_zero h1
        rfl)
      rw [HR.out]
      clear HR HX HK1 HK2 h1 h2
      go_enter Tryd.func10, Tryd.ntmps10
      go_wp2
      go_ret
      exact ⟨by simp, HB0.out⟩
    · have HR : Hid (validN (.mk 0 e n d ks) = false) := Lib.hid (by
        have : headB 0 e n d ks = false := by unfold headB; rw [if_pos rfl]; exact decide_eq_false hc
        simp only [validN, this, Bool.and_false])
      rw [HR.out]
      have hor : (e == 0) = false ∨ ((e == 0) = true ∧ (n == 0) = false) ∨ ((e == 0) = true ∧ (n == 0) = true ∧ ((d.length : Int) == 0) = false) ∨ ((e == 0) = true ∧ (n == 0) = true ∧ ((d.length : Int) == 0) = true ∧ ((ks.length : Int) == 0) = false) := by
        simp only [beq_iff_eq, beq_eq_false_iff_ne, ne_eq]
        omega
      clear HR HX HK1 HK2 hc
      rcases hor with h1 | ⟨h1, h2⟩ | ⟨h1, h2, h3⟩ | ⟨h1, h2, h3, h4⟩ <;>
      ( go_enter Tryd.func10, Tryd.ntmps10
        go_wp2
        go_ret
        exact ⟨by simp, HB0.out⟩)
  have t0 : (k == 0) = false := by simpa using h0
  by_cases h1 : k = 1
  · subst h1
    have HR : Hid (validN (.mk 1 e n d ks) = structN (.mk 1 e n d ks)) := Lib.hid (by unfold structN; simp [Nd.k])
    rw [HR.out]
    clear HR
    go_enter Tryd.func10, Tryd.ntmps10
    go_wp2_with fail
    refine (Struct_step 1 e n d ks A c B c2 _ HX.out hs HK1).mono ?_
    rintro r w1 ⟨rfl, hb1⟩
    have HB1 : Hid (Below w.heap.size w w1) := Lib.hid (bel_on HB0.out hb1)
    clear hb1
    go_wp2
    go_ret
    exact ⟨rfl, HB1.out⟩
  have t1 : (k == 1) = false := by simpa using h1
  by_cases h2 : k = 2
  · subst h2
    go_enter Tryd.func10, Tryd.ntmps10
    go_wp2_with fail
    refine (List_step e n d ks A c B c2 _ HT.out HX.out hs HK1 HK2).mono ?_
    rintro r w1 ⟨rfl, hb1⟩
    have HB1 : Hid (Below w.heap.size w w1) := Lib.hid (bel_on HB0.out hb1)
    clear hb1
    go_wp2
    go_ret
    exact ⟨rfl, HB1.out⟩
  have t2 : (k == 2) = false := by simpa using h2
  have HR : Hid (validN (.mk k e n d ks) = false) := Lib.hid (by
    have : headB k e n d ks = false := by unfold headB; rw [if_neg h0, if_neg h1, if_neg h2]
    simp only [validN, this, Bool.and_false])
  rw [HR.out]
  clear HR HX HK1 HK2
  go_enter Tryd.func10, Tryd.ntmps10
  go_wp2
  go_ret
  exact ⟨by simp, HB0.out⟩

theorem ValidStruct_any : ∀ (x : Nd),
    (∀ (A : Option Addr) (c : Nat) (B : Option Addr) (c2 : Nat) (w : World), TabOK w → NdR w A c B c2 x → sizeN x ≤ 1099511627776 → Calls Tryd.prog 10 #[.agg #[.int .i64 x.k, .int .i64 x.e, .int .i64 x.n, .slice A x.d.length c, .slice B x.ks.length c2]] w fun r w' => r = .returned (.bool (validN x)) ∧ Below w.heap.size w w') ∧
    (∀ (A : Option Addr) (c : Nat) (B : Option Addr) (c2 : Nat) (w : World), TabOK w → NdR w A c B c2 x → sizeN x ≤ 1099511627776 → Calls Tryd.prog 21 #[.agg #[.int .i64 x.k, .int .i64 x.e, .int .i64 x.n, .slice A x.d.length c, .slice B x.ks.length c2]] w fun r w' => r = .returned (.bool (structN x)) ∧ Below w.heap.size w w') := by
  refine Nd.ind ?_
  intro k e n d ks ih
  simp only [Nd.k, Nd.e, Nd.n, Nd.d, Nd.ks]
  have hso : sizeN (.mk k e n d ks) = 1 + d.length + sizeK ks := by simp only [sizeN]
  have kv : ∀ w, TabOK w → sizeN (.mk k e n d ks) ≤ 1099511627776 → KidsOK 10 validN w ks := fun w hT hs => Lib.hid (fun j hj A' c' B' c2' wc hb hx => (ih ks[j] (List.getElem_mem hj)).1 A' c' B' c2' wc (hT.on hb) hx (by have := sizeN_kid (List.getElem_mem hj); omega))
  have kst : ∀ w, TabOK w → sizeN (.mk k e n d ks) ≤ 1099511627776 → KidsOK 21 structN w ks := fun w hT hs => Lib.hid (fun j hj A' c' B' c2' wc hb hx => (ih ks[j] (List.getElem_mem hj)).2 A' c' B' c2' wc (hT.on hb) hx (by have := sizeN_kid (List.getElem_mem hj); omega))
  exact ⟨fun A c B c2 w hT hx hs => Valid_step k e n d ks A c B c2 w hT hx hs (kv w hT hs) (kst w hT hs), fun A c B c2 w hT hx hs => Struct_step k e n d ks A c B c2 w hx hs (kv w hT hs)⟩
end Go.Proofs.YtedofcagfopoeaaDoor
