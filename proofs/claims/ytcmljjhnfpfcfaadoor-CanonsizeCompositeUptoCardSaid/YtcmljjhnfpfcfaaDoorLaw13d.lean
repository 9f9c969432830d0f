/- A law of layer 13: CanonsizeComposite. -/
import Derived.Test.YtcmljjhnfpfcfaaDoorLaw13e
import Derived.Test.YtcmljjhnfpfcfaaDoorMg1
import Derived.Test.YtcmljjhnfpfcfaaDoorMg2
import Derived.Test.YtcmljjhnfpfcfaaDoorMg3
import Derived.Test.YtcmljjhnfpfcfaaDoorMg4
import Derived.Test.YtcmljjhnfpfcfaaDoorMg5
import Derived.Test.YtcmljjhnfpfcfaaDoorMg6
import Derived.Test.YtcmljjhnfpfcfaaDoorMg7
import Derived.Test.YtcmljjhnfpfcfaaDoorMg8
import Derived.Test.YtcmljjhnfpfcfaaDoorMg9
import Derived.Test.YtcmljjhnfpfcfaaDoorMg10
import Derived.Test.YtcmljjhnfpfcfaaDoorMg11
import Derived.Test.YtcmljjhnfpfcfaaDoorMg13
import Derived.Test.YtcmljjhnfpfcfaaDoorMg17
import Derived.Test.YtcmljjhnfpfcfaaDoorMg18
import Derived.Test.YtcmljjhnfpfcfaaDoorMg19
import Derived.Test.YtcmljjhnfpfcfaaDoorMg20
import Derived.Test.YtcmljjhnfpfcfaaDoorMg21
import Derived.Test.YtcmljjhnfpfcfaaDoorMg22
import Derived.Test.YtcmljjhnfpfcfaaDoorMg26
namespace Go.Proofs.YtcmljjhnfpfcfaaDoor
open Go.ChangeShapes Go.WideShapes Go.ChangeAt Go.RowKit
set_option linter.unusedVariables false
set_option linter.unusedSimpArgs false
set_option maxRecDepth 100000
attribute [local simp] AllK KnowsV look Is

theorem targ_struct {x : Nd} (h : x.k = 1) : targN x = x.ks := by
  obtain ⟨k, e, n, d, ks⟩ := x
  rw [targN_mk, if_neg (by simp only [Nd.k] at h; omega)]
  rfl
theorem valid_kid {x : Nd} (h : validN x = true) (hk : x.k = 1) (y : Nd) (hy : y ∈ x.ks) : validN y = true := valid_targ h y (by rw [targ_struct hk]; exact hy)
theorem rep_mem {x y : Nd} {m : Nat} (h : y ∈ x :: List.replicate m e13) : y = x ∨ y = e13 := by
  rcases List.mem_cons.1 h with h | h
  · exact .inl h
  · exact .inr (List.eq_of_mem_replicate h)
theorem uni_rep (x : Nd) : ∀ m, uniD (x :: List.replicate m e13) (m + 1) = x.d.length / 8 ∧ uniP (x :: List.replicate m e13) (m + 1) = x.ks.length
  | 0 => by simp [uniD, uniP]
  | m + 1 => by
    have ih := uni_rep x m
    have hg : ∀ i, i < m + 1 → (x :: List.replicate (m + 1) e13)[i]? = (x :: List.replicate m e13)[i]? := by
      intro i hi
      cases i with
      | zero => rfl
      | succ i => rw [List.getElem?_cons_succ, List.getElem?_cons_succ, List.getElem?_replicate, List.getElem?_replicate, if_pos (by omega), if_pos (by omega)]
    have hD : ∀ i, i ≤ m + 1 → uniD (x :: List.replicate (m + 1) e13) i = uniD (x :: List.replicate m e13) i ∧ uniP (x :: List.replicate (m + 1) e13) i = uniP (x :: List.replicate m e13) i := by
      intro i
      induction i with
      | zero => intro _; exact ⟨rfl, rfl⟩
      | succ i ih2 =>
        intro hi
        obtain ⟨h1, h2⟩ := ih2 (by omega)
        refine ⟨?_, ?_⟩ <;> simp only [uniD, uniP, h1, h2, hg i (by omega)]
    obtain ⟨h1, h2⟩ := hD (m + 1) (Nat.le_refl _)
    have he : (x :: List.replicate (m + 1) e13)[m + 1]? = some e13 := by simp [List.getElem?_cons_succ, List.getElem?_replicate]
    show max (uniD _ (m + 1)) _ = _ ∧ max (uniP _ (m + 1)) _ = _
    rw [h1, h2, ih.1, ih.2, he]
    simp [e13, Nd.d, Nd.ks]
theorem kk_rep (x : Nd) (m : Nat) : kk (x :: List.replicate m e13) = x.ks := by
  have : ∀ m, kk (List.replicate m e13) = [] := by
    intro m
    induction m with
    | zero => rfl
    | succ m ih => rw [List.replicate_succ]; show Nd.ks e13 ++ kk (List.replicate m e13) = []; rw [ih]; rfl
  show x.ks ++ kk (List.replicate m e13) = x.ks
  rw [this, List.append_nil]
theorem size_rep (x : Nd) (m : Nat) : sizeK (x :: List.replicate m e13) = sizeN x + m := by
  have : ∀ m, sizeK (List.replicate m e13) = m := by
    intro m
    induction m with
    | zero => rfl
    | succ m ih => rw [List.replicate_succ]; show sizeN e13 + sizeK (List.replicate m e13) = m + 1; rw [ih]; show 1 + 0 + 0 + m = m + 1; omega
  show sizeN x + sizeK (List.replicate m e13) = _
  rw [this]
theorem comp_facts {x : Nd} (h1 : validN x = true) (h2 : trimmedN x = true) (hk : x.k = 1) (m : Nat) (hm : m ≤ 8) :
    validN (.mk 2 7 (m + 1 : Nat) [] (x :: List.replicate m e13)) = true ∧ trimmedN (.mk 2 7 (m + 1 : Nat) [] (x :: List.replicate m e13)) = true ∧ canO (.mk 2 7 (m + 1 : Nat) [] (x :: List.replicate m e13)) = 1 + ((m + 1 : Nat) : Int) * canO x ∧
    canN (.mk 2 7 (m + 1 : Nat) [] (x :: List.replicate m e13)) = 1 + ((m + 1 : Nat) : Int) * canO x + canN x - canO x ∧ sizeN (.mk 2 7 (m + 1 : Nat) [] (x :: List.replicate m e13)) = 1 + sizeN x + m := by
  have hl : (x :: List.replicate m e13).length = m + 1 := by simp
  have hO : canO (.mk 2 7 (m + 1 : Nat) [] (x :: List.replicate m e13)) = 1 + ((m + 1 : Nat) : Int) * canO x := by
    obtain ⟨u1, u2⟩ := uni_rep x m
    obtain ⟨k, e, n, d, ks⟩ := x
    simp only [Nd.k] at hk
    subst hk
    simp only [canO, canOf, Nd.k, Nd.e, Nd.n, Nd.d, Nd.ks] at u1 u2 ⊢
    rw [hl, u1, u2]
    simp
  refine ⟨?_, ?_, hO, ?_, ?_⟩
  · simp only [validN, Bool.and_eq_true]
    refine ⟨validK_allD _ (fun y hy => ?_), ?_⟩
    · rcases rep_mem hy with rfl | rfl
      · exact ⟨h1, fun _ _ => hk⟩
      · exact ⟨by decide, fun _ _ => rfl⟩
    · simp only [headB, List.length_nil, hl]
      simp
      omega
  · simp only [trimmedN, Bool.and_eq_true]
    refine ⟨by simp, ?_⟩
    have : ∀ m, trimmedK (List.replicate m e13) = true := by
      intro m
      induction m with
      | zero => rfl
      | succ m ih => rw [List.replicate_succ]; show (trimmedN e13 && _) = true; rw [ih]; decide
    show (trimmedN x && trimmedK (List.replicate m e13)) = true
    rw [h2, this]; rfl
  · rw [canN_eq, hO, targN_mk, if_pos ⟨rfl, rfl⟩, kk_rep, canN_eq x, targ_struct hk]
    omega
  · rw [sizeN_mk, size_rep]
    simp
    omega
theorem ownK_one {W0 : World} {x : Nd} {A : Option Addr} {c : Nat} {B : Option Addr} {c2 : Nat} (h : NdR W0 A c B c2 x) (base : Nat) (q : Nat) (hb : base ≤ W0.heap.size) (hq : q = W0.heap.size) :
    OwnK W0 (W0.alloc (.cells #[.int .i64 x.k, .int .i64 x.e, .int .i64 x.n, .slice A x.d.length c, .slice B x.ks.length c2] 25)) base (.slice (some ⟨q, 0, none⟩) 1 1) (x :: List.replicate 0 e13) := by
  subst hq
  refine ⟨fiveC x A c B c2, ⟨rfl, .inr ⟨W0.heap.size, 1, _, rfl, hb, heap_alloc_new _ _, Nat.le_refl _, by unfold maxLen; omega, rfl, rfl⟩⟩, fun j hj => ?_⟩
  obtain rfl : j = 0 := by simp at hj; omega
  exact ⟨A, c, B, c2, h, fun o ho => by rw [Nat.zero_mul, Nat.zero_add]; rfl⟩
theorem CObject_z (x : Nd) (A : Option Addr) (c : Nat) (B : Option Addr) (c2 : Nat) (l : Nat) (v : Int) (w : World) (hT : TabOK w) (hx : NdR w A c B c2 x) (hs : sizeN x ≤ 1099511627776) (hv : validN x = true) (ht : trimmedN x = true) (h : canO x = v) (hl : x.ks.length = l) :
    Calls Tryd.prog 10 #[.agg #[.int .i64 x.k, .int .i64 x.e, .int .i64 x.n, .slice A x.d.length c, .slice B l c2]] w fun r w' => r = .returned (.int .i64 v) ∧ Below w.heap.size w w' := by
  subst h hl
  exact CObject_any x A c B c2 w hT hx hs hv ht
theorem CNode_z (x : Nd) (A : Option Addr) (c : Nat) (B : Option Addr) (c2 : Nat) (l : Nat) (v : Int) (w : World) (hT : TabOK w) (hx : NdR w A c B c2 x) (hs : sizeN x ≤ 1099511627776) (hv : validN x = true) (ht : trimmedN x = true) (h : canN x = v) (hl : x.ks.length = l) :
    Calls Tryd.prog 12 #[.agg #[.int .i64 x.k, .int .i64 x.e, .int .i64 x.n, .slice A x.d.length c, .slice B l c2]] w fun r w' => r = .returned (.int .i64 v) ∧ Below w.heap.size w w' := by
  subst h hl
  exact CNode_any x A c B c2 w hT hx hs hv ht
attribute [local irreducible] validN fewN trimmedN canN canO rightN sizeN targN canK
set_option maxHeartbeats 4000000 in
set_option maxRecDepth 100000 in
theorem Comp13_walk (x : Nd) (a : Int) (A1 : Option Addr) (c1 : Nat) (B1 : Option Addr) (e1 : Nat) (w : World) (hT : TabOK w) (hx : NdR w A1 c1 B1 e1 x) (hsx : sizeN x ≤ 1048576) (ha0 : 0 ≤ a) (ha1 : a ≤ 255) :
    Calls Tryd.prog 6 #[.agg #[.int .i64 x.k, .int .i64 x.e, .int .i64 x.n, .slice A1 x.d.length c1, .slice B1 x.ks.length e1], .int .u8 a] w fun e w' => e = .returned (.bool true) ∧ Below w.heap.size w w' := by
  have HT := Lib.hid hT
  have Hp := Lib.hid hx
  have HSX : Hid (sizeN x ≤ 1048576) := Lib.hid hsx
  have HSX2 : Hid (sizeN x ≤ 1099511627776) := Lib.hid (by omega)
  obtain ⟨m, hm⟩ := Int.eq_ofNat_of_zero_le (by omega : 0 ≤ a % 9)
  have hm8 : m ≤ 8 := by omega
  have HM := Lib.hid hm
  clear hT hx hsx hm
  go_enter Tryd.func6, Tryd.ntmps6
  go_wp2_with fail
  refine abs_world (F := fun W => NdR W A1 c1 B1 e1 x ∧ Blk W w.heap.size #[.int .i64 x.k, .int .i64 x.e, .int .i64 x.n, .slice A1 x.d.length c1, .slice B1 x.ks.length e1] ∧ Below w.heap.size w W) ⟨?_, ?_, ?_⟩ ?_
  · exact (NdR.on Hp.out ((Below.refl _ _).alloc (Nat.le_refl _) _) (Nat.le_refl _))
  · exact Blk.fresh _ _ _
  · exact ((Below.refl w.heap.size w).alloc (by first | exact Nat.le_refl _ | (simp; done) | (simp; omega)) _)
  clear Hp
  rintro W1 ⟨hp, hl, hb⟩
  have Hp := Lib.hid hp
  have Hl := Lib.hid hl
  have HB := Lib.hid hb
  clear hb hp hl
  refine (awake13_any _ (HT.out.on HB.out)).mono ?_
  rintro r w2 ⟨rfl, hb⟩
  have fp := Hp.out.on hb (Nat.le_refl _)
  have fl := Hl.out.below hb
  have HB0 := Lib.hid (bel_on HB.out hb)
  clear hb Hp Hl HB
  have HB := HB0
  clear HB0
  have Hp := Lib.hid fp
  clear fp
  have Hl := Lib.hid fl
  clear fl
  obtain ⟨xl, yl, zl⟩ := Hl.out
  go_wp2_with fail
  clear xl yl zl
  refine (RefRight13 x A1 c1 B1 e1 _ Hp.out HSX2.out).mono ?_
  rintro r w3 ⟨rfl, hb⟩
  have fp := Hp.out.on hb (Nat.le_refl _)
  have fl := Hl.out.below hb
  have HB0 := Lib.hid (bel_on HB.out hb)
  clear hb Hp Hl HB
  have HB := HB0
  clear HB0
  have Hp := Lib.hid fp
  clear fp
  have Hl := Lib.hid fl
  clear fl
  obtain ⟨xl, yl, zl⟩ := Hl.out
  cases hri : rightN x with
  | false =>
    clear hri
    go_wp2_with fail
    clear xl yl zl
    refine (awake13_any _ (HT.out.on HB.out)).mono ?_
    rintro r w4 ⟨rfl, hb⟩
    have fp := Hp.out.on hb (Nat.le_refl _)
    have fl := Hl.out.below hb
    have HB0 := Lib.hid (bel_on HB.out hb)
    clear hb Hp Hl HB
    have HB := HB0
    clear HB0
    have Hp := Lib.hid fp
    clear fp
    have Hl := Lib.hid fl
    clear fl
    go_wp2
    go_ret
    exact ⟨rfl, HB.out⟩
  | true =>
    by_cases hk : x.k = 1
    rotate_left
    focus
      have t1 : (x.k != 1) = true := by simpa using hk
      clear hri hk
      go_wp2_with fail
      clear xl yl zl
      refine (awake13_any _ (HT.out.on HB.out)).mono ?_
      rintro r w4 ⟨rfl, hb⟩
      have fp := Hp.out.on hb (Nat.le_refl _)
      have fl := Hl.out.below hb
      have HB0 := Lib.hid (bel_on HB.out hb)
      clear hb Hp Hl HB
      have HB := HB0
      clear HB0
      have Hp := Lib.hid fp
      clear fp
      have Hl := Lib.hid fl
      clear fl
      go_wp2
      go_ret
      exact ⟨rfl, HB.out⟩
    have t1 : (x.k != 1) = false := by simpa using hk
    obtain ⟨hfx, hvx, hmx⟩ := right_parts hri
    have HVX := Lib.hid hvx
    have HMX := Lib.hid hmx
    have HZ := Lib.hid (comp_facts hvx hmx hk m hm8)
    have hcx := can_size x hvx
    have hco := (canO_size hvx).1
    have hck : 0 ≤ canK x.ks := canK_pos (fun y hy => valid_kid hvx hk y hy)
    have HCN : Hid (canN x = canO x + canK x.ks) := Lib.hid (by rw [canN_eq, targ_struct hk])
    obtain ⟨o, ho⟩ : ∃ o, canO x = o := ⟨_, rfl⟩
    obtain ⟨s, hs⟩ : ∃ s, canN x = s := ⟨_, rfl⟩
    rw [ho] at hco
    rw [hs] at hcx
    have hos : o ≤ s := by have := HCN.out; rw [hs, ho] at this; omega
    obtain ⟨P, hP⟩ : ∃ P, ((m + 1 : Nat) : Int) * o = P := ⟨_, rfl⟩
    have hP0 : 0 ≤ P ∧ P ≤ 9 * o := by
      rw [← hP]
      exact ⟨Int.mul_nonneg (by omega) hco, Int.mul_le_mul_of_nonneg_right (by omega) hco⟩
    have HO := Lib.hid ho
    have HS := Lib.hid hs
    have HP := Lib.hid hP
    have hb1 : 0 ≤ s ∧ s ≤ 1000000000000 := by have := HSX.out; omega
    have HBD : Hid (0 ≤ s ∧ s ≤ 1000000000000 ∧ 0 ≤ o ∧ o ≤ s ∧ 0 ≤ P ∧ P ≤ 9 * o) := Lib.hid ⟨hb1.1, hb1.2, hco, hos, hP0.1, hP0.2⟩
    have HSZ : Hid (sizeN (.mk 2 7 (m + 1 : Nat) [] (x :: List.replicate m e13)) ≤ 1099511627776) := Lib.hid (by
      have h := HZ.out.2.2.2.2
      have := HSX.out
      omega)
    have HZO : Hid (canO (.mk 2 7 (m + 1 : Nat) [] (x :: List.replicate m e13)) = 1 + P) := Lib.hid (by rw [HZ.out.2.2.1, HO.out, HP.out])
    have HZN : Hid (canN (.mk 2 7 (m + 1 : Nat) [] (x :: List.replicate m e13)) = 1 + P + s - o) := Lib.hid (by rw [HZ.out.2.2.2.1, HO.out, HP.out, HS.out])
    clear hri hfx hvx hmx hk hcx hco hck HCN ho hs hos hP hP0 hb1
    go_wp2_with fail
    clear xl yl zl
    have HX0 := Lib.hid Hp.out
    have HKO : Hid (OwnK w3 (w3.alloc (.cells #[.int .i64 x.k, .int .i64 x.e, .int .i64 x.n, .slice A1 x.d.length c1, .slice B1 x.ks.length e1] 25)) w3.heap.size (.slice (some ⟨w3.heap.size, 0, none⟩) 1 1) (x :: List.replicate 0 e13)) := Lib.hid (ownK_one HX0.out _ _ (Nat.le_refl _) rfl)
    have H0 := Lib.hid (Below.refl w3.heap.size w3)
    have h0 : ∀ o, Below w3.heap.size w3 (w3.alloc o) := fun o => (Below.refl _ _).alloc (Nat.le_refl _) o
    have HA := Lib.hid h0
    clear h0 H0
    go_loopw [5, 6] (fun v i wr => ∃ j : Nat, j ≤ m ∧ i = .int .i64 j ∧ OwnK w3 wr w3.heap.size v (x :: List.replicate j e13) ∧ Below w3.heap.size w3 wr) (fun _ i _ => m - (intOf i).toNat)
    case atStart => exact ⟨0, by omega, rfl, HKO.out, HA.out _⟩
    case round =>
      obtain ⟨j, hj, rfl, how, hbr⟩ := hrel
      have HOW := Lib.hid how
      have HBR := Lib.hid hbr
      clear how hbr
      have hm2 := HM.out
      by_cases hlt : j < m
      · have hlt2 : (j : Int) < a % 9 := by omega
        have hlw := HBR.out.size
        have HBA := Lib.hid (fun o => HBR.out.alloc hlw o)
        go_wp2_with (at_builtin; refine wpList_appK1 (W0 := w3) (base := w3.heap.size) (ts := x :: List.replicate j e13) (y := e13) (A' := none) (c' := 0) (B' := none) (c2' := 0) rfl (.tmp 31) (.tmp 33) 23 rfl Tryd.underlying23 rfl (HOW.out.below ((Below.refl _ _).alloc (Nat.le_refl _) _) (Nat.le_refl _)) rfl (fun o ho => by rw [blk_new]; simp [fiveC, e13, Nd.k, Nd.e, Nd.n, Nd.d, Nd.ks]) (e13_here _) (by simp; omega) (by simp; omega) ?_; intro v2 w2 hown2 hgr2)
        have hrep : (x :: List.replicate j e13) ++ [e13] = x :: List.replicate (j + 1) e13 := by rw [List.cons_append, List.replicate_succ']
        rw [hrep] at hown2
        go_roundw
        case rel => exact ⟨j + 1, by omega, by go_num, hown2, (HBA.out _).grown hgr2 (by simp; omega) (fun g hg => by obtain ⟨vs, hv1, _⟩ := HOW.out; exact (hv1.lt g hg).1)⟩
        case measure => simp [intOf]; omega
      · obtain rfl : j = m := by omega
        have hlt2 : ¬ ((j : Int) < a % 9) := by omega
        obtain ⟨B5, c5, rfl, hks5, hl5, hc5, hn5⟩ := HOW.out.slice (Nat.le_refl _) HBR.out
        have hL : (x :: List.replicate j e13).length = j + 1 := by simp
        have hLz : (Nd.mk 2 7 (j + 1 : Nat) [] (x :: List.replicate j e13)).ks.length = j + 1 := hL
        rw [hL] at hl5
        rw [hL]
        have hz5 : NdR wr none 0 B5 c5 (.mk 2 7 (j + 1 : Nat) [] (x :: List.replicate j e13)) := KsR.node hks5 ⟨by decide, by decide⟩ ⟨by decide, by decide⟩ ⟨by omega, by omega⟩ (Ri.nil _ _ _) (fun z hz => by cases hz) (by decide) (by unfold maxLen; omega) (fun _ => rfl) (by rw [hL]; exact hl5) (by unfold maxLen; omega) hn5
        have Hz := Lib.hid hz5
        have hbr := HBR.out
        have fp := Hp.out.on hbr (Nat.le_refl _)
        have fl := Hl.out.below hbr
        have HBn := Lib.hid (bel_on HB.out hbr)
        clear Hp Hl HB hbr hks5 hn5 hz5 hL HOW HBR
        have Hp := Lib.hid fp
        have Hl := Lib.hid fl
        have HB := HBn
        clear fp fl HBn
        obtain ⟨xl, yl, zl⟩ := Hl.out
        go_wp2_with fail
        refine abs_world (F := fun W => NdR W A1 c1 B1 e1 x ∧ Blk W w.heap.size #[.int .i64 x.k, .int .i64 x.e, .int .i64 x.n, .slice A1 x.d.length c1, .slice B1 x.ks.length e1] ∧ NdR W none 0 B5 c5 (.mk 2 7 (j + 1 : Nat) [] (x :: List.replicate j e13)) ∧ Blk W wr.heap.size #[.int .i64 2, .int .i64 7, .int .i64 ((j + 1 : Nat) : Int), .slice none 0 0, .slice B5 (j + 1) c5] ∧ Below w.heap.size w W) ⟨?_, ?_, ?_, ?_, ?_⟩ ?_
        · exact (NdR.on Hp.out ((Below.refl _ _).alloc (Nat.le_refl _) _) (Nat.le_refl _))
        · exact (Hl.out.alloc _)
        · exact (NdR.on Hz.out ((Below.refl _ _).alloc (Nat.le_refl _) _) (Nat.le_refl _))
        · exact Blk.fresh _ _ _
        · exact (HB.out.alloc (by first | exact Nat.le_refl _ | (have := HB.out.size; simp; omega) | (have := HB.out.size; omega) | (simp; done) | (simp; omega)) _)
        clear Hp Hl Hz HB xl yl zl
        rintro W4 ⟨hp, hl, hz, hi, hb⟩
        have Hp := Lib.hid hp
        have Hl := Lib.hid hl
        have Hz := Lib.hid hz
        have Hi := Lib.hid hi
        have HB := Lib.hid hb
        clear hb hp hl hz hi
        refine (CObject_w x A1 c1 B1 e1 o _ (HT.out.on HB.out) Hp.out HSX2.out HVX.out HMX.out HO.out).mono ?_
        rintro r w5 ⟨rfl, hb⟩
        have fp := Hp.out.on hb (Nat.le_refl _)
        have fl := Hl.out.below hb
        have fz := Hz.out.on hb (Nat.le_refl _)
        have fi := Hi.out.below hb
        have HB0 := Lib.hid (bel_on HB.out hb)
        clear hb Hp Hl Hz Hi HB
        have HB := HB0
        clear HB0
        have Hp := Lib.hid fp
        clear fp
        have Hl := Lib.hid fl
        clear fl
        have Hz := Lib.hid fz
        clear fz
        have Hi := Lib.hid fi
        clear fi
        have hbz : wr.heap.size < w5.heap.size := Hi.out.lt
        obtain ⟨bz, hbze⟩ : ∃ bz, wr.heap.size = bz := ⟨_, rfl⟩
        rw [hbze] at Hi hbz
        rw [hbze]
        clear hbze
        obtain ⟨xl, yl, zl⟩ := Hl.out
        obtain ⟨xi, yi, zi⟩ := Hi.out
        go_wp2_with fail
        clear xl yl zl xi yi zi
        rename_i KK hKK
        refine wp_region_chain (by kernel_rfl) (by kernel_rfl) ?_
        refine chain_val (u := ?_) [7] rfl (by kernel_rfl) trivial (fun ρ wc hbc hcn hk => ?_) ?_; rotate_left
        · obtain ⟨hcn, -⟩ := hcn
          simp at hk
          obtain ⟨xl, yl, zl⟩ := Hl.out.drew.below hbc
          obtain ⟨xi, yi, zi⟩ := Hi.out.drew.below hbc
          go_simp
          rfl
        refine chain_call (T := Is ?_) 10 [41] rfl (by kernel_rfl) trivial (stable_is _) (fun ρ wc hbc hcn hk => ?_) ?_; rotate_left
        · obtain ⟨hcn, hfn⟩ := hcn
          simp at hk
          refine ⟨_, by go_simp; rfl, ?_⟩
          refine (CObject_z (.mk 2 7 (j + 1 : Nat) [] (x :: List.replicate j e13)) none 0 B5 c5 (j + 1) (1 + P) wc (HT.out.on (bel_on (bel_drew HB.out) hbc)) (Hz.out.on (w' := wc) (N := w5.heap.size) ⟨hbc.os, hbc.tape, hbc.output, hbc.size, hbc.block⟩ (Nat.le_refl _)) HSZ.out HZ.out.1 HZ.out.2.1 HZO.out hLz).mono ?_
          rintro e w' ⟨rfl, hbq⟩
          refine ⟨_, rfl, ?_, hbq⟩
          unfold Is
          rfl
        refine chain_val (u := ?_) [5] rfl (by kernel_rfl) trivial (fun ρ wc hbc hcn hk => ?_) ?_; rotate_left
        · obtain ⟨hcn, -⟩ := hcn
          simp at hk
          go_simp
          rfl
        refine chain_val (u := ?_) [43] rfl (by kernel_rfl) trivial (fun ρ wc hbc hcn hk => ?_) ?_; rotate_left
        · obtain ⟨hcn, -⟩ := hcn
          simp at hk
          go_simp
          rfl
        refine chain_val (u := ?_) [8] rfl (by kernel_rfl) trivial (fun ρ wc hbc hcn hk => ?_) ?_; rotate_left
        · obtain ⟨hcn, -⟩ := hcn
          simp at hk
          go_simp
          rfl
        refine chain_val (u := .int .i64 P) [44, 45] rfl (by kernel_rfl) trivial (fun ρ wc hbc hcn hk => ?_) ?_
        · obtain ⟨hcn, -⟩ := hcn
          simp at hk
          have h := HBD.out
          have hp : ((j : Int) + 1) * o = P := by simpa using HP.out
          go_simp
          rw [IntKind.wrap_i64]
          omega
        refine chain_val (u := .int .i64 (1 + P)) [46] rfl (by kernel_rfl) trivial (fun ρ wc hbc hcn hk => ?_) ?_
        · obtain ⟨hcn, -⟩ := hcn
          simp at hk
          have h := HBD.out
          go_simp
          rw [IntKind.wrap_i64]
          omega
        refine chain_val (u := ?_) [42, 47] rfl (by kernel_rfl) trivial (fun ρ wc hbc hcn hk => ?_) ?_; rotate_left
        · obtain ⟨hcn, -⟩ := hcn
          simp at hk
          go_simp
          rfl
        refine chain_val (u := ?_) [48] rfl (by kernel_rfl) trivial (fun ρ wc hbc hcn hk => ?_) ?_; rotate_left
        · obtain ⟨hcn, -⟩ := hcn
          simp at hk
          go_simp
          rfl
        refine chain_val (u := ?_) [7] rfl (by kernel_rfl) ⟨49, by decide +kernel, rfl, fun w x hx => by simpa using hx⟩ (fun ρ wc hbc hcn hk => ?_) ?_; rotate_left
        · obtain ⟨hcn, -⟩ := hcn
          simp at hk
          obtain ⟨xl, yl, zl⟩ := Hl.out.drew.below hbc
          obtain ⟨xi, yi, zi⟩ := Hi.out.drew.below hbc
          go_simp
          rfl
        refine chain_call (T := Is ?_) 12 [50] rfl (by kernel_rfl) ⟨49, by decide +kernel, rfl, fun w x hx => by simpa using hx⟩ (stable_is _) (fun ρ wc hbc hcn hk => ?_) ?_; rotate_left
        · obtain ⟨hcn, hfn⟩ := hcn
          simp at hk
          refine ⟨_, by go_simp; rfl, ?_⟩
          refine (CNode_z (.mk 2 7 (j + 1 : Nat) [] (x :: List.replicate j e13)) none 0 B5 c5 (j + 1) (1 + P + s - o) wc (HT.out.on (bel_on (bel_drew HB.out) hbc)) (Hz.out.on (w' := wc) (N := w5.heap.size) ⟨hbc.os, hbc.tape, hbc.output, hbc.size, hbc.block⟩ (Nat.le_refl _)) HSZ.out HZ.out.1 HZ.out.2.1 HZN.out hLz).mono ?_
          rintro e w' ⟨rfl, hbq⟩
          refine ⟨_, rfl, ?_, hbq⟩
          unfold Is
          rfl
        refine chain_val (u := ?_) [7] rfl (by kernel_rfl) ⟨49, by decide +kernel, rfl, fun w x hx => by simpa using hx⟩ (fun ρ wc hbc hcn hk => ?_) ?_; rotate_left
        · obtain ⟨hcn, -⟩ := hcn
          simp at hk
          obtain ⟨xl, yl, zl⟩ := Hl.out.drew.below hbc
          obtain ⟨xi, yi, zi⟩ := Hi.out.drew.below hbc
          go_simp
          rfl
        refine chain_call (T := Is ?_) 10 [52] rfl (by kernel_rfl) ⟨49, by decide +kernel, rfl, fun w x hx => by simpa using hx⟩ (stable_is _) (fun ρ wc hbc hcn hk => ?_) ?_; rotate_left
        · obtain ⟨hcn, hfn⟩ := hcn
          simp at hk
          refine ⟨_, by go_simp; rfl, ?_⟩
          refine (CObject_z (.mk 2 7 (j + 1 : Nat) [] (x :: List.replicate j e13)) none 0 B5 c5 (j + 1) (1 + P) wc (HT.out.on (bel_on (bel_drew HB.out) hbc)) (Hz.out.on (w' := wc) (N := w5.heap.size) ⟨hbc.os, hbc.tape, hbc.output, hbc.size, hbc.block⟩ (Nat.le_refl _)) HSZ.out HZ.out.1 HZ.out.2.1 HZO.out hLz).mono ?_
          rintro e w' ⟨rfl, hbq⟩
          refine ⟨_, rfl, ?_, hbq⟩
          unfold Is
          rfl
        refine chain_val (u := ?_) [2] rfl (by kernel_rfl) ⟨49, by decide +kernel, rfl, fun w x hx => by simpa using hx⟩ (fun ρ wc hbc hcn hk => ?_) ?_; rotate_left
        · obtain ⟨hcn, -⟩ := hcn
          simp at hk
          obtain ⟨xl, yl, zl⟩ := Hl.out.drew.below hbc
          obtain ⟨xi, yi, zi⟩ := Hi.out.drew.below hbc
          go_simp
          rfl
        refine chain_call (T := Is ?_) 12 [54] rfl (by kernel_rfl) ⟨49, by decide +kernel, rfl, fun w x hx => by simpa using hx⟩ (stable_is _) (fun ρ wc hbc hcn hk => ?_) ?_; rotate_left
        · obtain ⟨hcn, hfn⟩ := hcn
          simp at hk
          refine ⟨_, by go_simp; rfl, ?_⟩
          refine (CNode_w x A1 c1 B1 e1 s wc (HT.out.on (bel_on (bel_drew HB.out) hbc)) (Hp.out.on (w' := wc) (N := w5.heap.size) ⟨hbc.os, hbc.tape, hbc.output, hbc.size, hbc.block⟩ (Nat.le_refl _)) HSX2.out HVX.out HMX.out HS.out).mono ?_
          rintro e w' ⟨rfl, hbq⟩
          refine ⟨_, rfl, ?_, hbq⟩
          unfold Is
          rfl
        refine chain_val (u := .int .i64 (1 + P + s)) [53, 55] rfl (by kernel_rfl) ⟨49, by decide +kernel, rfl, fun w x hx => by simpa using hx⟩ (fun ρ wc hbc hcn hk => ?_) ?_
        · obtain ⟨hcn, -⟩ := hcn
          simp at hk
          have h := HBD.out
          go_simp
          rw [IntKind.wrap_i64]
          omega
        refine chain_val (u := ?_) [8] rfl (by kernel_rfl) ⟨49, by decide +kernel, rfl, fun w x hx => by simpa using hx⟩ (fun ρ wc hbc hcn hk => ?_) ?_; rotate_left
        · obtain ⟨hcn, -⟩ := hcn
          simp at hk
          go_simp
          rfl
        refine chain_val (u := .int .i64 (1 + P + s - o)) [56, 57] rfl (by kernel_rfl) ⟨49, by decide +kernel, rfl, fun w x hx => by simpa using hx⟩ (fun ρ wc hbc hcn hk => ?_) ?_
        · obtain ⟨hcn, -⟩ := hcn
          simp at hk
          have h := HBD.out
          go_simp
          rw [IntKind.wrap_i64]
          omega
        refine chain_val (u := ?_) [51, 58] rfl (by kernel_rfl) ⟨49, by decide +kernel, rfl, fun w x hx => by simpa using hx⟩ (fun ρ wc hbc hcn hk => ?_) ?_; rotate_left
        · obtain ⟨hcn, -⟩ := hcn
          simp at hk
          go_simp
          rfl
        refine chain_val (u := ?_) [49, 59] rfl (by kernel_rfl) trivial (fun ρ wc hbc hcn hk => ?_) ?_; rotate_left
        · obtain ⟨hcn, -⟩ := hcn
          simp at hk
          go_simp
          rfl
        refine chain_val (u := ?_) [60] rfl (by kernel_rfl) trivial (fun ρ wc hbc hcn hk => ?_) ?_; rotate_left
        · obtain ⟨hcn, -⟩ := hcn
          simp at hk
          go_simp
          rfl
        refine chain_end_lit 61 rfl (fun ff w7 hb7 hk => ?_)
        refine hKK _ _ ?_
        simp [AllN] at hk
        simp only [frameL, hk, Nat.zero_add, Nat.reduceAdd]
        have hb7' : Below w5.heap.size w5 w7 := ⟨hb7.os, hb7.tape, hb7.output, hb7.size, hb7.block⟩
        have HB7 := Lib.hid (bel_on HB.out hb7')
        clear hb7 hk hb7'
        go_wp2
        go_ret
        exact ⟨rfl, HB7.out⟩
end Go.Proofs.YtcmljjhnfpfcfaaDoor
