/- The texts Can2, OpenN (what is wanted of them), one after the other. -/
import Derived.Test.YtcmljjhnfpfcfaaDoorMg1
import Derived.Test.YtcmljjhnfpfcfaaDoorMg2
import Derived.Test.YtcmljjhnfpfcfaaDoorMg3
import Derived.Test.YtcmljjhnfpfcfaaDoorMg4
import Derived.Test.YtcmljjhnfpfcfaaDoorMg5
import Derived.Test.YtcmljjhnfpfcfaaDoorMg6
import Derived.Test.YtcmljjhnfpfcfaaDoorMg7
import Derived.Test.YtcmljjhnfpfcfaaDoorMg8
import Derived.Test.YtcmljjhnfpfcfaaDoorMg9
import Derived.Test.YtcmljjhnfpfcfaaDoorMg10
import Derived.Test.YtcmljjhnfpfcfaaDoorMg11
import Derived.Test.YtcmljjhnfpfcfaaDoorMg13
import Derived.Test.YtcmljjhnfpfcfaaDoorMg14
import Derived.Test.YtcmljjhnfpfcfaaDoorMg17
import Derived.Test.YtcmljjhnfpfcfaaDoorMg18
import Derived.Test.YtcmljjhnfpfcfaaDoorMg19
import Derived.Test.YtcmljjhnfpfcfaaDoorMg20
import Derived.Test.YtcmljjhnfpfcfaaDoorMg21
import Derived.Test.YtcmljjhnfpfcfaaDoorMg22
import Derived.Test.YtcmljjhnfpfcfaaDoorMg23
import Derived.Test.YtcmljjhnfpfcfaaDoorMg24
import Derived.Test.YtcmljjhnfpfcfaaDoorMg25
import Derived.Test.YtcmljjhnfpfcfaaDoorMg26
import Derived.Test.YtcmljjhnfpfcfaaDoorMg27
import Derived.Test.YtcmljjhnfpfcfaaDoorMg28
import Derived.Test.YtcmljjhnfpfcfaaDoorMg29
import Derived.Test.YtcmljjhnfpfcfaaDoorMg30
/- The canonical size of a denotation is at most its cost. -/
namespace Go.Proofs.YtcmljjhnfpfcfaaDoor
open Go.ChangeShapes Go.WideShapes Go.ChangeAt Go.RowKit
set_option linter.unusedVariables false
set_option linter.unusedSimpArgs false
set_option maxRecDepth 100000

def sumI (G : Nd → Int) : List Nd → Int
  | [] => 0
  | x :: xs => G x + sumI G xs
theorem sumI_append (G : Nd → Int) (a b : List Nd) : sumI G (a ++ b) = sumI G a + sumI G b := by
  induction a with
  | nil => simp [sumI]
  | cons x xs ih => simp only [List.cons_append, sumI, ih]; omega
theorem sumI_nonneg {G : Nd → Int} : ∀ l : List Nd, (∀ y ∈ l, 0 ≤ G y) → 0 ≤ sumI G l
  | [], _ => Int.le_refl _
  | x :: xs, h => by
    have h1 := h x (List.mem_cons_self ..)
    have h2 := sumI_nonneg xs fun y hy => h y (List.mem_cons_of_mem _ hy)
    show 0 ≤ G x + sumI G xs
    omega
theorem canK_sum (l : List Nd) : canK l = sumI canN l := by
  induction l with
  | nil => simp [canK, sumI]
  | cons x xs ih => simp only [canK, sumI, ih]
theorem canG_sum (l : List Nd) : canG l = sumI (fun y => canK y.ks) l := by
  induction l with
  | nil => simp [canG, sumI]
  | cons x xs ih =>
    obtain ⟨k, e, n, d, ks⟩ := x
    simp only [canG, sumI, ih, Nd.ks]
theorem sumI_map (G : Nd → Int) (t : Nd → Nd) (l : List Nd) : sumI G (l.map t) = sumI (fun y => G (t y)) l := by
  induction l with
  | nil => simp [sumI]
  | cons x xs ih => simp only [List.map_cons, sumI, ih]
/-- what a well-formed node of kind 2 is like -/
theorem valid_list {k e n : Int} {d : List Int} {ks : List Nd} (h : validN (.mk k e n d ks) = true) (hk : k = 2) : 0 ≤ n ∧ n ≤ 536870911 ∧ 0 ≤ e ∧ e ≤ 7 := by
  subst hk
  simp only [validN, Bool.and_eq_true] at h
  have h2 := h.2
  unfold headB at h2
  rw [if_neg (by omega), if_neg (by omega), if_pos rfl, decide_eq_true_iff] at h2
  omega
theorem canO_nonneg {x : Nd} (h : validN x = true) : 0 ≤ canO x := by
  obtain ⟨k, e, n, d, ks⟩ := x
  show 0 ≤ canOf k e n d ks
  unfold canOf
  by_cases h0 : k = 0
  · rw [if_pos h0]
    exact Int.le_refl _
  rw [if_neg h0]
  by_cases h1 : k = 1
  · rw [if_pos h1]
    omega
  rw [if_neg h1]
  have h2 := valid_k h
  simp only [Nd.k] at h2
  obtain ⟨a1, a2, a3, a4⟩ := valid_list h (by omega)
  by_cases h7 : e = 7
  · rw [if_pos h7]
    have : 0 ≤ n * ((uniD ks ks.length + uniP ks ks.length : Nat) : Int) := Int.mul_nonneg a1 (by omega)
    omega
  · rw [if_neg h7]
    have := bitsI_mul e n a1
    unfold wordsI
    split <;> omega
theorem can_nonneg : ∀ x : Nd, validN x = true → 0 ≤ canN x ∧ 0 ≤ canK x.ks := Nd.ind (by
  intro k e n d ks ih h
  have hv := (valid_kids11 h).1
  have h1 : 0 ≤ canK ks := by rw [canK_sum]; exact sumI_nonneg _ fun y hy => (ih y hy (hv y hy)).1
  have h2 : 0 ≤ canG ks := by rw [canG_sum]; exact sumI_nonneg _ fun y hy => (ih y hy (hv y hy)).2
  have h3 := canO_nonneg h
  refine ⟨?_, h1⟩
  simp only [canN]
  have h4 : canOf k e n d ks = canO (.mk k e n d ks) := rfl
  rw [h4]
  split <;> omega)
theorem canK_take_le (l : List Nd) (j : Nat) (h : ∀ y ∈ l, validN y = true) : canK (l.take j) ≤ canK l := by
  have h1 : canK l = canK (l.take j) + canK (l.drop j) := by rw [← canK_append, List.take_append_drop]
  have h2 : 0 ≤ canK (l.drop j) := by rw [canK_sum]; exact sumI_nonneg _ fun y hy => (can_nonneg y (h y (List.mem_of_mem_drop hy))).1
  omega
/-- a trimmed struct: its words and pointers, and what its pointers refer to -/
theorem can_struct {d : List Int} {ks : List Nd} (h : validN (.mk 1 0 0 d ks) = true) : canN (trimN (.mk 1 0 0 d ks)) ≤ (d.length / 8 + ks.length : Nat) + canK (trimK ks) ∧ (trimN (.mk 1 0 0 d ks)).d.length / 8 ≤ d.length / 8 ∧ (trimN (.mk 1 0 0 d ks)).ks.length ≤ ks.length ∧ canK (trimN (.mk 1 0 0 d ks)).ks ≤ canK (trimK ks) := by
  have hv := valid_kids11 h
  have h8 := hv.2 rfl
  have hw := wordsT_le d h8
  have hp := ptrsT_le ks
  have hvt : ∀ y ∈ trimK ks, validN y = true := by
    intro y hy
    rw [trimK_map] at hy
    obtain ⟨z, hz, rfl⟩ := List.mem_map.1 hy
    exact valid_trim z (hv.1 z hz)
  have ht : canK ((trimK ks).take (ptrsT ks)) ≤ canK (trimK ks) := canK_take_le _ _ hvt
  have e1 : (d.take (8 * wordsT d)).length = 8 * wordsT d := by rw [List.length_take]; omega
  have e2 : ((trimK ks).take (ptrsT ks)).length = ptrsT ks := by rw [List.length_take, trimK_length]; omega
  refine ⟨?_, ?_, ?_, ?_⟩
  · simp only [trimN, if_pos, canN]
    rw [if_neg (by omega)]
    unfold canOf
    rw [if_neg (by omega), if_pos rfl, e1, e2]
    omega
  · simp only [trimN, if_pos, Nd.d]
    rw [e1]
    omega
  · simp only [trimN, if_pos, Nd.ks]
    rw [e2]
    exact hp
  · simp only [trimN, if_pos, Nd.ks]
    exact ht
/-- the sum over a row of values is at most what they cost -/
theorem runK_can {f : Int → Nat → Val} {m : Int} (G : Nd → Int) : ∀ n, (∀ m i, i < n → (f m i).e = 0 → G (f m i).n ≤ m - (f m i).m) → (runK f m n).e = 0 → sumI G (runK f m n).ks ≤ m - (runK f m n).m
  | 0, _, _ => by simp [runK, sumI]
  | n + 1, h, he => by
    obtain ⟨e1, e2⟩ := runK_succ0 he
    have ih := runK_can G n (fun m i hi => h m i (by omega)) e1
    have h1 := h (runK f m n).m n (by omega) e2
    rw [runK_ok e1 e2]
    simp only
    rw [sumI_append]
    simp only [sumI]
    omega
theorem structV_can {ls : List (List Int)} {val : Int → Int → Int → Val} (hv : ∀ m s a, validN (val m s a).n = true) (hc : ∀ m s a, (val m s a).e = 0 → canN (trimN (val m s a).n) ≤ m - (val m s a).m) (m : Int) (o : Ob) (h1 : 0 ≤ o.d) (h2 : o.d ≤ 65535) (h3 : 0 ≤ o.p) (h4 : o.p ≤ 65535) (he : (structV val ls m o).e = 0) :
    canN (trimN (structV val ls m o).n) ≤ o.d + o.p + (m - (structV val ls m o).m) ∧ ((trimN (structV val ls m o).n).d.length / 8 : Nat) ≤ o.d ∧ (trimN (structV val ls m o).n).ks.length ≤ o.p ∧ canK (trimN (structV val ls m o).n).ks ≤ m - (structV val ls m o).m := by
  have hval := (structV_valid hv ls m o h1 h2 h3 h4).1
  unfold structV at he hval ⊢
  by_cases h : (runK (fun m i => val m o.sg (o.at' + o.d + i)) m o.p.toNat).e = 0
  · rw [if_neg (fun h' => h' h)] at hval ⊢
    have hr := runK_can (fun y => canN (trimN y)) (f := fun m i => val m o.sg (o.at' + o.d + i)) (m := m) o.p.toNat (fun m i _ he => hc m _ _ he) h
    have hs := can_struct hval
    have hl := runK_length h
    have hdl := datW_le ls o.sg o.at' o.d
    have e1 : canK (trimK (runK (fun m i => val m o.sg (o.at' + o.d + i)) m o.p.toNat).ks) = sumI (fun y => canN (trimN y)) (runK (fun m i => val m o.sg (o.at' + o.d + i)) m o.p.toNat).ks := by rw [canK_sum, trimK_map, sumI_map]
    have e2 : (bytesOf (datW ls o.sg o.at' o.d)).length = 8 * (datW ls o.sg o.at' o.d).length := bytesOf_length _
    rw [e1, hl, e2] at hs
    simp only
    omega
  · rw [if_pos h] at he
    exact absurd he h
theorem listV_can {ls : List (List Int)} {val : Int → Int → Int → Val} (hv : ∀ m s a, validN (val m s a).n = true) (hc : ∀ m s a, (val m s a).e = 0 → canN (trimN (val m s a).n) ≤ m - (val m s a).m) (m : Int) (o : Ob) (h1 : 0 ≤ o.d) (h2 : o.d ≤ 65535) (h3 : 0 ≤ o.p) (h4 : o.p ≤ 65535) (h5 : 0 ≤ o.n) (h6 : 6 ≤ o.el) (h7 : o.el ≤ 7) (he : (listV val ls m o).e = 0) :
    canN (trimN (listV val ls m o).n) ≤ (if o.el = 6 then o.n else 1 + o.n * (o.d + o.p)) + (m - (listV val ls m o).m) := by
  unfold listV at he ⊢
  by_cases h : (runK (elemV val ls o) m o.n.toNat).e = 0
  · rw [if_neg (fun h' => h' h)]
    by_cases h66 : o.el = 6
    · rw [if_pos h66]
      have hr := runK_can (fun y => canN (trimN y)) (f := elemV val ls o) (m := m) o.n.toNat (fun m i _ he => by
        unfold elemV at he ⊢
        rw [if_pos h66] at he ⊢
        exact hc m _ _ he) h
      simp only [trimN, canN]
      rw [if_neg (by omega), if_neg (by omega), if_neg (by omega)]
      unfold canOf
      rw [if_neg (by omega), if_neg (by omega), if_neg (by omega), canK_sum, trimK_map, sumI_map, h66]
      have e3 : wordsI 6 o.n = o.n := by unfold wordsI bitsI; simp; omega
      omega
    · have h77 : o.el = 7 := by omega
      rw [if_neg h66]
      have hk : ∀ y ∈ (runK (elemV val ls o) m o.n.toNat).ks, ((trimN y).d.length / 8 : Nat) ≤ o.d ∧ (trimN y).ks.length ≤ o.p := runK_all (fun y => (((trimN y).d.length / 8 : Nat) : Int) ≤ o.d ∧ ((trimN y).ks.length : Int) ≤ o.p) _ (fun m i _ he => by
        unfold elemV at he ⊢
        rw [if_neg h66] at he ⊢
        have := structV_can hv hc m (eleO o i) h1 h2 h3 h4 he
        exact ⟨this.2.1, this.2.2.1⟩)
      have hr := runK_can (fun y => canK (trimN y).ks) (f := elemV val ls o) (m := m) o.n.toNat (fun m i _ he => by
        unfold elemV at he ⊢
        rw [if_neg h66] at he ⊢
        exact (structV_can hv hc m (eleO o i) h1 h2 h3 h4 he).2.2.2) h
      have hl := runK_length h
      generalize (runK (elemV val ls o) m o.n.toNat).ks = ks at *
      have hkt : ∀ y ∈ trimK ks, y.d.length / 8 ≤ o.d.toNat ∧ y.ks.length ≤ o.p.toNat := by
        intro y hy
        rw [trimK_map] at hy
        obtain ⟨z, hz, rfl⟩ := List.mem_map.1 hy
        have := hk z hz
        omega
      have hu := uniD_le (trimK ks) o.d.toNat (trimK ks).length (Nat.le_refl _) (fun y hy => (hkt y hy).1)
      have hp := uniP_le (trimK ks) o.p.toNat (trimK ks).length (Nat.le_refl _) (fun y hy => (hkt y hy).2)
      simp only [trimN, canN]
      rw [if_neg (by omega), if_neg (by omega), if_pos ⟨trivial, h77⟩]
      unfold canOf
      rw [if_neg (by omega), if_neg (by omega), if_pos h77, canG_sum, trimK_map, sumI_map]
      rw [trimK_map] at hu hp
      have hmul : o.n * ((uniD (ks.map trimN) (ks.map trimN).length + uniP (ks.map trimN) (ks.map trimN).length : Nat) : Int) ≤ o.n * (o.d + o.p) := Int.mul_le_mul_of_nonneg_left (by omega) h5
      omega
  · rw [if_pos h] at he
    exact absurd he h
/-- what a resolved object costs -/
theorem objF_cost {ls : List (List Int)} (hw : Wd2 ls) (hm : ls.length ≤ 40) (hf : ∀ j, (seg ls j).length ≤ 20000000) (s a : Int) (q : Ob × Int) (hq : objF ls s a = q) (h1 : ¬ q.2 ≠ 0) (h0 : q.1 ≠ ob0) :
    (q.1.k = 1 → q.1.d + q.1.p = q.1.cost) ∧ (¬ q.1.k = 1 → q.1.el < 7 → q.1.cost = wordsI q.1.el q.1.n) ∧ (¬ q.1.k = 1 → q.1.el = 7 → 1 + q.1.n * (q.1.d + q.1.p) ≤ q.1.cost) := by
  have h := objF_cases hw (by omega) (fun j => by have := hf j; omega) s a
  rw [hq] at h
  obtain ⟨⟨k, sg, at', d, p, el, n, cost⟩, e⟩ := q
  simp only [ob0, Ob.mk.injEq, ne_eq] at h h1 h0 ⊢
  rcases h with ⟨h2, h4⟩ | ⟨-, rfl, rfl, rfl, h5, h6, h7, h8, rfl, h9⟩ | ⟨-, rfl, h4, h5, h6, h7, rfl, rfl, rfl, h8⟩ | ⟨-, rfl, rfl, h4, h5, h6, h7, h8, h9, c, h10, h11, h12, h13, rfl⟩
  · exact absurd h2 h0
  · exact ⟨fun _ => rfl, fun h => absurd rfl h, fun h => absurd rfl h⟩
  · exact ⟨fun h => by omega, fun _ _ => rfl, fun _ h => by omega⟩
  · exact ⟨fun h => by omega, fun _ h => by omega, fun _ _ => by split <;> omega⟩
theorem can_nd0 : canN (trimN nd0) = 0 := by decide
theorem valV_can {ls : List (List Int)} (hw : Wd2 ls) (hm : ls.length ≤ 40) (hf : ∀ j, (seg ls j).length ≤ 20000000) : ∀ r m s a, (valV ls r m s a).e = 0 → canN (trimN (valV ls r m s a).n) ≤ m - (valV ls r m s a).m
  | 0, m, s, a, he => by
    unfold valV at he ⊢
    by_cases hn : (followF ls s a).e ≠ 0 ∨ (followF ls s a).w = 0
    · rw [if_pos hn]
      show canN (trimN nd0) ≤ m - m
      rw [can_nd0]
      omega
    · rw [if_neg hn] at he
      exact absurd he (by simp [errV])
  | r + 1, m, s, a, he => by
    have ih := fun m s a he => valV_can hw hm hf r m s a he
    have hv := fun m s a => valV_valid hw hm hf r m s a
    have hb := objF_num hw hm hf s a rfl
    unfold valV at he ⊢
    by_cases hn : (followF ls s a).e ≠ 0 ∨ (followF ls s a).w = 0
    · rw [if_pos hn]
      show canN (trimN nd0) ≤ m - m
      rw [can_nd0]
      omega
    · rw [if_neg hn] at he
      rw [if_neg hn]
      have hco := objF_cost hw hm hf s a _ rfl
      unfold bodyV at he ⊢
      generalize objF ls s a = q at *
      by_cases h1 : q.2 ≠ 0
      · rw [if_pos h1] at he
        exact absurd he h1
      rw [if_neg h1] at he
      rw [if_neg h1]
      by_cases h2 : m < q.1.cost
      · rw [if_pos h2] at he
        exact absurd he (by simp [errV])
      rw [if_neg h2] at he
      rw [if_neg h2]
      by_cases hz : q.1 = ob0
      · rw [hz]
        rw [if_neg (by simp [ob0]), if_pos (by simp [ob0])]
        show canN (trimN (.mk 2 0 0 (trimL (bytesOf (datW ls 0 0 0)) 0 0) [])) ≤ m - (m - 0)
        simp only [trimN, canN]
        rw [if_neg (by omega), if_neg (by omega), if_neg (by omega)]
        simp only [trimK, canK]
        unfold canOf
        rw [if_neg (by omega), if_neg (by omega), if_neg (by omega)]
        simp [wordsI, bitsI]
      obtain ⟨c1, c2, c3⟩ := hco h1 hz
      by_cases h3 : q.1.k = 1
      · rw [if_pos h3] at he
        rw [if_pos h3]
        have := (structV_can hv ih (m - q.1.cost) q.1 (by omega) (by omega) (by omega) (by omega) he).1
        have := c1 h3
        omega
      rw [if_neg h3] at he
      rw [if_neg h3]
      by_cases h4 : q.1.el < 6
      · rw [if_pos h4]
        have hc2 := c2 h3 (by omega)
        simp only [trimN, canN]
        rw [if_neg (by omega), if_neg (by omega), if_neg (by omega)]
        simp only [trimK, canK]
        unfold canOf
        rw [if_neg (by omega), if_neg (by omega), if_neg (by omega)]
        omega
      · rw [if_neg h4] at he
        rw [if_neg h4]
        have hl := listV_can hv ih (m - q.1.cost) q.1 (by omega) (by omega) (by omega) (by omega) (by omega) (by omega) (by omega) he
        by_cases h66 : q.1.el = 6
        · rw [if_pos h66] at hl
          have hc2 := c2 h3 (by omega)
          rw [h66] at hc2
          have e3 : wordsI 6 q.1.n = q.1.n := by unfold wordsI bitsI; simp; omega
          omega
        · rw [if_neg h66] at hl
          have hc3 := c3 h3 (by omega)
          omega
/-- the canonical size of a denotation -/
theorem msg_can {ls : List (List Int)} (hw : Wd2 ls) (hm : ls.length ≤ 40) (hf : ∀ j, (seg ls j).length ≤ 20000000) (D X : Int) (he : (msgV ls D X).2 = 0) : canN (msgV ls D X).1 ≤ (measV ls D X).1 := by
  have h0 : canN nd0 = 0 := by decide
  unfold msgV at he ⊢
  unfold measV
  by_cases h1 : 0 < ls.length ∧ (seg ls 0).length = 0
  · rw [if_pos h1, if_pos h1]
    show canN nd0 ≤ 0
    omega
  · rw [if_neg h1] at he
    rw [if_neg h1, if_neg h1]
    by_cases h2 : (valV ls D.toNat (startI X) 0 0).e ≠ 0
    · rw [if_pos h2] at he; exact absurd he h2
    · rw [if_neg h2, if_neg h2]
      exact valV_can hw hm hf _ _ _ _ (Classical.byContradiction h2)
end Go.Proofs.YtcmljjhnfpfcfaaDoor

/- How a node that came in is opened. -/
namespace Go.Proofs.YtcmljjhnfpfcfaaDoor
open Go.ChangeShapes Go.WideShapes Go.ChangeAt Go.RowKit
set_option linter.unusedVariables false
set_option linter.unusedSimpArgs false
set_option maxRecDepth 100000

theorem bulk_one {H : Type} (d : DataW H) : 1 ≤ Rows.uptoBulk d := by
  cases d with
  | lit l => cases l <;> simp [Rows.uptoBulk]
  | nil => simp [Rows.uptoBulk]
  | ptr d => simp [Rows.uptoBulk]
  | slice elems spare => simp [Rows.uptoBulk]
  | agg parts => simp [Rows.uptoBulk]
  | iface t d => simp [Rows.uptoBulk]
  | map entries => simp [Rows.uptoBulk]
  | held h => simp [Rows.uptoBulk]
theorem bulk_len {H : Type} (l : List (DataW H)) : l.length ≤ Rows.uptoBulkAll l := by
  induction l with
  | nil => simp [Rows.uptoBulkAll]
  | cons x r ih => have := bulk_one x; simp only [Rows.uptoBulkAll, List.length_cons]; omega

/-- nodes and their readings, one by one -/
theorem bulk_nodes {H : Type} : ∀ (l : List (DataW H)) (ks : List Nd), l.length = ks.length → (∀ j (h1 : j < l.length) (h2 : j < ks.length), sizeN ks[j] ≤ Rows.uptoBulk l[j]) → sizeK ks ≤ Rows.uptoBulkAll l
  | [], [], _, _ => by simp [sizeK, Rows.uptoBulkAll]
  | [], y :: ys, h, _ => by simp at h
  | x :: xs, [], h, _ => by simp at h
  | x :: xs, y :: ys, h, hh => by
    have h0 := hh 0 (by simp) (by simp)
    have h1 := bulk_nodes xs ys (by simpa using h) (fun j a b => by
      have := hh (j + 1) (by simp; omega) (by simp; omega)
      simpa using this)
    simp only [List.getElem_cons_zero] at h0
    simp only [sizeK, Rows.uptoBulkAll]
    omega

theorem node_cells : Tryd.prog.cellsOf 25 = 5 := by kernel_rfl
theorem list5 {α : Type} {l : List α} (h : l.length = 5) : ∃ a b c d e, l = [a, b, c, d, e] := by
  match l, h with
  | [a, b, c, d, e], _ => exact ⟨a, b, c, d, e, rfl⟩

theorem open_node {H : Type} {enc : TypeId × Value → H} {w : World} {base : Nat} {held : Bool} : ∀ (fuel : Nat) (cs : List Value) (x : DataW H × List MemPlace),
    DataW.trod enc Tryd.prog w base (fun _ => true) held fuel 25 cs = some x → ∃ A c B c2 nd, cs = fiveC nd A c B c2 ∧ NdR w A c B c2 nd ∧ sizeN nd ≤ Rows.uptoBulk x.1 := by
  intro fuel
  induction fuel using Nat.strongRecOn with
  | _ fuel ih =>
    intro cs x h
    obtain ⟨xs, n, rfl, rfl, hlen, hxl, hg⟩ := DataW.trod_struct Tryd.underlying25 h
    rw [node_cells] at hlen
    obtain ⟨v0, v1, v2, v3, v4, rfl⟩ := list5 hlen
    obtain ⟨x0, x1, x2, x3, x4, rfl⟩ := list5 (l := xs) hxl
    have c0 : Tryd.prog.cellsOf 3 = 1 := by kernel_rfl
    have c3 : Tryd.prog.cellsOf 22 = 1 := by kernel_rfl
    have c4 : Tryd.prog.cellsOf 23 = 1 := by kernel_rfl
    have g0 : DataW.trod enc Tryd.prog w base (fun _ => true) held n 3 [v0] = some x0 := by have := hg 0 _ rfl; simpa [c0] using this
    have g1 : DataW.trod enc Tryd.prog w base (fun _ => true) held n 3 [v1] = some x1 := by have := hg 1 _ rfl; simpa [c0] using this
    have g2 : DataW.trod enc Tryd.prog w base (fun _ => true) held n 3 [v2] = some x2 := by have := hg 2 _ rfl; simpa [c0] using this
    have g3 : DataW.trod enc Tryd.prog w base (fun _ => true) held n 22 [v3] = some x3 := by have := hg 3 _ rfl; simpa [c3] using this
    have g4 : DataW.trod enc Tryd.prog w base (fun _ => true) held n 23 [v4] = some x4 := by have := hg 4 _ rfl; simpa [c4] using this
    clear hg h hlen hxl
    obtain ⟨k, hk, rfl, wk⟩ := DataW.trod_int Tryd.underlying3 g0
    obtain ⟨e, he, rfl, we⟩ := DataW.trod_int Tryd.underlying3 g1
    obtain ⟨m, hm, rfl, wm⟩ := DataW.trod_int Tryd.underlying3 g2
    obtain rfl : v0 = .int .i64 k := by simpa using hk
    obtain rfl : v1 = .int .i64 e := by simpa using he
    obtain rfl : v2 = .int .i64 m := by simpa using hm
    have wk := of_wf_i64 wk
    have we := of_wf_i64 we
    have wm := of_wf_i64 wm
    clear g0 g1 g2 hk he hm
    -- the data
    have hdata : ∃ A len c d, v3 = .slice A len c ∧ Row .u8 w A len c d ∧ d.length + 1 ≤ Rows.uptoBulk x3.1 := by
      rcases open_ints Tryd.underlying22 Tryd.underlying5 (by kernel_rfl) g3 with ⟨hcs, rfl⟩ | ⟨a, len, cap, zs, hcs, hb, hl, hcm, hz, rfl, hcell, hwz⟩
      · exact ⟨none, 0, 0, [], by simpa using hcs, Row.none, by simp [Rows.uptoBulk]⟩
      · rw [if_pos rfl] at hz
        exact ⟨some a, len, cap, zs.take len, by simpa using hcs, Row.some hl hcm hz hcell hwz, by
          have h1 := bulk_len (lits (H := H) IntKind.u8 (zs.take len))
          have h2 : (lits (H := H) IntKind.u8 (zs.take len)).length = (zs.take len).length := by simp [lits]
          simp only [Rows.uptoBulk]
          omega⟩
    obtain ⟨A, len, c, d, rfl, hrow, hbd⟩ := hdata
    obtain rfl := hrow.len_eq
    -- the kids
    have hkids : ∃ (B : Option Addr) (c2 : Nat) (ks : List Nd) (FA : Nat → Option Addr) (Fc : Nat → Nat) (FB : Nat → Option Addr) (Fc2 : Nat → Nat), v4 = .slice B ks.length c2 ∧ ks.length ≤ c2 ∧ c2 ≤ maxLen ∧ (B = none → c2 = 0) ∧ sizeK ks + 1 ≤ Rows.uptoBulk x4.1 ∧
        (ks = [] ∨ ∃ b off, B = some ⟨b, off, none⟩ ∧ ∀ j x, ks[j]? = some x → w.cell? ⟨b, off + j * 5, none⟩ = some (.int .i64 x.k) ∧ w.cell? ⟨b, off + j * 5 + 1, none⟩ = some (.int .i64 x.e) ∧ w.cell? ⟨b, off + j * 5 + 2, none⟩ = some (.int .i64 x.n) ∧
          w.cell? ⟨b, off + j * 5 + 3, none⟩ = some (.slice (FA j) x.d.length (Fc j)) ∧ w.cell? ⟨b, off + j * 5 + 4, none⟩ = some (.slice (FB j) x.ks.length (Fc2 j))) ∧
        (∀ j x, ks[j]? = some x → NdR w (FA j) (Fc j) (FB j) (Fc2 j) x) := by
      rcases DataW.trod_slice Tryd.underlying23 g4 with ⟨hcs, rfl⟩ | ⟨a, len, cap, elems, rest, n', rfl, hcs, rfl, hb, hl, hcm, hlen, hel, _, _⟩
      · exact ⟨none, 0, [], fun _ => none, fun _ => 0, fun _ => none, fun _ => 0, by simpa using hcs, by simp, by simp, fun _ => rfl, by simp [Rows.uptoBulk, sizeK], .inl rfl, fun j x hx => by simp at hx⟩
      · rw [node_cells] at hel
        have hall : ∀ i, ∃ (g : Option Addr × Nat × Option Addr × Nat × Nd), ∀ h : i < elems.length, (∀ o, o < 5 → w.cell? ((a.add (i * 5)).add o) = (fiveC g.2.2.2.2 g.1 g.2.1 g.2.2.1 g.2.2.2.1)[o]?) ∧ NdR w g.1 g.2.1 g.2.2.1 g.2.2.2.1 g.2.2.2.2 ∧ sizeN g.2.2.2.2 ≤ Rows.uptoBulk (elems[i]).1 := by
          intro i
          by_cases hi : i < elems.length
          · have h1 := hel i (by omega)
            rw [List.getElem?_eq_getElem hi, Option.bind_eq_some_iff] at h1
            obtain ⟨csi, h2, h3⟩ := h1
            obtain ⟨A', c', B', c2', nd, rfl, hnd, hsz⟩ := ih n' (by omega) csi _ h3
            obtain ⟨_, _, h4⟩ := World.cells?_some h2
            exact ⟨(A', c', B', c2', nd), fun _ => ⟨h4, hnd, hsz⟩⟩
          · exact ⟨(none, 0, none, 0, nd0), fun h => absurd h hi⟩
        obtain ⟨G, hG⟩ : ∃ G : Nat → Option Addr × Nat × Option Addr × Nat × Nd, ∀ i, ∀ h : i < elems.length, (∀ o, o < 5 → w.cell? ((a.add (i * 5)).add o) = (fiveC (G i).2.2.2.2 (G i).1 (G i).2.1 (G i).2.2.1 (G i).2.2.2.1)[o]?) ∧ NdR w (G i).1 (G i).2.1 (G i).2.2.1 (G i).2.2.2.1 (G i).2.2.2.2 ∧ sizeN (G i).2.2.2.2 ≤ Rows.uptoBulk (elems[i]).1 :=
          ⟨fun i => Classical.choose (hall i), fun i => Classical.choose_spec (hall i)⟩
        have hks : ∀ j x, ((List.range elems.length).map fun i => (G i).2.2.2.2)[j]? = some x → j < elems.length ∧ x = (G j).2.2.2.2 := by
          intro j x hx
          have hj : j < elems.length := by
            rcases Nat.lt_or_ge j elems.length with h | h
            · exact h
            · rw [List.getElem?_eq_none (by simpa using h)] at hx; cases hx
          simp [hj] at hx
          exact ⟨hj, hx.symm⟩
        refine ⟨some a, cap, (List.range elems.length).map fun i => (G i).2.2.2.2, fun i => (G i).1, fun i => (G i).2.1, fun i => (G i).2.2.1, fun i => (G i).2.2.2.1, ?_, by simp; omega, hcm, (fun h => by cases h), ?_, ?_, ?_⟩
        · simp [hlen]
          simpa using hcs
        · have := bulk_nodes (elems.map (·.1)) ((List.range elems.length).map fun i => (G i).2.2.2.2) (by simp) (fun j h1 h2 => by
            have h3 : j < elems.length := by simpa using h1
            have := (hG j h3).2.2
            simpa using this)
          simp only [Rows.uptoBulk]
          omega
        · by_cases h0 : elems.length = 0
          · left; simp [h0]
          · right
            obtain ⟨b, off, spot⟩ := a
            have h1 : w.cell? (((⟨b, off, spot⟩ : Addr).add (0 * 5)).add 0) = _ := (hG 0 (by omega)).1 0 (by omega)
            have hs : spot = none := by
              have h2 : w.cell? ⟨b, off, spot⟩ = some (.int .i64 (G 0).2.2.2.2.k) := by simpa [Addr.add, fiveC] using h1
              exact World.cell?_spot h2
            subst hs
            refine ⟨b, off, rfl, fun j x hx => ?_⟩
            obtain ⟨hj, rfl⟩ := hks j x hx
            have h2 := (hG j hj).1
            refine ⟨?_, ?_, ?_, ?_, ?_⟩
            · have := h2 0 (by omega); rw [add_plain, add_plain] at this; exact this
            · have := h2 1 (by omega); rw [add_plain, add_plain] at this; exact this
            · have := h2 2 (by omega); rw [add_plain, add_plain] at this; exact this
            · have := h2 3 (by omega); rw [add_plain, add_plain] at this; exact this
            · have := h2 4 (by omega); rw [add_plain, add_plain] at this; exact this
        · intro j x hx
          obtain ⟨hj, rfl⟩ := hks j x hx
          exact (hG j hj).2.1
    obtain ⟨B, c2, ks, FA, Fc, FB, Fc2, rfl, hkl, hkc, hkn, hkb, hcell, hsub⟩ := hkids
    refine ⟨A, c, B, c2, .mk k e m d ks, rfl, .mk k e m d ks A c B c2 FA Fc FB Fc2 (by omega) (by omega) (by omega) hrow.ri hrow.bts hrow.le hrow.cap_le hrow.nil hkl hkc hkn hcell hsub, ?_⟩
    simp only [sizeN, List.map_cons, List.map_nil, Rows.uptoBulk, Rows.uptoBulkAll]
    omega
end Go.Proofs.YtcmljjhnfpfcfaaDoor
