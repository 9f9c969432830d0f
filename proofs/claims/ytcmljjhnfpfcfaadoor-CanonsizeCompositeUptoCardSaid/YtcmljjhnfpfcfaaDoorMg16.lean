/- The texts CanA, RowG (what is wanted of them), one after the other. -/
import Derived.Test.YtcmljjhnfpfcfaaDoorMg1
import Derived.Test.YtcmljjhnfpfcfaaDoorMg2
import Derived.Test.YtcmljjhnfpfcfaaDoorMg3
import Derived.Test.YtcmljjhnfpfcfaaDoorMg4
import Derived.Test.YtcmljjhnfpfcfaaDoorMg5
import Derived.Test.YtcmljjhnfpfcfaaDoorMg6
import Derived.Test.YtcmljjhnfpfcfaaDoorMg7
import Derived.Test.YtcmljjhnfpfcfaaDoorMg8
import Derived.Test.YtcmljjhnfpfcfaaDoorMg9
import Derived.Test.YtcmljjhnfpfcfaaDoorMg10
import Derived.Test.YtcmljjhnfpfcfaaDoorMg11
import Derived.Test.YtcmljjhnfpfcfaaDoorMg12
import Derived.Test.YtcmljjhnfpfcfaaDoorMg13
import Derived.Test.YtcmljjhnfpfcfaaDoorMg14
import Derived.Test.YtcmljjhnfpfcfaaDoorMg15
import Derived.Lib.SliceRun
/- Package canonsize: isComposite, Object. -/
namespace Go.Proofs.YtcmljjhnfpfcfaaDoor
open Go.ChangeShapes Go.WideShapes Go.ChangeAt Go.RowKit
set_option linter.unusedVariables false
set_option linter.unusedSimpArgs false
set_option maxRecDepth 100000

theorem isComp_yes (k e n : Int) (A : Option Addr) (dl c : Nat) (B : Option Addr) (kl c2 : Nat) (w : World) (h : k = 2 ∧ e = 7) : Calls Tryd.prog 24 #[.agg #[.int .i64 k, .int .i64 e, .int .i64 n, .slice A dl c, .slice B kl c2]] w fun r w' => r = .returned (.bool true) ∧ Below w.heap.size w w' := by
  have HB := Lib.hid (fun o => (Below.refl w.heap.size w).alloc (Nat.le_refl _) o)
  obtain ⟨h1, h2⟩ := h
  have t1 : (k == 2) = true := by simpa using h1
  have t2 : (e == 7) = true := by simpa using h2
  clear h1 h2
  go_enter Tryd.func24, Tryd.ntmps24
  go_wp2
  go_ret
  exact ⟨rfl, HB.out _⟩
theorem isComp_no (k e n : Int) (A : Option Addr) (dl c : Nat) (B : Option Addr) (kl c2 : Nat) (w : World) (h : ¬ (k = 2 ∧ e = 7)) : Calls Tryd.prog 24 #[.agg #[.int .i64 k, .int .i64 e, .int .i64 n, .slice A dl c, .slice B kl c2]] w fun r w' => r = .returned (.bool false) ∧ Below w.heap.size w w' := by
  have HB := Lib.hid (fun o => (Below.refl w.heap.size w).alloc (Nat.le_refl _) o)
  by_cases h1 : k = 2
  · have h2 : ¬ e = 7 := fun h2 => h ⟨h1, h2⟩
    have t1 : (k == 2) = true := by simpa using h1
    have t2 : (e == 7) = false := by simpa using h2
    clear h1 h2 h
    go_enter Tryd.func24, Tryd.ntmps24
    go_wp2
    go_ret
    exact ⟨rfl, HB.out _⟩
  · have t1 : (k == 2) = false := by simpa using h1
    clear h1 h
    go_enter Tryd.func24, Tryd.ntmps24
    go_wp2
    go_ret
    exact ⟨rfl, HB.out _⟩
/-- the words of a composite list, of any count -/
theorem LWords7_any (c : Int) (w : World) (hc : 0 ≤ c) (h1 : c ≤ 1152921504606846976) : Calls Tryd.prog 26 #[.int .i64 7, .int .i64 c] w fun r w' => r = .returned (.int .i64 (1 + c)) ∧ w = w' := by
  go_enter Tryd.func26, Tryd.ntmps26
  go_wp2
  go_ret
  exact ⟨rfl, rfl⟩

set_option maxRecDepth 100000 in
theorem CObject_c (x : Nd) (A : Option Addr) (c : Nat) (B : Option Addr) (c2 : Nat) (w : World) (hT : TabOK w) (hx : NdR w A c B c2 x) (hs : sizeN x ≤ 1099511627776) (hv : validN x = true) :
    Calls Tryd.prog 10 #[.agg #[.int .i64 x.k, .int .i64 x.e, .int .i64 x.n, .slice A x.d.length c, .slice B x.ks.length c2]] w fun r w' => r = .returned (.int .i64 (canO x)) ∧ Below w.heap.size w w' := by
  obtain ⟨k, e, n, d, ks⟩ := x
  have HR : Hid (canO (.mk k e n d ks) = canOf k e n d ks) := Lib.hid rfl
  have hsz : sizeN (.mk k e n d ks) = 1 + d.length + sizeK ks := by simp [sizeN]
  have hkl := sizeK_length ks
  have HX := Lib.hid hx
  have HS := Lib.hid hs
  have HV := Lib.hid hv
  have HT := Lib.hid hT
  have hh := valid_head hv
  simp only [Nd.k, Nd.e, Nd.n, Nd.d, Nd.ks]
  clear hT
  by_cases h1 : k = 1
  · have HC : Hid (canOf k e n d ks = ((d.length / 8 + ks.length : Nat) : Int)) := Lib.hid (by unfold canOf; rw [if_neg (by omega), if_pos h1])
    have t1 : (k == 1) = true := by simpa using h1
    have hq : ((d.length : Int)).tdiv 8 = ((d.length / 8 : Nat) : Int) := by rw [Int.tdiv_eq_ediv_of_nonneg (by omega)]; omega
    clear h1 hh hx hv
    go_enter Tryd.func10, Tryd.ntmps10
    go_wp2
    go_ret
    exact ⟨by rw [HR.out, HC.out]; simp; try omega, (Below.refl _ _).alloc (Nat.le_refl _) _⟩
  have t1 : (k == 1) = false := by simpa using h1
  have HB0 : Hid (Below w.heap.size w (w.alloc (.cells #[.int .i64 k, .int .i64 e, .int .i64 n, .slice A d.length c, .slice B ks.length c2] 25))) := Lib.hid ((Below.refl _ _).alloc (Nat.le_refl _) _)
  have HF0 := Lib.hid (Blk.fresh w #[.int .i64 k, .int .i64 e, .int .i64 n, .slice A d.length c, .slice B ks.length c2] 25)
  by_cases h7 : k = 2 ∧ e = 7
  · obtain ⟨u, hu⟩ : ∃ u, uniD ks ks.length = u := ⟨_, rfl⟩
    obtain ⟨v, hv2⟩ : ∃ v, uniP ks ks.length = v := ⟨_, rfl⟩
    have HC : Hid (canOf k e n d ks = 1 + n * ((u : Int) + v)) := Lib.hid (by unfold canOf; rw [if_neg (by omega), if_neg h1, if_pos h7.2, hu, hv2]; simp)
    have hub := (by obtain ⟨rfl, rfl⟩ := h7; exact uni_bd hv : uniD ks ks.length ≤ 65535 ∧ uniP ks ks.length ≤ 65535)
    rw [hu, hv2] at hub
    obtain ⟨hn0, hn1⟩ : 0 ≤ n ∧ n ≤ 536870911 := by rcases hh with h | h | h <;> omega
    have m0 : 0 ≤ n * ((u : Int) + v) := Int.mul_nonneg hn0 (by omega)
    have m1 : n * ((u : Int) + v) ≤ 536870911 * 131070 := Int.mul_le_mul (by omega) (by omega) (by omega) (by omega)
    have HU := Lib.hid (fun w2 (h2 : NdR w2 A c B c2 (.mk k e n d ks)) hT2 => TUniform_any (.mk k e n d ks) A c B c2 w2 hT2 h2 HS.out HV.out h7.1 h7.2)
    simp only [Nd.k, Nd.e, Nd.n, Nd.d, Nd.ks] at HU
    rw [hu, hv2] at HU
    have HI := Lib.hid (fun w2 => isComp_yes k e n A d.length c B ks.length c2 w2 h7)
    obtain rfl : e = 7 := h7.2
    clear h1 h7 hh hx hu hv2 hv hs HV
    go_enter Tryd.func10, Tryd.ntmps10
    go_wp2_with fail
    refine (HI.out _).mono ?_
    rintro r w1 ⟨rfl, hb1⟩
    have HF1 := Lib.hid (HF0.out.below hb1)
    have HB1 := Lib.hid (bel_on HB0.out hb1)
    clear hb1 HF0 HB0 HI
    obtain ⟨x1, y1, z1⟩ := HF1.out
    go_wp2_with fail
    refine (HU.out _ (HX.out.on HB1.out (Nat.le_refl _)) (HT.out.on HB1.out)).mono ?_
    rintro r w2 ⟨rfl, hb2⟩
    have HF2 := Lib.hid (HF1.out.below hb2)
    have HB2 := Lib.hid (bel_on HB1.out hb2)
    clear hb2 HF1 HB1 HU x1 y1 z1
    obtain ⟨x2, y2, z2⟩ := HF2.out
    go_wp2_with fail
    refine (LWords7_any _ _ m0 (by omega)).mono ?_
    rintro r w3 ⟨rfl, rfl⟩
    go_wp2
    go_ret
    exact ⟨by rw [HR.out, HC.out]; rfl, HB2.out⟩
  have HI := Lib.hid (fun w2 => isComp_no k e n A d.length c B ks.length c2 w2 h7)
  by_cases h2 : k = 2
  · have HC : Hid (canOf k e n d ks = wordsI e n) := Lib.hid (by unfold canOf; rw [if_neg (by omega), if_neg h1, if_neg (fun h => h7 ⟨h2, h⟩)])
    obtain ⟨hn0, hn1, he0, he7⟩ : 0 ≤ n ∧ n ≤ 536870911 ∧ 0 ≤ e ∧ e ≤ 7 := by rcases hh with h | h | h <;> omega
    have t2 : (k == 2) = true := by simpa using h2
    clear h1 h7 h2 hh hx hv HV
    go_enter Tryd.func10, Tryd.ntmps10
    go_wp2_with fail
    refine (HI.out _).mono ?_
    rintro r w1 ⟨rfl, hb1⟩
    have HF1 := Lib.hid (HF0.out.below hb1)
    have HB1 := Lib.hid (bel_on HB0.out hb1)
    clear hb1 HF0 HB0 HI
    obtain ⟨x1, y1, z1⟩ := HF1.out
    go_wp2_with fail
    refine (LWords_any e n _ (HT.out.on HB1.out) he0 he7 hn0 hn1).mono ?_
    rintro r w2 ⟨rfl, rfl⟩
    go_wp2
    go_ret
    exact ⟨by rw [HR.out, HC.out]; rfl, HB1.out⟩
  · have HC : Hid (canOf k e n d ks = 0) := Lib.hid (by unfold canOf; rw [if_pos (by rcases hh with h | h | h <;> omega)])
    have t2 : (k == 2) = false := by simpa using h2
    clear h1 h7 h2 hh hx hv HV
    go_enter Tryd.func10, Tryd.ntmps10
    go_wp2_with fail
    refine (HI.out _).mono ?_
    rintro r w1 ⟨rfl, hb1⟩
    have HF1 := Lib.hid (HF0.out.below hb1)
    have HB1 := Lib.hid (bel_on HB0.out hb1)
    clear hb1 HF0 HB0 HI
    obtain ⟨x1, y1, z1⟩ := HF1.out
    go_wp2
    go_ret
    exact ⟨by rw [HR.out, HC.out]; rfl, HB1.out⟩
end Go.Proofs.YtcmljjhnfpfcfaaDoor

/- A row of nodes that is filled place by place while another block is written, too. -/
namespace Go.Proofs.YtcmljjhnfpfcfaaDoor
open Go.ChangeShapes Go.WideShapes Go.ChangeAt Go.RowKit
set_option linter.unusedVariables false
set_option linter.unusedSimpArgs false
set_option maxRecDepth 100000

/-- all blocks but b -/
def KB (b : Nat) : Nat → Prop := fun k => k = b
theorem bel_keeps {b : Nat} {w w' : World} (h : Keeps (KB b) w w') (hb : b ≤ w.heap.size) : Below b w w' := h.below hb (fun k hk => by unfold KB at hk; omega)
theorem keeps_alloc {b : Nat} {w w' : World} (h : Keeps (KB b) w w') (o : Obj) : Keeps (KB b) w (w'.alloc o) := h.trans (keeps_of ((Below.refl _ _).alloc (Nat.le_refl _) o))
theorem keeps_set {b : Nat} {w w' : World} (h : Keeps (KB b) w w') {p : Addr} (hp : p.block = b ∨ w.heap.size ≤ p.block) (v : Value) : Keeps (KB b) w (w'.setCell p v) := by
  refine ⟨h.os, h.tape, h.output, by simpa using h.size, fun k hk hS => ?_⟩
  rw [Below.heap_setCell _ _ _ _ (by rcases hp with e | e; · intro e2; exact hS (e2.trans e)
                                     · omega)]
  exact h.block k hk hS
theorem keeps_on {b : Nat} {w w1 w2 : World} (h : Keeps (KB b) w w1) (hb : Below w1.heap.size w1 w2) : Keeps (KB b) w w2 := h.trans (keeps_of hb)
theorem NodF.keeps {b lo : Nat} {x : Nd} {v : Value} {w w' : World} (h : NodF lo x v w) (hk : Keeps (KB b) w w') (hb : b < lo) : NodF lo x v w' := by
  obtain ⟨A, c, B, c2, hi, h1, h2, h3⟩ := h
  exact ⟨A, c, B, c2, hi, h1, Nat.le_trans h2 hk.size, h3.to fun k k1 k2 => hk.block k (by omega) (by unfold KB; omega)⟩
/-- a row of n nodes in the block q; the first hold the nodes of ts, whose parts lie behind q -/
structure RowG (q n : Nat) (ts : List Nd) (W : World) : Prop where
  cell : ∀ o, o < n * 5 → ∃ u, W.cell? ⟨q, o, none⟩ = some u
  free : ∀ o, W.frozen? ⟨q, o, none⟩ = false
  lt : q < W.heap.size
  done : ∀ j (hj : j < ts.length), ∃ A' c' B' c2' lo hi, q < lo ∧ hi ≤ W.heap.size ∧ NdO lo hi W A' c' B' c2' (ts[j]) ∧ ∀ o, o < 5 → W.cell? ⟨q, j * 5 + o, none⟩ = (fiveC (ts[j]) A' c' B' c2')[o]?
theorem RowG.agree {q n : Nat} {ts : List Nd} {W W' : World} (h : RowG q n ts W) (hs : W.heap.size ≤ W'.heap.size) (hw : ∀ k, q ≤ k → k < W.heap.size → W'.heap[k]? = W.heap[k]?) : RowG q n ts W' := by
  have hlt := h.lt
  have hc : ∀ o, W'.cell? ⟨q, o, none⟩ = W.cell? ⟨q, o, none⟩ := fun o => World.cell?_of_block (hw q (Nat.le_refl _) hlt)
  refine ⟨fun o ho => ?_, fun o => ?_, Nat.lt_of_lt_of_le hlt hs, fun j hj => ?_⟩
  · obtain ⟨u, hu⟩ := h.cell o ho
    exact ⟨u, (hc o).trans hu⟩
  · have := h.free o
    unfold World.frozen? at this ⊢
    rw [show W'.heap[(⟨q, o, none⟩ : Addr).block]? = W.heap[(⟨q, o, none⟩ : Addr).block]? from hw q (Nat.le_refl _) hlt]
    exact this
  · obtain ⟨A', c', B', c2', lo, hi', h1, h2, h3, h5⟩ := h.done j hj
    exact ⟨A', c', B', c2', lo, hi', h1, Nat.le_trans h2 hs, h3.to fun k k1 k2 => hw k (by omega) (by omega), fun o ho => (hc _).trans (h5 o ho)⟩
theorem RowG.below {q n : Nat} {ts : List Nd} {W W' : World} (h : RowG q n ts W) (hb : Below W.heap.size W W') : RowG q n ts W' := h.agree hb.size fun k _ h2 => hb.block k h2
theorem RowG.keeps {b q n : Nat} {ts : List Nd} {W W' : World} (h : RowG q n ts W) (hk : Keeps (KB b) W W') (hb : b < q) : RowG q n ts W' := h.agree hk.size fun k h1 h2 => hk.block k h2 (by unfold KB; omega)
theorem RowG.alloc {q n : Nat} {ts : List Nd} {W : World} (h : RowG q n ts W) (o : Obj) : RowG q n ts (W.alloc o) := h.below ((Below.refl _ _).alloc (Nat.le_refl _) o)
/-- a store into another block that none of its parts lies in -/
theorem RowG.other {q n : Nat} {ts : List Nd} {W : World} (h : RowG q n ts W) {p : Addr} (hp : p.block < q) (v : Value) : RowG q n ts (W.setCell p v) :=
  h.agree (by simp) fun k h1 _ => Below.heap_setCell _ _ _ _ (by omega)
theorem RowG.set {q n : Nat} {ts : List Nd} {W : World} (h : RowG q n ts W) {p : Nat} (hp : ts.length * 5 ≤ p) (v : Value) : RowG q n ts (W.setCell ⟨q, p, none⟩ v) := by
  have hd : ∀ o, p ≠ o → (W.setCell ⟨q, p, none⟩ v).cell? ⟨q, o, none⟩ = W.cell? ⟨q, o, none⟩ := fun o ho => cell_diff (fun e => by injection e with e1 e2; exact ho e2)
  refine ⟨fun o ho => ?_, fun o => by rw [World.frozen?_setCell]; exact h.free o, by simpa using h.lt, fun j hj => ?_⟩
  · obtain ⟨u, hu⟩ := h.cell o ho
    by_cases e : p = o
    · subst e
      exact ⟨v, cell_same hu⟩
    · exact ⟨u, (hd o e).trans hu⟩
  · obtain ⟨A', c', B', c2', lo, hi', h1, h2, h3, h5⟩ := h.done j hj
    exact ⟨A', c', B', c2', lo, hi', h1, by simpa using h2, h3.to fun k k1 _ => Below.heap_setCell _ _ _ _ (by show k ≠ q; omega), fun o ho => (hd _ (by omega)).trans (h5 o ho)⟩
/-- one place more -/
theorem RowG.next {q n i : Nat} {ts : List Nd} {W : World} {x : Nd} (h : RowG q n ts W) (hi : ts.length = i) (hn : i < n) {A' : Option Addr} {c' : Nat} {B' : Option Addr} {c2' lo hi' : Nat} (h1 : q < lo) (h2 : hi' ≤ W.heap.size) (h3 : NdO lo hi' W A' c' B' c2' x) :
    RowG q n (ts ++ [x]) (((((W.setCell ⟨q, i * 5, none⟩ (.int .i64 x.k)).setCell ⟨q, i * 5 + 1, none⟩ (.int .i64 x.e)).setCell ⟨q, i * 5 + 2, none⟩ (.int .i64 x.n)).setCell ⟨q, i * 5 + 3, none⟩ (.slice A' x.d.length c')).setCell ⟨q, i * 5 + 4, none⟩ (.slice B' x.ks.length c2')) := by
  subst hi
  have hr := ((((h.set (p := ts.length * 5) (by omega) (.int .i64 x.k)).set (p := ts.length * 5 + 1) (by omega) (.int .i64 x.e)).set (p := ts.length * 5 + 2) (by omega) (.int .i64 x.n)).set (p := ts.length * 5 + 3) (by omega) (.slice A' x.d.length c')).set (p := ts.length * 5 + 4) (by omega) (.slice B' x.ks.length c2')
  refine ⟨hr.cell, hr.free, hr.lt, fun j hj => ?_⟩
  by_cases e : j < ts.length
  · have := hr.done j e
    rw [List.getElem_append_left e]
    exact this
  have hjl : j = ts.length := by rw [List.length_append, List.length_singleton] at hj; omega
  subst hjl
  have hx : (ts ++ [x])[ts.length]'hj = x := by rw [List.getElem_append_right (Nat.le_refl _)]; simp
  rw [hx]
  have hg : ∀ (w : World) k p v, lo ≤ k → (w.setCell ⟨q, p, none⟩ v).heap[k]? = w.heap[k]? := fun w k p v hk => Below.heap_setCell _ _ _ _ (by show k ≠ q; omega)
  refine ⟨A', c', B', c2', lo, hi', h1, by simpa using h2, h3.to fun k k1 _ => by rw [hg _ _ _ _ k1, hg _ _ _ _ k1, hg _ _ _ _ k1, hg _ _ _ _ k1, hg _ _ _ _ k1], fun o ho => ?_⟩
  have d : ∀ (w : World) (p r : Nat) v, p ≠ r → (w.setCell ⟨q, p, none⟩ v).cell? ⟨q, r, none⟩ = w.cell? ⟨q, r, none⟩ := fun w p r v hpr => cell_diff (fun e => by injection e with e1 e2; exact hpr e2)
  have c0 := fun o (ho : o < 5) => h.cell (ts.length * 5 + o) (by omega)
  have : o = 0 ∨ o = 1 ∨ o = 2 ∨ o = 3 ∨ o = 4 := by omega
  rcases this with rfl | rfl | rfl | rfl | rfl
  · obtain ⟨u, hu⟩ := c0 0 (by omega)
    rw [d _ _ _ _ (by omega), d _ _ _ _ (by omega), d _ _ _ _ (by omega), d _ _ _ _ (by omega)]
    exact cell_same hu
  · obtain ⟨u, hu⟩ := c0 1 (by omega)
    rw [d _ _ _ _ (by omega), d _ _ _ _ (by omega), d _ _ _ _ (by omega)]
    exact cell_same (u := u) (by rw [d _ _ _ _ (by omega)]; exact hu)
  · obtain ⟨u, hu⟩ := c0 2 (by omega)
    rw [d _ _ _ _ (by omega), d _ _ _ _ (by omega)]
    exact cell_same (u := u) (by rw [d _ _ _ _ (by omega), d _ _ _ _ (by omega)]; exact hu)
  · obtain ⟨u, hu⟩ := c0 3 (by omega)
    rw [d _ _ _ _ (by omega)]
    exact cell_same (u := u) (by rw [d _ _ _ _ (by omega), d _ _ _ _ (by omega), d _ _ _ _ (by omega)]; exact hu)
  · obtain ⟨u, hu⟩ := c0 4 (by omega)
    exact cell_same (u := u) (by rw [d _ _ _ _ (by omega), d _ _ _ _ (by omega), d _ _ _ _ (by omega), d _ _ _ _ (by omega)]; exact hu)
/-- a new row -/
theorem RowG.made {q n base : Nat} {W : World} {vs : List Value} (h : W.ownsRow base 25 5 (.slice (some ⟨q, 0, none⟩) n n) n vs) : RowG q n [] W := by
  refine ⟨fun o ho => ?_, fun o => World.ownsRow.frozenAt h o, (h.lt q rfl).2, fun j hj => by simp at hj⟩
  have hl : o < vs.length := by rw [h.1]; exact ho
  exact ⟨vs[o], by rw [World.ownsRow.cellAt h o ho, List.getElem?_eq_getElem hl]⟩
end Go.Proofs.YtcmljjhnfpfcfaaDoor
