/- The texts TrimB, TrimP, List, CanA (what is wanted of them), one after the other. -/
import Derived.Test.YtfigoblpkbpenaaDoorMg1
import Derived.Test.YtfigoblpkbpenaaDoorMg2
import Derived.Test.YtfigoblpkbpenaaDoorMg3
import Derived.Test.YtfigoblpkbpenaaDoorMg4
import Derived.Test.YtfigoblpkbpenaaDoorMg5
import Derived.Test.YtfigoblpkbpenaaDoorMg6
import Derived.Test.YtfigoblpkbpenaaDoorMg7
import Derived.Test.YtfigoblpkbpenaaDoorMg9
import Derived.Test.YtfigoblpkbpenaaDoorMg10
import Derived.Test.YtfigoblpkbpenaaDoorMg11
import Derived.Test.YtfigoblpkbpenaaDoorMg12
import Derived.Test.YtfigoblpkbpenaaDoorMg13
import Derived.Test.YtfigoblpkbpenaaDoorMg14
import Derived.Test.YtfigoblpkbpenaaDoorMg15
import Derived.Test.YtfigoblpkbpenaaDoorMg16
import Derived.Test.YtfigoblpkbpenaaDoorMg26
import Derived.Test.YtfigoblpkbpenaaDoorMg28
import Derived.Lib.SliceRun
/- Package trim: a row of trimmed nodes that is filled place by place, and Trim itself. -/
namespace Go.Proofs.YtfigoblpkbpenaaDoor
open Go.ChangeShapes Go.WideShapes Go.ChangeAt Go.RowKit
set_option linter.unusedVariables false
set_option linter.unusedSimpArgs false
set_option maxRecDepth 100000

theorem KsR.take {w : World} {B : Option Addr} {ts : List Nd} (h : KsR w B ts) (K : Nat) : KsR w B (ts.take K) := by
  rcases h with rfl | ⟨b, off, hB, h⟩
  · exact .inl (by simp)
  · refine .inr ⟨b, off, hB, fun j hj => ?_⟩
    rw [List.length_take] at hj
    have := h j (by omega)
    rw [List.getElem_take]
    exact this

/-- the block at A lies there and may be written into -/
def Unv (w : World) (A : Option Addr) : Prop := ∀ b off, A = some ⟨b, off, none⟩ → b < w.heap.size ∧ ∀ o, w.frozen? ⟨b, o, none⟩ = false
theorem Unv.below {w w' : World} {A : Option Addr} (h : Unv w A) {N : Nat} (hb : Below N w w') (hN : w.heap.size ≤ N) : Unv w' A := by
  intro b off e
  obtain ⟨h1, h2⟩ := h b off e
  exact ⟨Nat.lt_of_lt_of_le h1 hb.size, fun o => by rw [hb.frozen (p := ⟨b, o, none⟩) (by show b < N; omega)]; exact h2 o⟩
theorem Unv.set {w : World} {A : Option Addr} (h : Unv w A) (p : Addr) (v : Value) : Unv (w.setCell p v) A := by
  intro b off e
  obtain ⟨h1, h2⟩ := h b off e
  exact ⟨by simpa using h1, fun o => by rw [World.frozen?_setCell]; exact h2 o⟩

/-- a row of n nodes in the block q; the first i hold the nodes of ts, whose parts lie behind q -/
structure RowT (q n i : Nat) (ts : List Nd) (W : World) : Prop where
  cell : ∀ o, o < n * 5 → ∃ u, W.cell? ⟨q, o, none⟩ = some u
  free : ∀ o, W.frozen? ⟨q, o, none⟩ = false
  lt : q < W.heap.size
  done : ∀ j (hj : j < ts.length), j < i → ∃ A' c' B' c2' lo hi, q < lo ∧ hi ≤ W.heap.size ∧ NdO lo hi W A' c' B' c2' (ts[j]) ∧ Unv W A' ∧ ∀ o, o < 5 → W.cell? ⟨q, j * 5 + o, none⟩ = (fiveC (ts[j]) A' c' B' c2')[o]?
theorem RowT.below {q n i : Nat} {ts : List Nd} {W W' : World} (h : RowT q n i ts W) {N : Nat} (hb : Below N W W') (hN : W.heap.size ≤ N) : RowT q n i ts W' := by
  have hlt := h.lt
  have hc : ∀ o, W'.cell? ⟨q, o, none⟩ = W.cell? ⟨q, o, none⟩ := fun o => hb.cell (p := ⟨q, o, none⟩) (by show q < N; omega)
  refine ⟨fun o ho => ?_, fun o => ?_, Nat.lt_of_lt_of_le hlt hb.size, fun j hj hi => ?_⟩
  · obtain ⟨u, hu⟩ := h.cell o ho
    exact ⟨u, (hc o).trans hu⟩
  · rw [hb.frozen (p := ⟨q, o, none⟩) (by show q < N; omega)]
    exact h.free o
  · obtain ⟨A', c', B', c2', lo, hi', h1, h2, h3, h4, h5⟩ := h.done j hj hi
    exact ⟨A', c', B', c2', lo, hi', h1, Nat.le_trans h2 hb.size, h3.below hb (by omega), h4.below hb hN, fun o ho => (hc _).trans (h5 o ho)⟩
theorem RowT.set {q n i : Nat} {ts : List Nd} {W : World} (h : RowT q n i ts W) {p : Nat} (hp : i * 5 ≤ p) (v : Value) : RowT q n i ts (W.setCell ⟨q, p, none⟩ v) := by
  have hd : ∀ o, p ≠ o → (W.setCell ⟨q, p, none⟩ v).cell? ⟨q, o, none⟩ = W.cell? ⟨q, o, none⟩ := fun o ho => cell_diff (fun e => by injection e with e1 e2; exact ho e2)
  refine ⟨fun o ho => ?_, fun o => by rw [World.frozen?_setCell]; exact h.free o, by simpa using h.lt, fun j hj hi => ?_⟩
  · obtain ⟨u, hu⟩ := h.cell o ho
    by_cases e : p = o
    · subst e
      exact ⟨v, cell_same hu⟩
    · exact ⟨u, (hd o e).trans hu⟩
  · obtain ⟨A', c', B', c2', lo, hi', h1, h2, h3, h4, h5⟩ := h.done j hj hi
    exact ⟨A', c', B', c2', lo, hi', h1, by simpa using h2, h3.to fun k k1 _ => Below.heap_setCell _ _ _ _ (by show k ≠ q; omega), h4.set _ _, fun o ho => (hd _ (by omega)).trans (h5 o ho)⟩
/-- a store into a block before the row -/
theorem RowT.other {q n i : Nat} {ts : List Nd} {W : World} (h : RowT q n i ts W) {p : Addr} (hp : p.block < q) (v : Value) : RowT q n i ts (W.setCell p v) := by
  have hd : ∀ o, (W.setCell p v).cell? ⟨q, o, none⟩ = W.cell? ⟨q, o, none⟩ := fun o => cell_diff (fun e => by subst e; exact Nat.lt_irrefl _ hp)
  refine ⟨fun o ho => ?_, fun o => by rw [World.frozen?_setCell]; exact h.free o, by simpa using h.lt, fun j hj hi => ?_⟩
  · obtain ⟨u, hu⟩ := h.cell o ho
    exact ⟨u, (hd o).trans hu⟩
  · obtain ⟨A', c', B', c2', lo, hi', h1, h2, h3, h4, h5⟩ := h.done j hj hi
    exact ⟨A', c', B', c2', lo, hi', h1, by simpa using h2, h3.to fun k k1 _ => Below.heap_setCell _ _ _ _ (by omega), h4.set _ _, fun o ho => (hd _).trans (h5 o ho)⟩
/-- one place more -/
theorem RowT.next {q n i : Nat} {ts : List Nd} {W : World} (h : RowT q n i ts W) (hn : i < n) (hl : i < ts.length) {A' : Option Addr} {c' : Nat} {B' : Option Addr} {c2' lo hi : Nat} (h1 : q < lo) (h2 : hi ≤ W.heap.size) (h3 : NdO lo hi W A' c' B' c2' (ts[i])) (h4 : Unv W A') :
    RowT q n (i + 1) ts (((((W.setCell ⟨q, i * 5, none⟩ (.int .i64 (ts[i]).k)).setCell ⟨q, i * 5 + 1, none⟩ (.int .i64 (ts[i]).e)).setCell ⟨q, i * 5 + 2, none⟩ (.int .i64 (ts[i]).n)).setCell ⟨q, i * 5 + 3, none⟩ (.slice A' (ts[i]).d.length c')).setCell ⟨q, i * 5 + 4, none⟩ (.slice B' (ts[i]).ks.length c2')) := by
  have hr := ((((h.set (p := i * 5) (by omega) (.int .i64 (ts[i]).k)).set (p := i * 5 + 1) (by omega) (.int .i64 (ts[i]).e)).set (p := i * 5 + 2) (by omega) (.int .i64 (ts[i]).n)).set (p := i * 5 + 3) (by omega) (.slice A' (ts[i]).d.length c')).set (p := i * 5 + 4) (by omega) (.slice B' (ts[i]).ks.length c2')
  refine ⟨hr.cell, hr.free, hr.lt, fun j hj hi2 => ?_⟩
  by_cases e : j < i
  · exact hr.done j hj e
  obtain rfl : j = i := by omega
  have hg : ∀ (w : World) k p v, lo ≤ k → (w.setCell ⟨q, p, none⟩ v).heap[k]? = w.heap[k]? := fun w k p v hk => Below.heap_setCell _ _ _ _ (by show k ≠ q; omega)
  refine ⟨A', c', B', c2', lo, hi, h1, by simpa using h2, h3.to fun k k1 _ => by rw [hg _ _ _ _ k1, hg _ _ _ _ k1, hg _ _ _ _ k1, hg _ _ _ _ k1, hg _ _ _ _ k1], ((((h4.set _ _).set _ _).set _ _).set _ _).set _ _, fun o ho => ?_⟩
  have d : ∀ (w : World) (p r : Nat) v, p ≠ r → (w.setCell ⟨q, p, none⟩ v).cell? ⟨q, r, none⟩ = w.cell? ⟨q, r, none⟩ := fun w p r v hpr => cell_diff (fun e => by injection e with e1 e2; exact hpr e2)
  have c0 := fun o (ho : o < 5) => h.cell (j * 5 + o) (by omega)
  have : o = 0 ∨ o = 1 ∨ o = 2 ∨ o = 3 ∨ o = 4 := by omega
  rcases this with rfl | rfl | rfl | rfl | rfl
  · obtain ⟨u, hu⟩ := c0 0 (by omega)
    rw [d _ _ _ _ (by omega), d _ _ _ _ (by omega), d _ _ _ _ (by omega), d _ _ _ _ (by omega)]
    exact cell_same hu
  · obtain ⟨u, hu⟩ := c0 1 (by omega)
    rw [d _ _ _ _ (by omega), d _ _ _ _ (by omega), d _ _ _ _ (by omega)]
    exact cell_same (u := u) (by rw [d _ _ _ _ (by omega)]; exact hu)
  · obtain ⟨u, hu⟩ := c0 2 (by omega)
    rw [d _ _ _ _ (by omega), d _ _ _ _ (by omega)]
    exact cell_same (u := u) (by rw [d _ _ _ _ (by omega), d _ _ _ _ (by omega)]; exact hu)
  · obtain ⟨u, hu⟩ := c0 3 (by omega)
    rw [d _ _ _ _ (by omega)]
    exact cell_same (u := u) (by rw [d _ _ _ _ (by omega), d _ _ _ _ (by omega), d _ _ _ _ (by omega)]; exact hu)
  · obtain ⟨u, hu⟩ := c0 4 (by omega)
    exact cell_same (u := u) (by rw [d _ _ _ _ (by omega), d _ _ _ _ (by omega), d _ _ _ _ (by omega), d _ _ _ _ (by omega)]; exact hu)
/-- a new row -/
theorem RowT.made {q n base : Nat} {ts : List Nd} {W : World} {vs : List Value} (h : W.ownsRow base 25 5 (.slice (some ⟨q, 0, none⟩) n n) n vs) : RowT q n 0 ts W := by
  refine ⟨fun o ho => ?_, fun o => World.ownsRow.frozenAt h o, (h.lt q rfl).2, fun j hj h0 => by omega⟩
  have hl : o < vs.length := by rw [h.1]; exact ho
  exact ⟨vs[o], by rw [World.ownsRow.cellAt h o ho, List.getElem?_eq_getElem hl]⟩

/-- a node whose kids are such a row -/
theorem RowT.node {q n base : Nat} {ts : List Nd} {W : World} (h : RowT q n n ts W) (hq : base ≤ q) (hl : ts.length = n) (hm : n ≤ maxLen) {k e m : Int} {d : List Int} {A : Option Addr} {c : Nat}
    (hk : -9223372036854775808 ≤ k ∧ k ≤ 9223372036854775807) (he : -9223372036854775808 ≤ e ∧ e ≤ 9223372036854775807) (hn : -9223372036854775808 ≤ m ∧ m ≤ 9223372036854775807)
    (hd : Got W base 5 .u8 (.slice A d.length c) d) (hby : Bts d) : NdO base W.heap.size W A c (some ⟨q, 0, none⟩) n (.mk k e m d ts) := by
  intro V hV
  have hdV : Got V base 5 .u8 (.slice A d.length c) d := got_agree hd fun g h1 h2 => hV g h1 h2
  obtain ⟨A0, c0, he0, hc0, hm0, hri, hnil⟩ := hdV.full
  injection he0 with e1 e2 e3
  subst e1 e3
  have hcell : ∀ o, V.cell? ⟨q, o, none⟩ = W.cell? ⟨q, o, none⟩ := fun o => World.cell?_of_block (w := W) (hV q hq h.lt)
  have hkid : ∀ j (hj : j < ts.length), ∃ A' c' B' c2', NdR V A' c' B' c2' (ts[j]) ∧ ∀ o, o < 5 → V.cell? ⟨q, j * 5 + o, none⟩ = (fiveC (ts[j]) A' c' B' c2')[o]? := by
    intro j hj
    obtain ⟨A', c', B', c2', lo, hi, k1, k2, k3, k4, k5⟩ := h.done j hj (by omega)
    exact ⟨A', c', B', c2', k3 V fun g g1 g2 => hV g (by omega) (by omega), fun o ho => (hcell _).trans (k5 o ho)⟩
  refine .mk k e m d ts A c _ n (fun j => if h : j < ts.length then Classical.choose (hkid j h) else none)
    (fun j => if h : j < ts.length then Classical.choose (Classical.choose_spec (hkid j h)) else 0)
    (fun j => if h : j < ts.length then Classical.choose (Classical.choose_spec (Classical.choose_spec (hkid j h))) else none)
    (fun j => if h : j < ts.length then Classical.choose (Classical.choose_spec (Classical.choose_spec (Classical.choose_spec (hkid j h)))) else 0)
    hk he hn hri hby hc0 hm0 hnil (by omega) hm (fun h => by cases h) ?_ ?_
  · refine .inr ⟨q, 0, rfl, fun j x hj => ?_⟩
    have hjl : j < ts.length := (List.getElem?_eq_some_iff.1 hj).1
    obtain rfl : ts[j] = x := (List.getElem?_eq_some_iff.1 hj).2
    have hspec := Classical.choose_spec (Classical.choose_spec (Classical.choose_spec (Classical.choose_spec (hkid j hjl))))
    simp only [dif_pos hjl, Nat.zero_add]
    exact ⟨hspec.2 0 (by omega), hspec.2 1 (by omega), hspec.2 2 (by omega), hspec.2 3 (by omega), hspec.2 4 (by omega)⟩
  · intro j x hj
    have hjl : j < ts.length := (List.getElem?_eq_some_iff.1 hj).1
    obtain rfl : ts[j] = x := (List.getElem?_eq_some_iff.1 hj).2
    have hspec := Classical.choose_spec (Classical.choose_spec (Classical.choose_spec (Classical.choose_spec (hkid j hjl))))
    simp only [dif_pos hjl]
    exact hspec.1
end Go.Proofs.YtfigoblpkbpenaaDoor

/- What the functions of package trim do, each by a contract (by the code at dec6d4d). -/
namespace Go.Proofs.YtfigoblpkbpenaaDoor
open Go.ChangeShapes Go.WideShapes Go.ChangeAt Go.RowKit
set_option linter.unusedVariables false
set_option linter.unusedSimpArgs false
set_option maxRecDepth 100000

/-- promised of composite lists -/
theorem TUniform_any (x : Nd) (A : Option Addr) (c : Nat) (B : Option Addr) (c2 : Nat) (w : World) (hT : TabOK w) (hx : NdR w A c B c2 x) (hs : sizeN x ≤ 1099511627776) (hv : validN x = true) (hk : x.k = 2) (he : x.e = 7) :
    Calls Tryd.prog 45 #[.agg #[.int .i64 x.k, .int .i64 x.e, .int .i64 x.n, .slice A x.d.length c, .slice B x.ks.length c2]] w fun r w' => r = .returned (.tuple #[.int .i64 (uniD x.ks x.ks.length), .int .i64 (uniP x.ks x.ks.length)]) ∧ Below w.heap.size w w' :=
  trimUniform_any x A c B c2 w hx hs
end Go.Proofs.YtfigoblpkbpenaaDoor

/- What the functions of package listsize do, each by a contract (by the code at a4747f4). -/
namespace Go.Proofs.YtfigoblpkbpenaaDoor
open Go.ChangeShapes Go.WideShapes Go.ChangeAt Go.RowKit
set_option linter.unusedVariables false
set_option linter.unusedSimpArgs false
set_option maxRecDepth 100000

theorem elemZ_bits (k : Nat) (h : k ≤ 7) : elemZ.getD k 0 = bitsI k := by
  rcases (by omega : k = 0 ∨ k = 1 ∨ k = 2 ∨ k = 3 ∨ k = 4 ∨ k = 5 ∨ k = 6 ∨ k = 7) with h | h | h | h | h | h | h | h <;> subst h <;> rfl

theorem LBits_any (e : Int) (w : World) (hT : TabOK w) (h0 : 0 ≤ e) (h7 : e ≤ 7) : Calls Tryd.prog 62 #[.int .i64 e] w fun r w' => r = .returned (.int .i64 (bitsI e)) ∧ w = w' := by
  obtain ⟨k, rfl⟩ := Int.eq_ofNat_of_zero_le h0
  have hk : k ≤ 7 := by omega
  have hc := hT k (by omega)
  rw [elemZ_bits k hk] at hc
  have HT := Lib.hid hT
  generalize bitsI k = x at *
  clear hT
  go_enter Tryd.func62, Tryd.ntmps62
  go_wp2
  go_ret
  exact ⟨rfl, rfl⟩

theorem totalBits_any (e c : Int) (w : World) (hT : TabOK w) (h0 : 0 ≤ e) (h7 : e ≤ 7) (hc : 0 ≤ c) (h1 : c ≤ 536870911) : Calls Tryd.prog 58 #[.int .i64 e, .int .i64 c] w fun r w' => r = .returned (.int .i64 (bitsI e * c)) ∧ w = w' := by
  have HB := Lib.hid (LBits_any e w hT h0 h7)
  obtain ⟨m0, m1⟩ := bitsI_mul e c hc
  clear hT
  generalize bitsI e = x at *
  go_enter Tryd.func58, Tryd.ntmps58
  go_wp2_with fail
  refine HB.out.mono ?_
  rintro e w' ⟨rfl, rfl⟩
  go_wp2
  go_ret
  exact ⟨rfl, rfl⟩

theorem units_any (e c s : Int) (w : World) (hT : TabOK w) (h0 : 0 ≤ e) (h7 : e ≤ 7) (hc : 0 ≤ c) (h1 : c ≤ 536870911) (hs : s = 8 ∨ s = 64) : Calls Tryd.prog 54 #[.int .i64 e, .int .i64 c, .int .i64 s] w fun r w' => r = .returned (.int .i64 ((bitsI e * c + s - 1) / s)) ∧ w = w' := by
  have HB := Lib.hid (totalBits_any e c w hT h0 h7 hc h1)
  obtain ⟨m0, m1⟩ := bitsI_mul e c hc
  clear hT
  generalize bitsI e * c = x at *
  rcases hs with rfl | rfl
  all_goals
    go_enter Tryd.func54, Tryd.ntmps54
    go_wp2_with fail
    refine HB.out.mono ?_
    rintro e w' ⟨rfl, rfl⟩
    go_wp2
    go_ret
    exact ⟨rfl, rfl⟩

theorem LWords_any (e c : Int) (w : World) (hT : TabOK w) (h0 : 0 ≤ e) (h7 : e ≤ 7) (hc : 0 ≤ c) (h1 : c ≤ 536870911) : Calls Tryd.prog 46 #[.int .i64 e, .int .i64 c] w fun r w' => r = .returned (.int .i64 (wordsI e c)) ∧ w = w' := by
  by_cases he : e = 7
  · subst he
    have HW : Hid (wordsI 7 c = 1 + c) := Lib.hid (by unfold wordsI; rw [if_pos rfl]; omega)
    clear hT
    go_enter Tryd.func46, Tryd.ntmps46
    go_wp2
    go_ret
    exact ⟨by rw [HW.out]; rfl, rfl⟩
  · have HW : Hid (wordsI e c = (bitsI e * c + 64 - 1) / 64) := Lib.hid (by unfold wordsI; rw [if_neg he]; omega)
    have HB := Lib.hid (units_any e c 64 w hT h0 h7 hc h1 (.inr rfl))
    have he2 : (e == 7) = false := beq_eq_false_iff_ne.2 he
    clear hT he
    rw [← HW.out] at HB
    generalize wordsI e c = x at *
    go_enter Tryd.func46, Tryd.ntmps46
    go_wp2_with fail
    refine HB.out.mono ?_
    rintro e w' ⟨rfl, rfl⟩
    go_wp2
    go_ret
    exact ⟨rfl, rfl⟩

/-! ## Trim -/
attribute [local irreducible] p2

end Go.Proofs.YtfigoblpkbpenaaDoor

/- Package canonsize: isComposite, Object. -/
namespace Go.Proofs.YtfigoblpkbpenaaDoor
open Go.ChangeShapes Go.WideShapes Go.ChangeAt Go.RowKit
set_option linter.unusedVariables false
set_option linter.unusedSimpArgs false
set_option maxRecDepth 100000

theorem isComp_yes (k e n : Int) (A : Option Addr) (dl c : Nat) (B : Option Addr) (kl c2 : Nat) (w : World) (h : k = 2 ∧ e = 7) : Calls Tryd.prog 36 #[.agg #[.int .i64 k, .int .i64 e, .int .i64 n, .slice A dl c, .slice B kl c2]] w fun r w' => r = .returned (.bool true) ∧ Below w.heap.size w w' := by
  have HB := Lib.hid (fun o => (Below.refl w.heap.size w).alloc (Nat.le_refl _) o)
  obtain ⟨h1, h2⟩ := h
  have t1 : (k == 2) = true := by simpa using h1
  have t2 : (e == 7) = true := by simpa using h2
  clear h1 h2
  go_enter Tryd.func36, Tryd.ntmps36
  go_wp2
  go_ret
  exact ⟨rfl, HB.out _⟩
theorem isComp_no (k e n : Int) (A : Option Addr) (dl c : Nat) (B : Option Addr) (kl c2 : Nat) (w : World) (h : ¬ (k = 2 ∧ e = 7)) : Calls Tryd.prog 36 #[.agg #[.int .i64 k, .int .i64 e, .int .i64 n, .slice A dl c, .slice B kl c2]] w fun r w' => r = .returned (.bool false) ∧ Below w.heap.size w w' := by
  have HB := Lib.hid (fun o => (Below.refl w.heap.size w).alloc (Nat.le_refl _) o)
  by_cases h1 : k = 2
  · have h2 : ¬ e = 7 := fun h2 => h ⟨h1, h2⟩
    have t1 : (k == 2) = true := by simpa using h1
    have t2 : (e == 7) = false := by simpa using h2
    clear h1 h2 h
    go_enter Tryd.func36, Tryd.ntmps36
    go_wp2
    go_ret
    exact ⟨rfl, HB.out _⟩
  · have t1 : (k == 2) = false := by simpa using h1
    clear h1 h
    go_enter Tryd.func36, Tryd.ntmps36
    go_wp2
    go_ret
    exact ⟨rfl, HB.out _⟩
/-- the words of a composite list, of any count -/
theorem LWords7_any (c : Int) (w : World) (hc : 0 ≤ c) (h1 : c ≤ 1152921504606846976) : Calls Tryd.prog 46 #[.int .i64 7, .int .i64 c] w fun r w' => r = .returned (.int .i64 (1 + c)) ∧ w = w' := by
  go_enter Tryd.func46, Tryd.ntmps46
  go_wp2
  go_ret
  exact ⟨rfl, rfl⟩

set_option maxRecDepth 100000 in
theorem CObject_c (x : Nd) (A : Option Addr) (c : Nat) (B : Option Addr) (c2 : Nat) (w : World) (hT : TabOK w) (hx : NdR w A c B c2 x) (hs : sizeN x ≤ 1099511627776) (hv : validN x = true) :
    Calls Tryd.prog 35 #[.agg #[.int .i64 x.k, .int .i64 x.e, .int .i64 x.n, .slice A x.d.length c, .slice B x.ks.length c2]] w fun r w' => r = .returned (.int .i64 (canO x)) ∧ Below w.heap.size w w' := by
  obtain ⟨k, e, n, d, ks⟩ := x
  have HR : Hid (canO (.mk k e n d ks) = canOf k e n d ks) := Lib.hid rfl
  have hsz : sizeN (.mk k e n d ks) = 1 + d.length + sizeK ks := by simp [sizeN]
  have hkl := sizeK_length ks
  have HX := Lib.hid hx
  have HS := Lib.hid hs
  have HV := Lib.hid hv
  have HT := Lib.hid hT
  have hh := valid_head hv
  simp only [Nd.k, Nd.e, Nd.n, Nd.d, Nd.ks]
  clear hT
  by_cases h1 : k = 1
  · have HC : Hid (canOf k e n d ks = ((d.length / 8 + ks.length : Nat) : Int)) := Lib.hid (by unfold canOf; rw [if_neg (by omega), if_pos h1])
    have t1 : (k == 1) = true := by simpa using h1
    have hq : ((d.length : Int)).tdiv 8 = ((d.length / 8 : Nat) : Int) := by rw [Int.tdiv_eq_ediv_of_nonneg (by omega)]; omega
    clear h1 hh hx hv
    go_enter Tryd.func35, Tryd.ntmps35
    go_wp2
    go_ret
    exact ⟨by rw [HR.out, HC.out]; simp; try omega, (Below.refl _ _).alloc (Nat.le_refl _) _⟩
  have t1 : (k == 1) = false := by simpa using h1
  have HB0 : Hid (Below w.heap.size w (w.alloc (.cells #[.int .i64 k, .int .i64 e, .int .i64 n, .slice A d.length c, .slice B ks.length c2] 25))) := Lib.hid ((Below.refl _ _).alloc (Nat.le_refl _) _)
  have HF0 := Lib.hid (Blk.fresh w #[.int .i64 k, .int .i64 e, .int .i64 n, .slice A d.length c, .slice B ks.length c2] 25)
  by_cases h7 : k = 2 ∧ e = 7
  · obtain ⟨u, hu⟩ : ∃ u, uniD ks ks.length = u := ⟨_, rfl⟩
    obtain ⟨v, hv2⟩ : ∃ v, uniP ks ks.length = v := ⟨_, rfl⟩
    have HC : Hid (canOf k e n d ks = 1 + n * ((u : Int) + v)) := Lib.hid (by unfold canOf; rw [if_neg (by omega), if_neg h1, if_pos h7.2, hu, hv2]; simp)
    have hub := (by obtain ⟨rfl, rfl⟩ := h7; exact uni_bd hv : uniD ks ks.length ≤ 65535 ∧ uniP ks ks.length ≤ 65535)
    rw [hu, hv2] at hub
    obtain ⟨hn0, hn1⟩ : 0 ≤ n ∧ n ≤ 536870911 := by rcases hh with h | h | h <;> omega
    have m0 : 0 ≤ n * ((u : Int) + v) := Int.mul_nonneg hn0 (by omega)
    have m1 : n * ((u : Int) + v) ≤ 536870911 * 131070 := Int.mul_le_mul (by omega) (by omega) (by omega) (by omega)
    have HU := Lib.hid (fun w2 (h2 : NdR w2 A c B c2 (.mk k e n d ks)) hT2 => TUniform_any (.mk k e n d ks) A c B c2 w2 hT2 h2 HS.out HV.out h7.1 h7.2)
    simp only [Nd.k, Nd.e, Nd.n, Nd.d, Nd.ks] at HU
    rw [hu, hv2] at HU
    have HI := Lib.hid (fun w2 => isComp_yes k e n A d.length c B ks.length c2 w2 h7)
    obtain rfl : e = 7 := h7.2
    clear h1 h7 hh hx hu hv2 hv hs HV
    go_enter Tryd.func35, Tryd.ntmps35
    go_wp2_with fail
    refine (HI.out _).mono ?_
    rintro r w1 ⟨rfl, hb1⟩
    have HF1 := Lib.hid (HF0.out.below hb1)
    have HB1 := Lib.hid (bel_on HB0.out hb1)
    clear hb1 HF0 HB0 HI
    obtain ⟨x1, y1, z1⟩ := HF1.out
    go_wp2_with fail
    refine (HU.out _ (HX.out.on HB1.out (Nat.le_refl _)) (HT.out.on HB1.out)).mono ?_
    rintro r w2 ⟨rfl, hb2⟩
    have HF2 := Lib.hid (HF1.out.below hb2)
    have HB2 := Lib.hid (bel_on HB1.out hb2)
    clear hb2 HF1 HB1 HU x1 y1 z1
    obtain ⟨x2, y2, z2⟩ := HF2.out
    go_wp2_with fail
    refine (LWords7_any _ _ m0 (by omega)).mono ?_
    rintro r w3 ⟨rfl, rfl⟩
    go_wp2
    go_ret
    exact ⟨by rw [HR.out, HC.out]; rfl, HB2.out⟩
  have HI := Lib.hid (fun w2 => isComp_no k e n A d.length c B ks.length c2 w2 h7)
  by_cases h2 : k = 2
  · have HC : Hid (canOf k e n d ks = wordsI e n) := Lib.hid (by unfold canOf; rw [if_neg (by omega), if_neg h1, if_neg (fun h => h7 ⟨h2, h⟩)])
    obtain ⟨hn0, hn1, he0, he7⟩ : 0 ≤ n ∧ n ≤ 536870911 ∧ 0 ≤ e ∧ e ≤ 7 := by rcases hh with h | h | h <;> omega
    have t2 : (k == 2) = true := by simpa using h2
    clear h1 h7 h2 hh hx hv HV
    go_enter Tryd.func35, Tryd.ntmps35
    go_wp2_with fail
    refine (HI.out _).mono ?_
    rintro r w1 ⟨rfl, hb1⟩
    have HF1 := Lib.hid (HF0.out.below hb1)
    have HB1 := Lib.hid (bel_on HB0.out hb1)
    clear hb1 HF0 HB0 HI
    obtain ⟨x1, y1, z1⟩ := HF1.out
    go_wp2_with fail
    refine (LWords_any e n _ (HT.out.on HB1.out) he0 he7 hn0 hn1).mono ?_
    rintro r w2 ⟨rfl, rfl⟩
    go_wp2
    go_ret
    exact ⟨by rw [HR.out, HC.out]; rfl, HB1.out⟩
  · have HC : Hid (canOf k e n d ks = 0) := Lib.hid (by unfold canOf; rw [if_pos (by rcases hh with h | h | h <;> omega)])
    have t2 : (k == 2) = false := by simpa using h2
    clear h1 h7 h2 hh hx hv HV
    go_enter Tryd.func35, Tryd.ntmps35
    go_wp2_with fail
    refine (HI.out _).mono ?_
    rintro r w1 ⟨rfl, hb1⟩
    have HF1 := Lib.hid (HF0.out.below hb1)
    have HB1 := Lib.hid (bel_on HB0.out hb1)
    clear hb1 HF0 HB0 HI
    obtain ⟨x1, y1, z1⟩ := HF1.out
    go_wp2
    go_ret
    exact ⟨by rw [HR.out, HC.out]; rfl, HB1.out⟩
end Go.Proofs.YtfigoblpkbpenaaDoor
