/- The texts TrimU, TrimB, TrimP, List (what is wanted of them), one after the other. -/
import Derived.Test.YtcmljjhnfpfcfaaDoorMg1
import Derived.Test.YtcmljjhnfpfcfaaDoorMg2
import Derived.Test.YtcmljjhnfpfcfaaDoorMg3
import Derived.Test.YtcmljjhnfpfcfaaDoorMg4
import Derived.Test.YtcmljjhnfpfcfaaDoorMg5
import Derived.Test.YtcmljjhnfpfcfaaDoorMg6
import Derived.Test.YtcmljjhnfpfcfaaDoorMg7
import Derived.Test.YtcmljjhnfpfcfaaDoorMg9
import Derived.Test.YtcmljjhnfpfcfaaDoorMg10
import Derived.Test.YtcmljjhnfpfcfaaDoorMg11
import Derived.Test.YtcmljjhnfpfcfaaDoorMg13
import Derived.Test.YtcmljjhnfpfcfaaDoorMg14
import Derived.Lib.SliceRun
/- A result that may be written into: the blocks of a node that a call gave (within its range, not frozen); bytes and rows that kids may share, under stores. -/
namespace Go.Proofs.YtcmljjhnfpfcfaaDoor
open Go.ChangeShapes Go.WideShapes Go.ChangeAt Go.RowKit
set_option linter.unusedVariables false
set_option linter.unusedSimpArgs false
set_option maxRecDepth 100000

/-- a world whose block b is gone -/
def gone (w : World) (b : Nat) : World := { w with heap := w.heap.setIfInBounds b (.cells #[] 0) }
theorem gone_heap (w : World) (b k : Nat) (h : k ≠ b) : (gone w b).heap[k]? = w.heap[k]? := by
  unfold gone
  rw [Array.getElem?_setIfInBounds_ne (by omega)]
theorem gone_cell (w : World) (b o : Nat) : (gone w b).cell? ⟨b, o, none⟩ = none := by
  unfold gone World.cell?
  by_cases h : b < w.heap.size
  · simp [h]
  · simp [Array.getElem?_eq_none (Nat.le_of_not_lt h), h]
theorem NdO.data {lo hi : Nat} {w : World} {A : Option Addr} {c : Nat} {B : Option Addr} {c2 : Nat} {x : Nd} (h : NdO lo hi w A c B c2 x) (h0 : 0 < x.d.length) : ∃ b off, A = some ⟨b, off, none⟩ ∧ lo ≤ b ∧ b < hi := by
  obtain ⟨k, e, n, d, ks⟩ := x
  obtain ⟨b, off, hA, hc⟩ := h.nd.open.2.2.2.1.at (i := 0) h0
  refine ⟨b, off, hA, Classical.byContradiction fun hn => ?_⟩
  have h1 := h (gone w b) (fun k hk1 hk2 => gone_heap w b k (fun e => hn (e ▸ ⟨hk1, hk2⟩)))
  obtain ⟨b', off', hA', hc'⟩ := h1.open.2.2.2.1.at (i := 0) h0
  rw [hA] at hA'
  injection hA' with e
  injection e with e1 e2
  subst e1
  have := hc' 0 h0
  rw [gone_cell] at this
  cases this
theorem NdO.row {lo hi : Nat} {w : World} {A : Option Addr} {c : Nat} {B : Option Addr} {c2 : Nat} {x : Nd} (h : NdO lo hi w A c B c2 x) {j : Nat} (hj : j < x.ks.length) : ∃ b off, B = some ⟨b, off, none⟩ ∧ lo ≤ b ∧ b < hi := by
  obtain ⟨b, off, A', c', B', c2', hB, h0, -⟩ := h.nd.kidsX.1.at hj
  refine ⟨b, off, hB, Classical.byContradiction fun hn => ?_⟩
  have h1 := h (gone w b) (fun k hk1 hk2 => gone_heap w b k (fun e => hn (e ▸ ⟨hk1, hk2⟩)))
  obtain ⟨b', off', _, _, _, _, hB', h0', -⟩ := h1.kidsX.1.at hj
  rw [hB] at hB'
  injection hB' with e
  injection e with e1 e2
  subst e1
  rw [gone_cell] at h0'
  cases h0'
/-- n bytes at A, in a block from base to top that may be written into -/
def Byt (w : World) (base top : Nat) (A : Option Addr) (n : Nat) : Prop := n = 0 ∨ ∃ b off, A = some ⟨b, off, none⟩ ∧ base ≤ b ∧ b < top ∧ (∀ o, w.frozen? ⟨b, o, none⟩ = false) ∧ ∀ j, j < n → ∃ z : Int, 0 ≤ z ∧ z < 256 ∧ w.cell? ⟨b, off + j, none⟩ = some (.int .u8 z)
/-- the rows of the kids from i on: their slices of bytes are FA, FL, FC -/
def Rws (w : World) (base top b off : Nat) (FA : Nat → Option Addr) (FL FC : Nat → Nat) (i kl : Nat) : Prop := base ≤ b ∧ b < top ∧ (∀ o, w.frozen? ⟨b, o, none⟩ = false) ∧ ∀ j, i ≤ j → j < kl → (∃ k e n : Int, ∃ B l c, w.cell? ⟨b, off + j * 5, none⟩ = some (.int .i64 k) ∧ w.cell? ⟨b, off + j * 5 + 1, none⟩ = some (.int .i64 e) ∧ w.cell? ⟨b, off + j * 5 + 2, none⟩ = some (.int .i64 n) ∧
  w.cell? ⟨b, off + j * 5 + 3, none⟩ = some (.slice (FA j) (FL j) (FC j)) ∧ w.cell? ⟨b, off + j * 5 + 4, none⟩ = some (.slice B l c)) ∧ FL j ≤ FC j ∧ FC j ≤ 9223372036854775807 ∧ Byt w base top (FA j) (FL j)

theorem cell_same {w : World} {p : Addr} {u v : Value} (h : w.cell? p = some u) : (w.setCell p v).cell? p = some v := World.cell?_setCell_same' _ _ _ (by rw [h]; rfl)
theorem cell_diff {w : World} {p q : Addr} {v : Value} (h : p ≠ q) : (w.setCell p v).cell? q = w.cell? q := World.cell?_setCell_other w p q v h

theorem Byt.put {w : World} {base top n : Nat} {A : Option Addr} (h : Byt w base top A n) {p : Addr} {z z' : Int} (hp : w.cell? p = some (.int .u8 z)) (h0 : 0 ≤ z') (h1 : z' < 256) : Byt (w.setCell p (.int .u8 z')) base top A n := by
  rcases h with h | ⟨b, off, hA, hb, ht, hf, hc⟩
  · exact .inl h
  · refine .inr ⟨b, off, hA, hb, ht, fun o => by rw [World.frozen?_setCell]; exact hf o, fun j hj => ?_⟩
    by_cases e : p = ⟨b, off + j, none⟩
    · subst e
      exact ⟨z', h0, h1, cell_same hp⟩
    · obtain ⟨y, h2, h3, h4⟩ := hc j hj
      exact ⟨y, h2, h3, by rw [cell_diff e]; exact h4⟩
theorem Byt.far {w : World} {base top n : Nat} {A : Option Addr} (h : Byt w base top A n) {p : Addr} {u v : Value} (hp : w.cell? p = some u) (hu : ∀ z, u ≠ .int .u8 z) : Byt (w.setCell p v) base top A n := by
  rcases h with h | ⟨b, off, hA, hb, ht, hf, hc⟩
  · exact .inl h
  · refine .inr ⟨b, off, hA, hb, ht, fun o => by rw [World.frozen?_setCell]; exact hf o, fun j hj => ?_⟩
    obtain ⟨y, h2, h3, h4⟩ := hc j hj
    have e : p ≠ ⟨b, off + j, none⟩ := by
      intro e
      subst e
      rw [h4] at hp
      injection hp with hp
      exact hu _ hp.symm
    exact ⟨y, h2, h3, by rw [cell_diff e]; exact h4⟩
theorem Rws.put {w : World} {base top b off i kl : Nat} {FA : Nat → Option Addr} {FL FC : Nat → Nat} (h : Rws w base top b off FA FL FC i kl) {p : Addr} {z z' : Int} (hp : w.cell? p = some (.int .u8 z)) (h0 : 0 ≤ z') (h1 : z' < 256) : Rws (w.setCell p (.int .u8 z')) base top b off FA FL FC i kl := by
  obtain ⟨g1, g2, g3, g4⟩ := h
  refine ⟨g1, g2, fun o => by rw [World.frozen?_setCell]; exact g3 o, fun j hi hj => ?_⟩
  obtain ⟨⟨k, e, n, B, l, c, k0, k1, k2, k3, k4⟩, l1, l2, hb⟩ := g4 j hi hj
  have hd : ∀ q u, w.cell? q = some u → (∀ z, u ≠ .int .u8 z) → (w.setCell p (.int .u8 z')).cell? q = some u := by
    intro q u hq hu
    rw [cell_diff (fun e => by subst e; rw [hp] at hq; injection hq with hq; exact hu _ hq.symm), hq]
  exact ⟨⟨k, e, n, B, l, c, hd _ _ k0 (fun z h => by cases h), hd _ _ k1 (fun z h => by cases h), hd _ _ k2 (fun z h => by cases h), hd _ _ k3 (fun z h => by cases h), hd _ _ k4 (fun z h => by cases h)⟩, l1, l2, hb.put hp h0 h1⟩
/-- a store into a cell of row i that holds no byte -/
theorem Rws.cell {w : World} {base top b off i kl o : Nat} {FA : Nat → Option Addr} {FL FC : Nat → Nat} (h : Rws w base top b off FA FL FC (i + 1) kl) (ho : o < 5) {u v : Value} (hp : w.cell? ⟨b, off + i * 5 + o, none⟩ = some u) (hu : ∀ z, u ≠ .int .u8 z) : Rws (w.setCell ⟨b, off + i * 5 + o, none⟩ v) base top b off FA FL FC (i + 1) kl := by
  obtain ⟨g1, g2, g3, g4⟩ := h
  refine ⟨g1, g2, fun o => by rw [World.frozen?_setCell]; exact g3 o, fun j hi hj => ?_⟩
  obtain ⟨⟨k, e, n, B, l, c, k0, k1, k2, k3, k4⟩, l1, l2, hb⟩ := g4 j hi hj
  have hd : ∀ q, off + i * 5 + o < q → (w.setCell ⟨b, off + i * 5 + o, none⟩ v).cell? ⟨b, q, none⟩ = w.cell? ⟨b, q, none⟩ := by
    intro q hq
    exact cell_diff (fun e => by injection e with e1 e2; omega)
  exact ⟨⟨k, e, n, B, l, c, by rw [hd _ (by omega)]; exact k0, by rw [hd _ (by omega)]; exact k1, by rw [hd _ (by omega)]; exact k2, by rw [hd _ (by omega)]; exact k3, by rw [hd _ (by omega)]; exact k4⟩, l1, l2, hb.far hp hu⟩
/-- row i is written anew -/
theorem Rws.next {w : World} {base top b off i kl : Nat} {FA : Nat → Option Addr} {FL FC : Nat → Nat} (h : Rws w base top b off FA FL FC i kl) (hi : i < kl) (v0 v1 v2 : Int) (A3 : Option Addr) (l3 c3 : Nat) (v4 : Value) :
    Rws (((((w.setCell ⟨b, off + i * 5, none⟩ (.int .i64 v0)).setCell ⟨b, off + i * 5 + 1, none⟩ (.int .i64 v1)).setCell ⟨b, off + i * 5 + 2, none⟩ (.int .i64 v2)).setCell ⟨b, off + i * 5 + 3, none⟩ (.slice A3 l3 c3)).setCell ⟨b, off + i * 5 + 4, none⟩ v4) base top b off FA FL FC (i + 1) kl := by
  obtain ⟨⟨k, e, n, B, l, c, k0, k1, k2, k3, k4⟩, -, -, -⟩ := h.2.2.2 i (Nat.le_refl _) hi
  have h1 : Rws w base top b off FA FL FC (i + 1) kl := ⟨h.1, h.2.1, h.2.2.1, fun j hj => h.2.2.2 j (by omega)⟩
  have d : ∀ (w : World) (p q : Nat) v, p ≠ q → (w.setCell ⟨b, p, none⟩ v).cell? ⟨b, q, none⟩ = w.cell? ⟨b, q, none⟩ := fun w p q v hpq => cell_diff (fun e => by injection e with e1 e2; exact hpq e2)
  refine (((((h1.cell (o := 0) (by omega) k0 (fun z h => by cases h)).cell (o := 1) (u := .int .i64 e) (by omega) ?_ (fun z h => by cases h)).cell (o := 2) (u := .int .i64 n) (by omega) ?_ (fun z h => by cases h)).cell (o := 3) (u := .slice (FA i) (FL i) (FC i)) (by omega) ?_ (fun z h => by cases h)).cell (o := 4) (u := .slice B l c) (by omega) ?_ (fun z h => by cases h))
  · rw [d _ _ _ _ (by omega)]; exact k1
  · rw [d _ _ _ _ (by omega), d _ _ _ _ (by omega)]; exact k2
  · rw [d _ _ _ _ (by omega), d _ _ _ _ (by omega), d _ _ _ _ (by omega)]; exact k3
  · rw [d _ _ _ _ (by omega), d _ _ _ _ (by omega), d _ _ _ _ (by omega), d _ _ _ _ (by omega)]; exact k4
theorem Byt.below {w w' : World} {base top n N : Nat} {A : Option Addr} (h : Byt w base top A n) (hb : Below N w w') (hN : top ≤ N) : Byt w' base top A n := by
  rcases h with h | ⟨b, off, hA, h1, h2, hf, hc⟩
  · exact .inl h
  · refine .inr ⟨b, off, hA, h1, h2, fun o => ?_, fun j hj => ?_⟩
    · rw [hb.frozen (p := ⟨b, o, none⟩) (by show b < N; omega)]; exact hf o
    · obtain ⟨z, z0, z1, hz⟩ := hc j hj
      exact ⟨z, z0, z1, by rw [hb.cell (p := ⟨b, off + j, none⟩) (by show b < N; omega)]; exact hz⟩
theorem Rws.below {w w' : World} {base top b off i kl N : Nat} {FA : Nat → Option Addr} {FL FC : Nat → Nat} (h : Rws w base top b off FA FL FC i kl) (hb : Below N w w') (hN : top ≤ N) : Rws w' base top b off FA FL FC i kl := by
  obtain ⟨g1, g2, g3, g4⟩ := h
  refine ⟨g1, g2, fun o => by rw [hb.frozen (p := ⟨b, o, none⟩) (by show b < N; omega)]; exact g3 o, fun j hi hj => ?_⟩
  obtain ⟨⟨k, e, n, B, l, c, k0, k1, k2, k3, k4⟩, l1, l2, hbt⟩ := g4 j hi hj
  have hc := fun o => hb.cell (p := ⟨b, o, none⟩) (by show b < N; omega)
  exact ⟨⟨k, e, n, B, l, c, (hc _).trans k0, (hc _).trans k1, (hc _).trans k2, (hc _).trans k3, (hc _).trans k4⟩, l1, l2, hbt.below hb hN⟩
end Go.Proofs.YtcmljjhnfpfcfaaDoor

/- Package trim: a row of trimmed nodes that is filled place by place, and Trim itself. -/
namespace Go.Proofs.YtcmljjhnfpfcfaaDoor
open Go.ChangeShapes Go.WideShapes Go.ChangeAt Go.RowKit
set_option linter.unusedVariables false
set_option linter.unusedSimpArgs false
set_option maxRecDepth 100000

theorem KsR.take {w : World} {B : Option Addr} {ts : List Nd} (h : KsR w B ts) (K : Nat) : KsR w B (ts.take K) := by
  rcases h with rfl | ⟨b, off, hB, h⟩
  · exact .inl (by simp)
  · refine .inr ⟨b, off, hB, fun j hj => ?_⟩
    rw [List.length_take] at hj
    have := h j (by omega)
    rw [List.getElem_take]
    exact this

/-- the block at A lies there and may be written into -/
def Unv (w : World) (A : Option Addr) : Prop := ∀ b off, A = some ⟨b, off, none⟩ → b < w.heap.size ∧ ∀ o, w.frozen? ⟨b, o, none⟩ = false
theorem Unv.below {w w' : World} {A : Option Addr} (h : Unv w A) {N : Nat} (hb : Below N w w') (hN : w.heap.size ≤ N) : Unv w' A := by
  intro b off e
  obtain ⟨h1, h2⟩ := h b off e
  exact ⟨Nat.lt_of_lt_of_le h1 hb.size, fun o => by rw [hb.frozen (p := ⟨b, o, none⟩) (by show b < N; omega)]; exact h2 o⟩
theorem Unv.set {w : World} {A : Option Addr} (h : Unv w A) (p : Addr) (v : Value) : Unv (w.setCell p v) A := by
  intro b off e
  obtain ⟨h1, h2⟩ := h b off e
  exact ⟨by simpa using h1, fun o => by rw [World.frozen?_setCell]; exact h2 o⟩

/-- a row of n nodes in the block q; the first i hold the nodes of ts, whose parts lie behind q -/
structure RowT (q n i : Nat) (ts : List Nd) (W : World) : Prop where
  cell : ∀ o, o < n * 5 → ∃ u, W.cell? ⟨q, o, none⟩ = some u
  free : ∀ o, W.frozen? ⟨q, o, none⟩ = false
  lt : q < W.heap.size
  done : ∀ j (hj : j < ts.length), j < i → ∃ A' c' B' c2' lo hi, q < lo ∧ hi ≤ W.heap.size ∧ NdO lo hi W A' c' B' c2' (ts[j]) ∧ Unv W A' ∧ ∀ o, o < 5 → W.cell? ⟨q, j * 5 + o, none⟩ = (fiveC (ts[j]) A' c' B' c2')[o]?
theorem RowT.below {q n i : Nat} {ts : List Nd} {W W' : World} (h : RowT q n i ts W) {N : Nat} (hb : Below N W W') (hN : W.heap.size ≤ N) : RowT q n i ts W' := by
  have hlt := h.lt
  have hc : ∀ o, W'.cell? ⟨q, o, none⟩ = W.cell? ⟨q, o, none⟩ := fun o => hb.cell (p := ⟨q, o, none⟩) (by show q < N; omega)
  refine ⟨fun o ho => ?_, fun o => ?_, Nat.lt_of_lt_of_le hlt hb.size, fun j hj hi => ?_⟩
  · obtain ⟨u, hu⟩ := h.cell o ho
    exact ⟨u, (hc o).trans hu⟩
  · rw [hb.frozen (p := ⟨q, o, none⟩) (by show q < N; omega)]
    exact h.free o
  · obtain ⟨A', c', B', c2', lo, hi', h1, h2, h3, h4, h5⟩ := h.done j hj hi
    exact ⟨A', c', B', c2', lo, hi', h1, Nat.le_trans h2 hb.size, h3.below hb (by omega), h4.below hb hN, fun o ho => (hc _).trans (h5 o ho)⟩
theorem RowT.set {q n i : Nat} {ts : List Nd} {W : World} (h : RowT q n i ts W) {p : Nat} (hp : i * 5 ≤ p) (v : Value) : RowT q n i ts (W.setCell ⟨q, p, none⟩ v) := by
  have hd : ∀ o, p ≠ o → (W.setCell ⟨q, p, none⟩ v).cell? ⟨q, o, none⟩ = W.cell? ⟨q, o, none⟩ := fun o ho => cell_diff (fun e => by injection e with e1 e2; exact ho e2)
  refine ⟨fun o ho => ?_, fun o => by rw [World.frozen?_setCell]; exact h.free o, by simpa using h.lt, fun j hj hi => ?_⟩
  · obtain ⟨u, hu⟩ := h.cell o ho
    by_cases e : p = o
    · subst e
      exact ⟨v, cell_same hu⟩
    · exact ⟨u, (hd o e).trans hu⟩
  · obtain ⟨A', c', B', c2', lo, hi', h1, h2, h3, h4, h5⟩ := h.done j hj hi
    exact ⟨A', c', B', c2', lo, hi', h1, by simpa using h2, h3.to fun k k1 _ => Below.heap_setCell _ _ _ _ (by show k ≠ q; omega), h4.set _ _, fun o ho => (hd _ (by omega)).trans (h5 o ho)⟩
/-- a store into a block before the row -/
theorem RowT.other {q n i : Nat} {ts : List Nd} {W : World} (h : RowT q n i ts W) {p : Addr} (hp : p.block < q) (v : Value) : RowT q n i ts (W.setCell p v) := by
  have hd : ∀ o, (W.setCell p v).cell? ⟨q, o, none⟩ = W.cell? ⟨q, o, none⟩ := fun o => cell_diff (fun e => by subst e; exact Nat.lt_irrefl _ hp)
  refine ⟨fun o ho => ?_, fun o => by rw [World.frozen?_setCell]; exact h.free o, by simpa using h.lt, fun j hj hi => ?_⟩
  · obtain ⟨u, hu⟩ := h.cell o ho
    exact ⟨u, (hd o).trans hu⟩
  · obtain ⟨A', c', B', c2', lo, hi', h1, h2, h3, h4, h5⟩ := h.done j hj hi
    exact ⟨A', c', B', c2', lo, hi', h1, by simpa using h2, h3.to fun k k1 _ => Below.heap_setCell _ _ _ _ (by omega), h4.set _ _, fun o ho => (hd _).trans (h5 o ho)⟩
/-- one place more -/
theorem RowT.next {q n i : Nat} {ts : List Nd} {W : World} (h : RowT q n i ts W) (hn : i < n) (hl : i < ts.length) {A' : Option Addr} {c' : Nat} {B' : Option Addr} {c2' lo hi : Nat} (h1 : q < lo) (h2 : hi ≤ W.heap.size) (h3 : NdO lo hi W A' c' B' c2' (ts[i])) (h4 : Unv W A') :
    RowT q n (i + 1) ts (((((W.setCell ⟨q, i * 5, none⟩ (.int .i64 (ts[i]).k)).setCell ⟨q, i * 5 + 1, none⟩ (.int .i64 (ts[i]).e)).setCell ⟨q, i * 5 + 2, none⟩ (.int .i64 (ts[i]).n)).setCell ⟨q, i * 5 + 3, none⟩ (.slice A' (ts[i]).d.length c')).setCell ⟨q, i * 5 + 4, none⟩ (.slice B' (ts[i]).ks.length c2')) := by
  have hr := ((((h.set (p := i * 5) (by omega) (.int .i64 (ts[i]).k)).set (p := i * 5 + 1) (by omega) (.int .i64 (ts[i]).e)).set (p := i * 5 + 2) (by omega) (.int .i64 (ts[i]).n)).set (p := i * 5 + 3) (by omega) (.slice A' (ts[i]).d.length c')).set (p := i * 5 + 4) (by omega) (.slice B' (ts[i]).ks.length c2')
  refine ⟨hr.cell, hr.free, hr.lt, fun j hj hi2 => ?_⟩
  by_cases e : j < i
  · exact hr.done j hj e
  obtain rfl : j = i := by omega
  have hg : ∀ (w : World) k p v, lo ≤ k → (w.setCell ⟨q, p, none⟩ v).heap[k]? = w.heap[k]? := fun w k p v hk => Below.heap_setCell _ _ _ _ (by show k ≠ q; omega)
  refine ⟨A', c', B', c2', lo, hi, h1, by simpa using h2, h3.to fun k k1 _ => by rw [hg _ _ _ _ k1, hg _ _ _ _ k1, hg _ _ _ _ k1, hg _ _ _ _ k1, hg _ _ _ _ k1], ((((h4.set _ _).set _ _).set _ _).set _ _).set _ _, fun o ho => ?_⟩
  have d : ∀ (w : World) (p r : Nat) v, p ≠ r → (w.setCell ⟨q, p, none⟩ v).cell? ⟨q, r, none⟩ = w.cell? ⟨q, r, none⟩ := fun w p r v hpr => cell_diff (fun e => by injection e with e1 e2; exact hpr e2)
  have c0 := fun o (ho : o < 5) => h.cell (j * 5 + o) (by omega)
  have : o = 0 ∨ o = 1 ∨ o = 2 ∨ o = 3 ∨ o = 4 := by omega
  rcases this with rfl | rfl | rfl | rfl | rfl
  · obtain ⟨u, hu⟩ := c0 0 (by omega)
    rw [d _ _ _ _ (by omega), d _ _ _ _ (by omega), d _ _ _ _ (by omega), d _ _ _ _ (by omega)]
    exact cell_same hu
  · obtain ⟨u, hu⟩ := c0 1 (by omega)
    rw [d _ _ _ _ (by omega), d _ _ _ _ (by omega), d _ _ _ _ (by omega)]
    exact cell_same (u := u) (by rw [d _ _ _ _ (by omega)]; exact hu)
  · obtain ⟨u, hu⟩ := c0 2 (by omega)
    rw [d _ _ _ _ (by omega), d _ _ _ _ (by omega)]
    exact cell_same (u := u) (by rw [d _ _ _ _ (by omega), d _ _ _ _ (by omega)]; exact hu)
  · obtain ⟨u, hu⟩ := c0 3 (by omega)
    rw [d _ _ _ _ (by omega)]
    exact cell_same (u := u) (by rw [d _ _ _ _ (by omega), d _ _ _ _ (by omega), d _ _ _ _ (by omega)]; exact hu)
  · obtain ⟨u, hu⟩ := c0 4 (by omega)
    exact cell_same (u := u) (by rw [d _ _ _ _ (by omega), d _ _ _ _ (by omega), d _ _ _ _ (by omega), d _ _ _ _ (by omega)]; exact hu)
/-- a new row -/
theorem RowT.made {q n base : Nat} {ts : List Nd} {W : World} {vs : List Value} (h : W.ownsRow base 25 5 (.slice (some ⟨q, 0, none⟩) n n) n vs) : RowT q n 0 ts W := by
  refine ⟨fun o ho => ?_, fun o => World.ownsRow.frozenAt h o, (h.lt q rfl).2, fun j hj h0 => by omega⟩
  have hl : o < vs.length := by rw [h.1]; exact ho
  exact ⟨vs[o], by rw [World.ownsRow.cellAt h o ho, List.getElem?_eq_getElem hl]⟩

/-- a node whose kids are such a row -/
theorem RowT.node {q n base : Nat} {ts : List Nd} {W : World} (h : RowT q n n ts W) (hq : base ≤ q) (hl : ts.length = n) (hm : n ≤ maxLen) {k e m : Int} {d : List Int} {A : Option Addr} {c : Nat}
    (hk : -9223372036854775808 ≤ k ∧ k ≤ 9223372036854775807) (he : -9223372036854775808 ≤ e ∧ e ≤ 9223372036854775807) (hn : -9223372036854775808 ≤ m ∧ m ≤ 9223372036854775807)
    (hd : Got W base 5 .u8 (.slice A d.length c) d) (hby : Bts d) : NdO base W.heap.size W A c (some ⟨q, 0, none⟩) n (.mk k e m d ts) := by
  intro V hV
  have hdV : Got V base 5 .u8 (.slice A d.length c) d := got_agree hd fun g h1 h2 => hV g h1 h2
  obtain ⟨A0, c0, he0, hc0, hm0, hri, hnil⟩ := hdV.full
  injection he0 with e1 e2 e3
  subst e1 e3
  have hcell : ∀ o, V.cell? ⟨q, o, none⟩ = W.cell? ⟨q, o, none⟩ := fun o => World.cell?_of_block (w := W) (hV q hq h.lt)
  have hkid : ∀ j (hj : j < ts.length), ∃ A' c' B' c2', NdR V A' c' B' c2' (ts[j]) ∧ ∀ o, o < 5 → V.cell? ⟨q, j * 5 + o, none⟩ = (fiveC (ts[j]) A' c' B' c2')[o]? := by
    intro j hj
    obtain ⟨A', c', B', c2', lo, hi, k1, k2, k3, k4, k5⟩ := h.done j hj (by omega)
    exact ⟨A', c', B', c2', k3 V fun g g1 g2 => hV g (by omega) (by omega), fun o ho => (hcell _).trans (k5 o ho)⟩
  refine .mk k e m d ts A c _ n (fun j => if h : j < ts.length then Classical.choose (hkid j h) else none)
    (fun j => if h : j < ts.length then Classical.choose (Classical.choose_spec (hkid j h)) else 0)
    (fun j => if h : j < ts.length then Classical.choose (Classical.choose_spec (Classical.choose_spec (hkid j h))) else none)
    (fun j => if h : j < ts.length then Classical.choose (Classical.choose_spec (Classical.choose_spec (Classical.choose_spec (hkid j h)))) else 0)
    hk he hn hri hby hc0 hm0 hnil (by omega) hm (fun h => by cases h) ?_ ?_
  · refine .inr ⟨q, 0, rfl, fun j x hj => ?_⟩
    have hjl : j < ts.length := (List.getElem?_eq_some_iff.1 hj).1
    obtain rfl : ts[j] = x := (List.getElem?_eq_some_iff.1 hj).2
    have hspec := Classical.choose_spec (Classical.choose_spec (Classical.choose_spec (Classical.choose_spec (hkid j hjl))))
    simp only [dif_pos hjl, Nat.zero_add]
    exact ⟨hspec.2 0 (by omega), hspec.2 1 (by omega), hspec.2 2 (by omega), hspec.2 3 (by omega), hspec.2 4 (by omega)⟩
  · intro j x hj
    have hjl : j < ts.length := (List.getElem?_eq_some_iff.1 hj).1
    obtain rfl : ts[j] = x := (List.getElem?_eq_some_iff.1 hj).2
    have hspec := Classical.choose_spec (Classical.choose_spec (Classical.choose_spec (Classical.choose_spec (hkid j hjl))))
    simp only [dif_pos hjl]
    exact hspec.1
end Go.Proofs.YtcmljjhnfpfcfaaDoor

/- What the functions of package trim do, each by a contract (by the code at dec6d4d). -/
namespace Go.Proofs.YtcmljjhnfpfcfaaDoor
open Go.ChangeShapes Go.WideShapes Go.ChangeAt Go.RowKit
set_option linter.unusedVariables false
set_option linter.unusedSimpArgs false
set_option maxRecDepth 100000

/-- promised of composite lists -/
theorem TUniform_any (x : Nd) (A : Option Addr) (c : Nat) (B : Option Addr) (c2 : Nat) (w : World) (hT : TabOK w) (hx : NdR w A c B c2 x) (hs : sizeN x ≤ 1099511627776) (hv : validN x = true) (hk : x.k = 2) (he : x.e = 7) :
    Calls Tryd.prog 25 #[.agg #[.int .i64 x.k, .int .i64 x.e, .int .i64 x.n, .slice A x.d.length c, .slice B x.ks.length c2]] w fun r w' => r = .returned (.tuple #[.int .i64 (uniD x.ks x.ks.length), .int .i64 (uniP x.ks x.ks.length)]) ∧ Below w.heap.size w w' :=
  trimUniform_any x A c B c2 w hx hs
end Go.Proofs.YtcmljjhnfpfcfaaDoor

/- What the functions of package listsize do, each by a contract (by the code at a4747f4). -/
namespace Go.Proofs.YtcmljjhnfpfcfaaDoor
open Go.ChangeShapes Go.WideShapes Go.ChangeAt Go.RowKit
set_option linter.unusedVariables false
set_option linter.unusedSimpArgs false
set_option maxRecDepth 100000

theorem elemZ_bits (k : Nat) (h : k ≤ 7) : elemZ.getD k 0 = bitsI k := by
  rcases (by omega : k = 0 ∨ k = 1 ∨ k = 2 ∨ k = 3 ∨ k = 4 ∨ k = 5 ∨ k = 6 ∨ k = 7) with h | h | h | h | h | h | h | h <;> subst h <;> rfl

theorem LBits_any (e : Int) (w : World) (hT : TabOK w) (h0 : 0 ≤ e) (h7 : e ≤ 7) : Calls Tryd.prog 56 #[.int .i64 e] w fun r w' => r = .returned (.int .i64 (bitsI e)) ∧ w = w' := by
  obtain ⟨k, rfl⟩ := Int.eq_ofNat_of_zero_le h0
  have hk : k ≤ 7 := by omega
  have hc := hT k (by omega)
  rw [elemZ_bits k hk] at hc
  have HT := Lib.hid hT
  generalize bitsI k = x at *
  clear hT
  go_enter Tryd.func56, Tryd.ntmps56
  go_wp2
  go_ret
  exact ⟨rfl, rfl⟩

theorem totalBits_any (e c : Int) (w : World) (hT : TabOK w) (h0 : 0 ≤ e) (h7 : e ≤ 7) (hc : 0 ≤ c) (h1 : c ≤ 536870911) : Calls Tryd.prog 50 #[.int .i64 e, .int .i64 c] w fun r w' => r = .returned (.int .i64 (bitsI e * c)) ∧ w = w' := by
  have HB := Lib.hid (LBits_any e w hT h0 h7)
  obtain ⟨m0, m1⟩ := bitsI_mul e c hc
  clear hT
  generalize bitsI e = x at *
  go_enter Tryd.func50, Tryd.ntmps50
  go_wp2_with fail
  refine HB.out.mono ?_
  rintro e w' ⟨rfl, rfl⟩
  go_wp2
  go_ret
  exact ⟨rfl, rfl⟩

theorem units_any (e c s : Int) (w : World) (hT : TabOK w) (h0 : 0 ≤ e) (h7 : e ≤ 7) (hc : 0 ≤ c) (h1 : c ≤ 536870911) (hs : s = 8 ∨ s = 64) : Calls Tryd.prog 41 #[.int .i64 e, .int .i64 c, .int .i64 s] w fun r w' => r = .returned (.int .i64 ((bitsI e * c + s - 1) / s)) ∧ w = w' := by
  have HB := Lib.hid (totalBits_any e c w hT h0 h7 hc h1)
  obtain ⟨m0, m1⟩ := bitsI_mul e c hc
  clear hT
  generalize bitsI e * c = x at *
  rcases hs with rfl | rfl
  all_goals
    go_enter Tryd.func41, Tryd.ntmps41
    go_wp2_with fail
    refine HB.out.mono ?_
    rintro e w' ⟨rfl, rfl⟩
    go_wp2
    go_ret
    exact ⟨rfl, rfl⟩

theorem LWords_any (e c : Int) (w : World) (hT : TabOK w) (h0 : 0 ≤ e) (h7 : e ≤ 7) (hc : 0 ≤ c) (h1 : c ≤ 536870911) : Calls Tryd.prog 26 #[.int .i64 e, .int .i64 c] w fun r w' => r = .returned (.int .i64 (wordsI e c)) ∧ w = w' := by
  by_cases he : e = 7
  · subst he
    have HW : Hid (wordsI 7 c = 1 + c) := Lib.hid (by unfold wordsI; rw [if_pos rfl]; omega)
    clear hT
    go_enter Tryd.func26, Tryd.ntmps26
    go_wp2
    go_ret
    exact ⟨by rw [HW.out]; rfl, rfl⟩
  · have HW : Hid (wordsI e c = (bitsI e * c + 64 - 1) / 64) := Lib.hid (by unfold wordsI; rw [if_neg he]; omega)
    have HB := Lib.hid (units_any e c 64 w hT h0 h7 hc h1 (.inr rfl))
    have he2 : (e == 7) = false := beq_eq_false_iff_ne.2 he
    clear hT he
    rw [← HW.out] at HB
    generalize wordsI e c = x at *
    go_enter Tryd.func26, Tryd.ntmps26
    go_wp2_with fail
    refine HB.out.mono ?_
    rintro e w' ⟨rfl, rfl⟩
    go_wp2
    go_ret
    exact ⟨rfl, rfl⟩

/-! ## Trim -/
attribute [local irreducible] p2

end Go.Proofs.YtcmljjhnfpfcfaaDoor
