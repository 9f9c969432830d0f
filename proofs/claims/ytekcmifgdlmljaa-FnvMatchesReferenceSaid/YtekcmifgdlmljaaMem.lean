/- What is known of slices of integers in memory: of one that came in ('Ri'), and of one that the call made ('Got'). -/
import Derived.Test.YtekcmifgdlmljaaNum
import Derived.Below
import Derived.OwnWalk
import Derived.Lib.Hide
import Derived.Deep.Draws
import Derived.Laws.AppendOwnNone
namespace Go.Proofs.Ytekcmifgdlmljaa
open Go.RowKit

/-- at A the numbers zs lie one after the other (nothing is said of A where there are none) -/
def Ri (w : World) (k : IntKind) (A : Option Addr) (zs : List Int) : Prop :=
  zs = [] ∨ ∃ b off, A = some ⟨b, off, none⟩ ∧ ∀ j, j < zs.length → w.cell? ⟨b, off + j, none⟩ = some (.int k (zat zs j))

section
variable {w w' : World} {k : IntKind} {A : Option Addr} {zs : List Int}

theorem Ri.nil (w : World) (k : IntKind) (A : Option Addr) : Ri w k A [] := .inl rfl

theorem Ri.at (h : Ri w k A zs) {i : Nat} (hi : i < zs.length) :
    ∃ b off, A = some ⟨b, off, none⟩ ∧ ∀ j, j < zs.length → w.cell? ⟨b, off + j, none⟩ = some (.int k (zat zs j)) := by
  rcases h with rfl | h
  · simp at hi
  · exact h

theorem Ri.below (h : Ri w k A zs) {B : Nat} (hb : Below B w w') (hB : w.heap.size ≤ B) : Ri w' k A zs := by
  rcases h with rfl | ⟨b, off, rfl, h⟩
  · exact .inl rfl
  · by_cases h0 : 0 < zs.length
    · have hlt : b < w.heap.size := World.block_lt_of_cell? w ⟨b, off + 0, none⟩ (h 0 h0)
      exact .inr ⟨b, off, rfl, fun j hj => (hb.cell (p := ⟨b, off + j, none⟩) (by show b < B; omega)).trans (h j hj)⟩
    · exact .inl (List.eq_nil_of_length_eq_zero (by omega))

theorem Ri.drop (h : Ri w k A zs) {b off n : Nat} (hA : A = some ⟨b, off, none⟩) : Ri w k (some ⟨b, off + n, none⟩) (zs.drop n) := by
  rcases h with rfl | ⟨b', off', hA', h⟩
  · simp; exact .inl rfl
  · subst hA
    injection hA' with e
    injection e with e1 e2
    subst e1
    subst e2
    refine .inr ⟨b, off + n, rfl, fun j hj => ?_⟩
    rw [List.length_drop] at hj
    have := h (n + j) (by omega)
    rw [Nat.add_assoc, this]
    simp [zat, List.getD_eq_getElem?_getD]

theorem Ri.take (h : Ri w k A zs) (n : Nat) : Ri w k A (zs.take n) := by
  rcases h with rfl | ⟨b, off, hA, h⟩
  · simp; exact .inl rfl
  · refine .inr ⟨b, off, hA, fun j hj => ?_⟩
    rw [List.length_take] at hj
    rw [h j (by omega)]
    simp [zat, List.getD_eq_getElem?_getD, show j < n by omega]
end

/-- v is a slice that the call owns (it lies at 'base' or behind it), of the element type E, and its elements are the numbers zs -/
def Got (w : World) (base : Nat) (E : TypeId) (k : IntKind) (v : Value) (zs : List Int) : Prop := w.ownsRow base E 1 v zs.length (zs.map (Value.int k))

section
variable {w w' : World} {base B : Nat} {E : TypeId} {k : IntKind} {v : Value} {zs : List Int}

theorem Got.empty (w : World) (base : Nat) (E : TypeId) (k : IntKind) : Got w base E k (.slice none 0 0) [] := World.ownsRow_nil w base E 1

theorem Got.lt (h : Got w base E k v zs) : ∀ g, v.ownBlock = some g → base ≤ g ∧ g < w.heap.size := World.ownsRow.lt h

theorem Got.below (h : Got w base E k v zs) (hb : Below B w w') (hB : w.heap.size ≤ B) : Got w' base E k v zs := by
  obtain ⟨h1, h2⟩ := h
  refine ⟨h1, ?_⟩
  rcases h2 with h2 | ⟨g, cap, cur, hv, hg, hh, r⟩
  · exact .inl h2
  · refine .inr ⟨g, cap, cur, hv, hg, ?_, r⟩
    have hlt : g < w.heap.size := by
      rcases Nat.lt_or_ge g w.heap.size with hlt | hge
      · exact hlt
      · rw [Array.getElem?_eq_none hge] at hh; cases hh
    rw [hb.block g (by omega)]
    exact hh

theorem Got.mono (h : Got w base E k v zs) {base' : Nat} (hb : base' ≤ base) : Got w base' E k v zs := by
  obtain ⟨h1, h2⟩ := h
  refine ⟨h1, ?_⟩
  rcases h2 with h2 | ⟨g, cap, cur, hv, hg, r⟩
  · exact .inl h2
  · exact .inr ⟨g, cap, cur, hv, by omega, r⟩

theorem Got.slice (h : Got w base E k v zs) : ∃ A cap, v = .slice A zs.length cap ∧ zs.length ≤ cap ∧ cap ≤ maxLen ∧ Ri w k A zs := by
  have h0 := h
  obtain ⟨h1, h2⟩ := h
  rcases h2 with ⟨rfl, hn⟩ | ⟨g, cap, cur, rfl, hg, hh, hc, hm, hs, ht⟩
  · have hz : zs = [] := List.eq_nil_of_length_eq_zero hn
    subst hz
    exact ⟨none, 0, rfl, Nat.le_refl _, Nat.zero_le _, .inl rfl⟩
  · refine ⟨some ⟨g, 0, none⟩, cap, rfl, hc, hm, .inr ⟨g, 0, rfl, fun j hj => ?_⟩⟩
    have := World.ownsRow.cellAt (g := g) (cap := cap) h0 j (by omega)
    rw [Nat.zero_add, this]
    simp [zat, List.getD_eq_getElem?_getD, hj]

/-- a store into a place of it -/
theorem Got.put {g cap : Nat} (h : Got w base E k (.slice (some ⟨g, 0, none⟩) zs.length cap) zs) (j : Nat) (x : Int) :
    Got (w.setCell ⟨g, j, none⟩ (.int k x)) base E k (.slice (some ⟨g, 0, none⟩) zs.length cap) (zs.set j x) := by
  have := (World.ownsRow.stored h j (.int k x)).1
  unfold Got
  simpa [List.map_set] using this

theorem Got.cell {g cap : Nat} (h : Got w base E k (.slice (some ⟨g, 0, none⟩) zs.length cap) zs) (j : Nat) (hj : j < zs.length) :
    w.cell? ⟨g, j, none⟩ = some (.int k (zat zs j)) := by
  rw [World.ownsRow.cellAt h j (by omega)]
  simp [zat, List.getD_eq_getElem?_getD, hj]

theorem Got.free {g cap : Nat} (h : Got w base E k (.slice (some ⟨g, 0, none⟩) zs.length cap) zs) (j : Nat) : w.frozen? ⟨g, j, none⟩ = false :=
  World.ownsRow.frozenAt h j

theorem Got.base_le {g n cap : Nat} (h : Got w base E k (.slice (some ⟨g, 0, none⟩) n cap) zs) : base ≤ g := (h.lt g rfl).1

/-- what make gives: zeros -/
theorem got_made {g n : Nat} (h : w.ownsRow base E 1 (.slice (some ⟨g, 0, none⟩) n n) n (madeCells (Value.int k 0).cells (n * 1)).toList) :
    Got w base E k (.slice (some ⟨g, 0, none⟩) n n) (List.replicate n 0) := by
  have e : (madeCells (Value.int k 0).cells (n * 1)).toList = (List.replicate n (0 : Int)).map (Value.int k) := by
    rw [Nat.mul_one, List.map_replicate]
    exact toList_madeCells_one _ _
  rw [e] at h
  unfold Got
  rw [List.length_replicate]
  exact h

theorem Got.cast {v' : Value} {zs' : List Int} (h : Got w base E k v zs) (hv : v = v') (hz : zs = zs') : Got w base E k v' zs' := by
  subst hv; subst hz; exact h

end

/-- 'append(s, x)': one number behind a slice of the call's own (x stands in a new block of one cell) -/
theorem wpList_app1 {P : Program} {ops : Array Oper} {rest : List Oper} {o : Oper} {a : Act} {Q : Exit → Act → World → Prop} {w : World} (hgd : o.guard = none) (s x : Operand) (t : TypeId)
    (ho : o.op = .call { callee := .builtin .append, args := #[s, x], argTypes := #[t, t] })
    {base : Nat} {e : TypeId} {i : TypeInfo} {k : IntKind} {bytes : Nat} (ht : P.underlying t = some (.slice e)) (hi : P.info? e = some i) (hz : i.zero = some (.int k 0)) (hsize : i.size = 1) (hby : i.bytes = bytes)
    {v : Value} {zs : List Int} {y : Int} (hs : a.eval s = v) (hown : Got w base e k v zs) {T : TypeId} (hx : a.eval x = .slice (some ⟨w.heap.size, 0, none⟩) 1 1)
    (h63 : zs.length + 1 ≤ maxLen) (hbytes : (zs.length + 1) * bytes ≤ 140737488355328) (hbase : base ≤ w.heap.size)
    (h : ∀ v' w', Got w' base e k v' (zs ++ [y]) → Below base w w' → wpList P ops Q rest (a.put o.dst v') w') : wpList P ops Q (o :: rest) a (w.alloc (.cells #[.int k y] T)) := by
  refine wpList_append_own _ hgd s x t ho base e i (.int k 0) 1 bytes ht hi hz hsize hby rfl (by decide) v zs.length (zs.map (Value.int k)) hs (hown.alloc _)
    ⟨w.heap.size, 0, none⟩ 1 1 [.int k y] hx rfl ?_ ?_ h63 hbytes (by simp; omega) ?_
  · intro j u hj
    cases j with
    | zero => simp at hj; subst hj; simp [Addr.add]
    | succ j => simp at hj
  · intro u hu
    simp at hu
    subst hu
    rfl
  · intro v' w' h1 h2 _
    refine h v' w' ?_ ?_
    · unfold Got
      simpa using h1
    · exact ((Below.refl base w).alloc hbase _).grown h2 (by simp; omega) (fun g hg => (hown.lt g hg).1)


theorem Ri.alloc {w : World} {k : IntKind} {A : Option Addr} {zs : List Int} (h : Ri w k A zs) (o : Obj) : Ri (w.alloc o) k A zs :=
  h.below ((Below.refl _ _).alloc (Nat.le_refl _) o) (Nat.le_refl _)
theorem Ri.drew {w : World} {k : IntKind} {A : Option Addr} {zs : List Int} (h : Ri w k A zs) : Ri w.drew k A zs := h
theorem Ri.drewN {w : World} {k : IntKind} {A : Option Addr} {zs : List Int} (h : Ri w k A zs) (n : Nat) : Ri (w.drewN n) k A zs := h
/-- a new block of numbers -/
theorem Ri.lit (w : World) (k : IntKind) (zs : List Int) (T : TypeId) : Ri (w.alloc (.cells (zs.map (Value.int k)).toArray T)) k (some ⟨w.heap.size, 0, none⟩) zs := by
  refine .inr ⟨w.heap.size, 0, rfl, fun j hj => ?_⟩
  rw [World.cell?_alloc_new]
  simp [zat, List.getD_eq_getElem?_getD, hj]

theorem bel_drewN {B : Nat} {a w : World} (h : Below B a w) (n : Nat) : Below B a (w.drewN n) := ⟨h.os, h.tape, h.output, h.size, h.block⟩


/-- a call made on the way changes nothing that was there before -/
theorem bel_on {a b c : World} (h : Below a.heap.size a b) (k : Below b.heap.size b c) : Below a.heap.size a c := h.trans (k.mono h.size)


theorem add_plain (b off j : Nat) : (⟨b, off, none⟩ : Addr).add j = ⟨b, off + j, none⟩ := by
  by_cases h : j = 0
  · subst h; simp [Addr.add]
  · simp [Addr.add, h]

/-- 'append(s, xs...)': the numbers of any slice behind a slice of the call's own -/
theorem wpList_appN {P : Program} {ops : Array Oper} {rest : List Oper} {o : Oper} {a : Act} {Q : Exit → Act → World → Prop} {w : World} (hgd : o.guard = none) (s x : Operand) (t : TypeId)
    (ho : o.op = .call { callee := .builtin .append, args := #[s, x], argTypes := #[t, t] })
    {base : Nat} {e : TypeId} {i : TypeInfo} {k : IntKind} {bytes : Nat} (ht : P.underlying t = some (.slice e)) (hi : P.info? e = some i) (hz : i.zero = some (.int k 0)) (hsize : i.size = 1) (hby : i.bytes = bytes)
    {v : Value} {zs ys : List Int} {A : Option Addr} {c : Nat} (hs : a.eval s = v) (hown : Got w base e k v zs) (hx : a.eval x = .slice A ys.length c) (hr : Ri w k A ys) (hc : A = none → c = 0)
    (h63 : zs.length + ys.length ≤ maxLen) (hbytes : (zs.length + ys.length) * bytes ≤ 140737488355328) (hbase : base ≤ w.heap.size)
    (h : ∀ v' w', Got w' base e k v' (zs ++ ys) → Below base w w' → wpList P ops Q rest (a.put o.dst v') w') : wpList P ops Q (o :: rest) a w := by
  cases A with
  | none =>
    have hy : ys = [] := by
      rcases hr with h0 | ⟨b, off, h0, _⟩
      · exact h0
      · cases h0
    subst hy
    obtain rfl := hc rfl
    exact wpList_append_own_none hgd s x t ho base e i 1 ht hi v zs.length _ hs hown hx (h v w (by simpa using hown) (Below.refl _ _))
  | some ad =>
    refine wpList_append_own _ hgd s x t ho base e i (.int k 0) 1 bytes ht hi hz hsize hby rfl (by decide) v zs.length (zs.map (Value.int k)) hs hown
      ad ys.length c (ys.map (Value.int k)) hx (by simp) ?_ ?_ h63 hbytes hbase ?_
    · intro j u hj
      rcases hr with rfl | ⟨b, off, h0, hcell⟩
      · simp at hj
      · injection h0 with h0
        subst h0
        have hlt : j < ys.length := by
          rcases Nat.lt_or_ge j ys.length with h1 | h1
          · exact h1
          · rw [List.getElem?_eq_none (by simpa using h1)] at hj; cases hj
        have h2 := hcell j hlt
        have e1 : (⟨b, off, none⟩ : Addr).add j = ⟨b, off + j, none⟩ := add_plain b off j
        rw [e1, h2]
        simp [hlt] at hj
        subst hj
        simp [zat, List.getD_eq_getElem?_getD, hlt]
    · intro u hu
      simp at hu
      obtain ⟨z, _, rfl⟩ := hu
      rfl
    · intro v' w' h1 h2 _
      refine h v' w' ?_ ?_
      · unfold Got
        simpa using h1
      · exact (Below.refl base w).grown h2 hbase (fun g hg => (hown.lt g hg).1)

/-- the same, where the length is written as a number -/
theorem wpList_appNn {P : Program} {ops : Array Oper} {rest : List Oper} {o : Oper} {a : Act} {Q : Exit → Act → World → Prop} {w : World} (n : Nat) (hgd : o.guard = none) (s x : Operand) (t : TypeId)
    (ho : o.op = .call { callee := .builtin .append, args := #[s, x], argTypes := #[t, t] })
    {base : Nat} {e : TypeId} {i : TypeInfo} {k : IntKind} {bytes : Nat} (ht : P.underlying t = some (.slice e)) (hi : P.info? e = some i) (hz : i.zero = some (.int k 0)) (hsize : i.size = 1) (hby : i.bytes = bytes)
    {v : Value} {zs ys : List Int} {A : Option Addr} {c : Nat} (hn : n = ys.length) (hs : a.eval s = v) (hown : Got w base e k v zs) (hx : a.eval x = .slice A n c) (hr : Ri w k A ys) (hc : A = none → c = 0)
    (h63 : zs.length + n ≤ maxLen) (hbytes : (zs.length + n) * bytes ≤ 140737488355328) (hbase : base ≤ w.heap.size)
    (h : ∀ v' w', Got w' base e k v' (zs ++ ys) → Below base w w' → wpList P ops Q rest (a.put o.dst v') w') : wpList P ops Q (o :: rest) a w := by
  subst hn
  exact wpList_appN hgd s x t ho ht hi hz hsize hby hs hown hx hr hc h63 hbytes hbase h

/-- an empty slice that the call made -/
theorem Got.empty_made (w : World) {base : Nat} (E : TypeId) (k : IntKind) (hb : base ≤ w.heap.size) : Got (w.alloc (.cells #[] E)) base E k (.slice (some ⟨w.heap.size, 0, none⟩) 0 0) [] :=
  World.ownsRow_made w #[] 0 hb (Nat.zero_le _) rfl


/-- a store into another block -/
theorem Got.far {w : World} {base : Nat} {E : TypeId} {k : IntKind} {v : Value} {zs : List Int} (h : Got w base E k v zs) {p : Addr} (hp : p.block < base) (u : Value) : Got (w.setCell p u) base E k v zs :=
  ownsRow_setCell_below h hp u

theorem Got.addr {w : World} {base : Nat} {E : TypeId} {k : IntKind} {A : Option Addr} {n c : Nat} {zs : List Int} (h : Got w base E k (.slice A n c) zs) (h0 : 0 < n) :
    ∃ g, A = some ⟨g, 0, none⟩ ∧ base ≤ g ∧ g < w.heap.size ∧ n = zs.length := by
  have hl := h.lt
  rcases h.2 with ⟨h1, h2⟩ | ⟨g, cap, cur, h1, hg, hh, _⟩
  · injection h1 with h3 h4
    omega
  · injection h1 with h3 h4
    subst h3
    exact ⟨g, rfl, hg, (hl g rfl).2, h4⟩

theorem Got.ri {w : World} {base : Nat} {E : TypeId} {k : IntKind} {A : Option Addr} {n c : Nat} {zs : List Int} (h : Got w base E k (.slice A n c) zs) : Ri w k A zs ∧ n = zs.length := by
  obtain ⟨A', c', hv, _, _, hr⟩ := h.slice
  injection hv with h1 h2 h3
  subst h1
  exact ⟨hr, h2⟩

/-- a guarded operation whose guard says yes: as if it had none (then the laws of append and make fit) -/
theorem wpList_unguard {P : Program} {ops : Array Oper} {Q : Exit → Act → World → Prop} {a : Act} {w : World} {rest : List Oper} {d : Option Tmp} {op : Op} {t : TypeId} {p : String} {af : Array Edge} {g : Option (Nat × Bool)}
    (hw : Region.wanted { dst := d, op := op, type := t, pos := p, after := af, guard := g } (yielded ops a.tmps) = true)
    (h : wpList P ops Q ({ dst := d, op := op, type := t, pos := p, after := af, guard := none } :: rest) a w) :
    wpList P ops Q ({ dst := d, op := op, type := t, pos := p, after := af, guard := g } :: rest) a w := by
  simp only [wpList, hw] at h ⊢
  exact h

theorem Got.full {w : World} {base : Nat} {E : TypeId} {k : IntKind} {v : Value} {zs : List Int} (h : Got w base E k v zs) : ∃ A cap, v = .slice A zs.length cap ∧ zs.length ≤ cap ∧ cap ≤ maxLen ∧ Ri w k A zs ∧ (A = none → cap = 0) := by
  obtain ⟨A, c, h1, h2, h3, h4⟩ := h.slice
  refine ⟨A, c, h1, h2, h3, h4, fun hA => ?_⟩
  subst hA
  rcases h.2 with ⟨hv, hn⟩ | ⟨g, cap, cur, hv, _⟩
  · rw [h1] at hv
    injection hv
  · rw [h1] at hv
    injection hv with e
    cases e

end Go.Proofs.Ytekcmifgdlmljaa
