/- Blocks of plain cells that are known whole, kept through stores, allocations and calls; a world that is put behind a name. -/
import Derived.Test.YtekcmifgdlmljaaMaps
import Derived.Test.YtekcmifgdlmljaaRef06
namespace Go.Proofs.Ytekcmifgdlmljaa
open Go.ChangeShapes Go.WideShapes Go.ChangeAt Go.RowKit
set_option linter.unusedVariables false
set_option linter.unusedSimpArgs false
set_option maxRecDepth 100000

/-- the block b lies there, none of its cells is frozen, and its cells are cs -/
structure Blk (W : World) (b : Nat) (cs : Array Value) : Prop where
  cell : ∀ o, W.cell? ⟨b, o, none⟩ = cs[o]?
  free : ∀ o, W.frozen? ⟨b, o, none⟩ = false
  lt : b < W.heap.size

section
variable {W W' : World} {b : Nat} {cs : Array Value}

theorem Blk.fresh (W : World) (cs : Array Value) (T : TypeId) : Blk (W.alloc (.cells cs T)) W.heap.size cs :=
  ⟨blk_new W cs T, fun o => by simp, by simp⟩

theorem Blk.new {T : TypeId} (hb : W.heap.size = b) : Blk (W.alloc (.cells cs T)) b cs := hb ▸ Blk.fresh W cs T

theorem Blk.alloc (h : Blk W b cs) (o : Obj) : Blk (W.alloc o) b cs := by
  have hb : Below W.heap.size W (W.alloc o) := (Below.refl _ _).alloc (Nat.le_refl _) o
  have hz := h.lt
  refine ⟨blk_alloc h.cell (by omega) _, fun j => ?_, ?_⟩
  · rw [hb.frozen (p := ⟨b, j, none⟩) (by show b < _; omega)]
    exact h.free j
  · simp; omega

theorem Blk.below (h : Blk W b cs) (hb : Below W.heap.size W W') : Blk W' b cs := by
  have hz := h.lt
  have h2 := hb.size
  refine ⟨blk_below h.cell hb (by omega), fun j => ?_, by omega⟩
  rw [hb.frozen (p := ⟨b, j, none⟩) (by show b < _; omega)]
  exact h.free j

theorem Blk.drewN (h : Blk W b cs) (n : Nat) : Blk (W.drewN n) b cs := ⟨h.cell, h.free, h.lt⟩
theorem Blk.drew (h : Blk W b cs) : Blk W.drew b cs := ⟨h.cell, h.free, h.lt⟩
theorem Blk.belowN (h : Blk W b cs) {N : Nat} (hb : Below N W W') (hN : b < N) : Blk W' b cs := by
  have h2 := hb.size
  have hz := h.lt
  refine ⟨fun j => (hb.cell (p := ⟨b, j, none⟩) hN).trans (h.cell j), fun j => (hb.frozen (p := ⟨b, j, none⟩) hN).trans (h.free j), by omega⟩

theorem blk_set' (x : ∀ o, W.cell? ⟨b, o, none⟩ = cs[o]?) (k : Nat) (hk : k < cs.size) (v : Value) : ∀ o, (W.setCell ⟨b, k, none⟩ v).cell? ⟨b, o, none⟩ = (cs.setIfInBounds k v)[o]? := by
  intro o
  by_cases e : k = o
  · subst e
    rw [World.cell?_setCell_same' _ _ _ (by rw [x k]; simp [hk])]
    simp [hk]
  · rw [World.cell?_setCell_other W ⟨b, k, none⟩ ⟨b, o, none⟩ v (by intro h; injection h with _ h2; exact e h2), x o]
    simp [Array.getElem?_setIfInBounds_ne e]

theorem Blk.set (h : Blk W b cs) (k : Nat) (hk : k < cs.size) (v : Value) : Blk (W.setCell ⟨b, k, none⟩ v) b (cs.setIfInBounds k v) :=
  ⟨blk_set' h.cell k hk v, fun o => by have := h.free o; simpa using this, by have := h.lt; simpa using this⟩

theorem Blk.other (h : Blk W b cs) {p : Addr} (hp : p.block ≠ b) (v : Value) : Blk (W.setCell p v) b cs :=
  ⟨fun o => by rw [World.cell?_setCell_other W p ⟨b, o, none⟩ v (by intro e; rw [e] at hp; exact hp rfl)]; exact h.cell o, fun o => by have := h.free o; simpa using this, by have := h.lt; simpa using this⟩
end

/-- a world at a call is put behind a name; only what F says stays known of it -/
theorem abs_world {P : Program} {f : FuncId} {args : Array Value} {V : World} {Q : Ending → World → Prop} (F : World → Prop) (hF : F V) (h : ∀ W, F W → Calls P f args W Q) : Calls P f args V Q := h V hF
theorem abs_post {P : Program} {fn : Func} {Q : Ending → World → Prop} {e : Exit} {a : Act} {V : World} (F : World → Prop) (hF : F V) (h : ∀ W, F W → bodyPost P fn Q e a W) : bodyPost P fn Q e a V := h V hF
end Go.Proofs.Ytekcmifgdlmljaa
