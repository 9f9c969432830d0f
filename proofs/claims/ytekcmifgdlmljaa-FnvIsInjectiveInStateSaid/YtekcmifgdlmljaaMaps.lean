/- Maps with integer keys whose entries are written out: the run of an insertion, of a look-up. Nothing of the program's text is named here. -/
import Derived.Test.YtekcmifgdlmljaaMem
import Derived.WideMake
import Derived.MapKept
import Derived.Maps.Own
namespace Go.Proofs.Ytekcmifgdlmljaa
set_option linter.unusedVariables false
set_option linter.unusedSimpArgs false
set_option maxRecDepth 100000
open Go.RowKit

theorem alloc_setAt (w : World) (o o' : Obj) : { (w.alloc o) with heap := (w.alloc o).heap.setIfInBounds w.heap.size o' } = w.alloc o' := by
  unfold World.alloc
  simp only [World.mk.injEq, and_true]
  apply Array.ext'
  simp

theorem run_insert_new {P : Program} (w : World) (t k e : TypeId) (es : Array MapEntry) (clock : Nat) (key : Int) (val : Value) (ht : P.underlying t = some (.map k e)) (hk : P.underlying k = some (.int .i64))
    (hf : Instr.findNow (.int .i64) (.int .i64 key) es.toList 0 = some none) :
    (Instr.mapUpdate t (.map (some w.heap.size)) (.int .i64 key) val).run P (w.alloc (.map es clock)) = .ok () (w.alloc (.map (es.push { key := .int .i64 key, val := val, born := clock }) (clock + 1))) := by
  have hc : (Instr.checkKey false 10000 k (.int .i64 key)).run P (w.alloc (.map es clock)) = .ok () (w.alloc (.map es clock)) := MapKept.run_checkKey hk (by simp [MapKept.IsKey]) false 9999
  have hb : (w.alloc (.map es clock)).heap[w.heap.size]? = some (.map es clock) := by unfold World.alloc; simp
  simp [Instr.mapUpdate, run_underlying ht, MapKept.run_getObj_map hb, hc, MapKept.run_findKey hk hf, MapKept.run_setObj_map _ hb, Result.andThen]
  exact alloc_setAt w _ _

theorem wpList_insert_new {P : Program} {ops : Array Oper} {rest : List Oper} {o : Oper} {a : Act} {Q : Exit → Act → World → Prop} {w : World} (hg : o.guard = none) (m x v : Operand) (t : TypeId)
    (hop : o.op = Op.insert t m x v) (k e : TypeId) (ht : P.underlying t = some (.map k e)) (hk : P.underlying k = some (.int .i64)) (es : Array MapEntry) (clock : Nat) (key : Int) (val : Value)
    (hm : a.eval m = .map (some w.heap.size)) (hx : a.eval x = .int .i64 key) (hv : a.eval v = val) (hf : Instr.findNow (.int .i64) (.int .i64 key) es.toList 0 = some none)
    (hK : wpList P ops Q rest (a.put o.dst undef) (w.alloc (.map (es.push { key := .int .i64 key, val := val, born := clock }) (clock + 1)))) :
    wpList P ops Q (o :: rest) a (w.alloc (.map es clock)) := by
  refine wpList_plain hg fun K' hK' => ?_
  unfold Oper.wp
  simp [execOp, hop, hm, hx, hv, run_insert_new w t k e es clock key val ht hk hf, Result.andThen]
  exact hK' _ _ hK

theorem run_lookup_yes {P : Program} (w : World) (t k e : TypeId) (r : Nat) (es : Array MapEntry) (clock : Nat) (key : Int) (i : Nat) (v : Value) (ht : P.underlying t = some (.map k e)) (hk : P.underlying k = some (.int .i64))
    (hb : w.heap[r]? = some (.map es clock)) (hf : Instr.findNow (.int .i64) (.int .i64 key) es.toList 0 = some (some (i, v))) :
    (Instr.lookup t (.map (some r)) (.int .i64 key) true).run P w = .ok (.tuple #[v, .bool true]) w := by
  have hc : (Instr.checkKey es.isEmpty 10000 k (.int .i64 key)).run P w = .ok () w := MapKept.run_checkKey hk (by simp [MapKept.IsKey]) _ 9999
  simp [Instr.lookup, run_underlying ht, MapKept.run_getObj_map hb, hc, MapKept.run_findKey hk hf, Result.andThen]

theorem run_lookup_no {P : Program} (w : World) (t k e : TypeId) (r : Nat) (es : Array MapEntry) (clock : Nat) (key : Int) (z : Value) (ht : P.underlying t = some (.map k e)) (hk : P.underlying k = some (.int .i64))
    (hb : w.heap[r]? = some (.map es clock)) (hf : Instr.findNow (.int .i64) (.int .i64 key) es.toList 0 = some none) (hz : (zeroValue e).run P w = .ok z w) :
    (Instr.lookup t (.map (some r)) (.int .i64 key) true).run P w = .ok (.tuple #[z, .bool false]) w := by
  have hc : (Instr.checkKey es.isEmpty 10000 k (.int .i64 key)).run P w = .ok () w := MapKept.run_checkKey hk (by simp [MapKept.IsKey]) _ 9999
  simp [Instr.lookup, run_underlying ht, MapKept.run_getObj_map hb, hc, MapKept.run_findKey hk hf, hz, Result.andThen]

/-- r is a map of the entries -/
def IsMap (es : Array MapEntry) (clock : Nat) (v : Value) (w : World) : Prop := ∃ r, v = .map (some r) ∧ w.heap[r]? = some (.map es clock)
theorem IsMap.below {es : Array MapEntry} {clock : Nat} {v : Value} {w w' : World} (h : IsMap es clock v w) (hb : Below w.heap.size w w') : IsMap es clock v w' := by
  obtain ⟨r, rfl, h⟩ := h
  refine ⟨r, rfl, ?_⟩
  have hlt : r < w.heap.size := by
    rcases Nat.lt_or_ge r w.heap.size with hlt | hge
    · exact hlt
    · rw [Array.getElem?_eq_none hge] at h; cases h
  rw [hb.block r hlt]
  exact h

theorem bel_drew {B : Nat} {a w : World} (h : Below B a w) : Below B a w.drew := ⟨h.os, h.tape, h.output, h.size, h.block⟩
theorem bcell {W w1 : World} (hb : Below W.heap.size W w1) : (∀ b o, b < W.heap.size → w1.cell? ⟨b, o, none⟩ = W.cell? ⟨b, o, none⟩) ∧ (∀ b o, b < W.heap.size → w1.frozen? ⟨b, o, none⟩ = W.frozen? ⟨b, o, none⟩) :=
  ⟨fun b o h => hb.cell (p := ⟨b, o, none⟩) h, fun b o h => hb.frozen (p := ⟨b, o, none⟩) h⟩
/-! ## A block that is known whole: '∀ o, w.cell? ⟨b, o, none⟩ = cs[o]?' -/
theorem blk_new (w : World) (cs : Array Value) (T : TypeId) : ∀ o, (w.alloc (.cells cs T)).cell? ⟨w.heap.size, o, none⟩ = cs[o]? := fun o => World.cell?_alloc_new w cs T o
theorem blk_below {w w' : World} {B b : Nat} {cs : Array Value} (h : ∀ o, w.cell? ⟨b, o, none⟩ = cs[o]?) (hb : Below B w w') (hB : b < B) : ∀ o, w'.cell? ⟨b, o, none⟩ = cs[o]? :=
  fun o => (hb.cell (p := ⟨b, o, none⟩) hB).trans (h o)
theorem blk_alloc {w : World} {b : Nat} {cs : Array Value} (h : ∀ o, w.cell? ⟨b, o, none⟩ = cs[o]?) (hB : b < w.heap.size) (x : Obj) : ∀ o, (w.alloc x).cell? ⟨b, o, none⟩ = cs[o]? :=
  blk_below h ((Below.refl _ _).alloc (Nat.le_refl _) x) hB
end Go.Proofs.Ytekcmifgdlmljaa
