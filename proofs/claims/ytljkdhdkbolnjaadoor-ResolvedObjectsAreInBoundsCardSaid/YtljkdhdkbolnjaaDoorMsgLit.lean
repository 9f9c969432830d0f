/- Messages written out in the text: a slice of new slices of words. -/
import Derived.Test.YtljkdhdkbolnjaaDoorMsg
namespace Go.Proofs.YtljkdhdkbolnjaaDoor
open Go.RowKit
set_option linter.unusedVariables false
set_option linter.unusedSimpArgs false

theorem Sg.lit {w : World} (vs : List Value) (ls : List (List Int)) (T : TypeId) (h : ∀ j, j < ls.length → ∃ v, vs[j]? = some v ∧ Holds w v (seg ls j)) :
    Sg (w.alloc (.cells vs.toArray T)) (some ⟨w.heap.size, 0, none⟩) ls := by
  refine .inr ⟨w.heap.size, 0, rfl, fun j hj => ?_⟩
  obtain ⟨v, hv, hh⟩ := h j hj
  refine ⟨v, ?_, hh.below ((Below.refl _ _).alloc (Nat.le_refl _) _) (Nat.le_refl _)⟩
  rw [World.cell?_alloc_new]
  simpa using hv
theorem Holds.lit (w : World) (zs : List Int) (T : TypeId) (n : Nat) (hn : n = zs.length) (hm : n ≤ maxLen) : Holds (w.alloc (.cells (zs.map (Value.int .u64)).toArray T)) (.slice (some ⟨w.heap.size, 0, none⟩) n n) zs := by
  subst hn
  exact ⟨_, _, rfl, Ri.lit w .u64 zs T, (fun h => by cases h), Nat.le_refl _, hm⟩
theorem Holds.alloc {w : World} {v : Value} {l : List Int} (h : Holds w v l) (o : Obj) : Holds (w.alloc o) v l := h.below ((Below.refl _ _).alloc (Nat.le_refl _) o) (Nat.le_refl _)

/-- three segments, then the slice of them (n: the number of blocks before; the sizes are those of the segments) -/
theorem sg_lit3 (w : World) (z1 z2 z3 : List Int) (U T : TypeId) (n n1 n2 n3 : Nat) (hn : w.heap.size = n) (h1 : n1 = z1.length) (h2 : n2 = z2.length) (h3 : n3 = z3.length) (hm : n1 ≤ 1000 ∧ n2 ≤ 1000 ∧ n3 ≤ 1000) :
    Sg ((((w.alloc (.cells (z1.map (Value.int .u64)).toArray U)).alloc (.cells (z2.map (Value.int .u64)).toArray U)).alloc (.cells (z3.map (Value.int .u64)).toArray U)).alloc
      (.cells #[.slice (some ⟨n, 0, none⟩) n1 n1, .slice (some ⟨n + 1, 0, none⟩) n2 n2, .slice (some ⟨n + 1 + 1, 0, none⟩) n3 n3] T)) (some ⟨n + 1 + 1 + 1, 0, none⟩) [z1, z2, z3] := by
  subst hn
  have e : maxLen = 9223372036854775807 := rfl
  have k1 := ((Holds.lit w z1 U n1 h1 (by omega)).alloc (.cells (z2.map (Value.int .u64)).toArray U)).alloc (.cells (z3.map (Value.int .u64)).toArray U)
  have k2 := (Holds.lit (w.alloc (.cells (z1.map (Value.int .u64)).toArray U)) z2 U n2 h2 (by omega)).alloc (.cells (z3.map (Value.int .u64)).toArray U)
  have k3 := Holds.lit ((w.alloc (.cells (z1.map (Value.int .u64)).toArray U)).alloc (.cells (z2.map (Value.int .u64)).toArray U)) z3 U n3 h3 (by omega)
  have s1 : (w.alloc (.cells (z1.map (Value.int .u64)).toArray U)).heap.size = w.heap.size + 1 := by simp
  have s2 : ((w.alloc (.cells (z1.map (Value.int .u64)).toArray U)).alloc (.cells (z2.map (Value.int .u64)).toArray U)).heap.size = w.heap.size + 1 + 1 := by simp
  have s3 : (((w.alloc (.cells (z1.map (Value.int .u64)).toArray U)).alloc (.cells (z2.map (Value.int .u64)).toArray U)).alloc (.cells (z3.map (Value.int .u64)).toArray U)).heap.size = w.heap.size + 1 + 1 + 1 := by simp
  rw [s1] at k2
  rw [s2] at k3
  have := Sg.lit (w := ((w.alloc (.cells (z1.map (Value.int .u64)).toArray U)).alloc (.cells (z2.map (Value.int .u64)).toArray U)).alloc (.cells (z3.map (Value.int .u64)).toArray U))
    [.slice (some ⟨w.heap.size, 0, none⟩) n1 n1, .slice (some ⟨w.heap.size + 1, 0, none⟩) n2 n2, .slice (some ⟨w.heap.size + 1 + 1, 0, none⟩) n3 n3] [z1, z2, z3] T (by
    intro j hj
    match j, hj with
    | 0, _ => exact ⟨_, rfl, k1⟩
    | 1, _ => exact ⟨_, rfl, k2⟩
    | 2, _ => exact ⟨_, rfl, k3⟩
    | n + 3, h => exact absurd h (by simp))
  rw [s3] at this
  exact this
/-- one segment, then the slice of it -/
theorem sg_lit1 (w : World) (v : Value) (z : List Int) (T : TypeId) (n : Nat) (hn : w.heap.size = n) (h : Holds w v z) : Sg (w.alloc (.cells #[v] T)) (some ⟨n, 0, none⟩) [z] := by
  subst hn
  exact Sg.lit [v] [z] T (by
    intro j hj
    match j, hj with
    | 0, _ => exact ⟨_, rfl, h⟩
    | n + 1, h => exact absurd h (by simp))
end Go.Proofs.YtljkdhdkbolnjaaDoor
