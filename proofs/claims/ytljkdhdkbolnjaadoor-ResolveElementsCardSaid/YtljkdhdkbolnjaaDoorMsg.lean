/- What is known of a message in memory: a slice of slices of words. -/
import Derived.Test.YtljkdhdkbolnjaaDoorMem
import Derived.Test.YtljkdhdkbolnjaaDoorMaps
namespace Go.Proofs.YtljkdhdkbolnjaaDoor
open Go.RowKit
set_option linter.unusedVariables false
set_option linter.unusedSimpArgs false

/-- segment j of a message, empty behind its end (a name that simp does not open) -/
def seg (ls : List (List Int)) (j : Nat) : List Int := ls.getD j []
theorem seg_mem {ls : List (List Int)} {j : Nat} (h : j < ls.length) : seg ls j ∈ ls := by
  rw [seg, List.getD_eq_getElem?_getD, List.getElem?_eq_getElem h]
  exact List.getElem_mem h
theorem seg_out {ls : List (List Int)} {j : Nat} (h : ls.length ≤ j) : seg ls j = [] := by
  rw [seg, List.getD_eq_getElem?_getD, List.getElem?_eq_none h]; rfl
theorem seg_append_left (a b : List (List Int)) (i : Nat) (h : i < a.length) : seg (a ++ b) i = seg a i := by
  simp [seg, List.getD_eq_getElem?_getD, List.getElem?_append_left h]
theorem seg_append_right (a b : List (List Int)) (i : Nat) (h : a.length ≤ i) : seg (a ++ b) i = seg b (i - a.length) := by
  simp [seg, List.getD_eq_getElem?_getD, List.getElem?_append_right h]
theorem seg_take (l : List (List Int)) (n j : Nat) (h : j < n) : seg (l.take n) j = seg l j := by
  simp [seg, List.getD_eq_getElem?_getD, h]
theorem ext_seg {a b : List (List Int)} (hl : a.length = b.length) (h : ∀ i, i < a.length → seg a i = seg b i) : a = b := by
  apply List.ext_getElem hl
  intro i h1 h2
  have := h i h1
  simpa [seg, List.getD_eq_getElem?_getD, h1, h2] using this
theorem take_succ_seg (l : List (List Int)) (k : Nat) (h : k < l.length) : l.take (k + 1) = l.take k ++ [seg l k] := by
  rw [List.take_succ_eq_append_getElem h]
  simp [seg, List.getD_eq_getElem?_getD, h]

def Wd2 (ls : List (List Int)) : Prop := ∀ l ∈ ls, Wds l
theorem Wd2.at {ls : List (List Int)} (h : Wd2 ls) (j : Nat) : Wds (seg ls j) := by
  by_cases hj : j < ls.length
  · exact h _ (seg_mem hj)
  · rw [seg_out (by omega)]; intro z hz; cases hz

/-- the slice value v holds the words l -/
def Holds (w : World) (v : Value) (l : List Int) : Prop := ∃ A c, v = .slice A l.length c ∧ Ri w .u64 A l ∧ (A = none → c = 0) ∧ l.length ≤ c ∧ c ≤ maxLen
theorem Holds.below {w w' : World} {v : Value} {l : List Int} {B : Nat} (h : Holds w v l) (hb : Below B w w') (hB : w.heap.size ≤ B) : Holds w' v l := by
  obtain ⟨A, c, h1, h2, h3⟩ := h
  exact ⟨A, c, h1, h2.below hb hB, h3⟩

/-- at A lie the segments ls one after the other -/
def Sg (w : World) (A : Option Addr) (ls : List (List Int)) : Prop :=
  ls = [] ∨ ∃ b off, A = some ⟨b, off, none⟩ ∧ ∀ j, j < ls.length → ∃ v, w.cell? ⟨b, off + j, none⟩ = some v ∧ Holds w v (seg ls j)

theorem Sg.nil (w : World) (A : Option Addr) : Sg w A [] := .inl rfl

theorem Sg.at {w : World} {A : Option Addr} {ls : List (List Int)} (h : Sg w A ls) {i : Nat} (hi : i < ls.length) :
    ∃ b off, A = some ⟨b, off, none⟩ ∧ ∀ j, j < ls.length → ∃ v, w.cell? ⟨b, off + j, none⟩ = some v ∧ Holds w v (seg ls j) := by
  rcases h with rfl | h
  · simp at hi
  · exact h

/-- the segment i: its cell and what it holds -/
theorem Sg.one {w : World} {A : Option Addr} {ls : List (List Int)} (h : Sg w A ls) {i : Nat} (hi : i < ls.length) :
    ∃ b off A' c, A = some ⟨b, off, none⟩ ∧ w.cell? ⟨b, off + i, none⟩ = some (.slice A' (seg ls i).length c) ∧ Ri w .u64 A' (seg ls i) ∧ (A' = none → c = 0) ∧ (seg ls i).length ≤ c ∧ c ≤ 9223372036854775807 := by
  obtain ⟨b, off, hA, hc⟩ := h.at hi
  obtain ⟨v, hv, A', c, rfl, h1, h2, h3, h4⟩ := hc i hi
  unfold maxLen at h4
  exact ⟨b, off, A', c, hA, hv, h1, h2, h3, by omega⟩

theorem Sg.below {w w' : World} {A : Option Addr} {ls : List (List Int)} {B : Nat} (h : Sg w A ls) (hb : Below B w w') (hB : w.heap.size ≤ B) : Sg w' A ls := by
  rcases h with rfl | ⟨b, off, rfl, h⟩
  · exact .inl rfl
  · refine .inr ⟨b, off, rfl, fun j hj => ?_⟩
    obtain ⟨v, hv, hh⟩ := h j hj
    have hlt : b < w.heap.size := World.block_lt_of_cell? w ⟨b, off + j, none⟩ hv
    exact ⟨v, (hb.cell (p := ⟨b, off + j, none⟩) (by show b < B; omega)).trans hv, hh.below hb hB⟩

/-! ## Places of a message -/
def inB (ls : List (List Int)) (s a n : Int) : Bool := decide (0 ≤ s ∧ s < ls.length ∧ 0 ≤ a ∧ 0 ≤ n ∧ a ≤ (seg ls s.toNat).length ∧ n ≤ (seg ls s.toNat).length - a)
def hasB (ls : List (List Int)) (s a : Int) : Bool := decide (0 ≤ s ∧ s < ls.length ∧ 0 ≤ a ∧ a < (seg ls s.toNat).length)
def wordV (ls : List (List Int)) (s a : Int) : Int := if hasB ls s a then zat (seg ls s.toNat) a.toNat else 0
def sliceL (ls : List (List Int)) (s a n : Int) : List Int := ((seg ls s.toNat).drop a.toNat).take n.toNat
def sizeI : List (List Int) → Int
  | [] => 0
  | l :: r => l.length + sizeI r
def fewB (ls : List (List Int)) : Bool := decide ((∀ j, j < ls.length → (seg ls j).length ≤ 300) ∧ ls.length ≤ 20)

theorem sizeI_append (a b : List (List Int)) : sizeI (a ++ b) = sizeI a + sizeI b := by
  induction a with
  | nil => simp [sizeI]
  | cons l r ih => simp only [List.cons_append, sizeI, ih]; omega
theorem sizeI_take (l : List (List Int)) (k : Nat) (h : k < l.length) : sizeI (l.take (k + 1)) = sizeI (l.take k) + (seg l k).length := by
  rw [take_succ_seg l k h, sizeI_append]
  simp [sizeI]
theorem few_fits {ls : List (List Int)} (h : fewB ls = true) : (∀ j, (seg ls j).length ≤ 300) ∧ ls.length ≤ 20 := by
  obtain ⟨h1, h2⟩ := of_decide_eq_true h
  refine ⟨fun j => ?_, h2⟩
  by_cases hj : j < ls.length
  · exact h1 j hj
  · rw [seg_out (by omega)]; simp
end Go.Proofs.YtljkdhdkbolnjaaDoor
