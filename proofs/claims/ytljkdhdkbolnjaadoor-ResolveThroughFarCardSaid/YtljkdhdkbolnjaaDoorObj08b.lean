/- The reference's Object, Element and Pointers, each by one contract. -/
import Derived.Test.YtljkdhdkbolnjaaDoorObj08
namespace Go.Proofs.YtljkdhdkbolnjaaDoor
open Go.ChangeShapes Go.WideShapes Go.ChangeAt Go.RowKit
set_option linter.unusedVariables false
set_option linter.unusedSimpArgs false

def obA (o : Ob) : Array Value := #[.int .i64 o.k, .int .i64 o.sg, .int .i64 o.at', .int .i64 o.d, .int .i64 o.p, .int .i64 o.el, .int .i64 o.n, .int .i64 o.cost]

theorem RefObject_any (A : Option Addr) (c : Nat) (ls : List (List Int)) (s a : Int) (w : World) (hs : Sg w A ls) (hw : Wd2 ls) (hm : ls.length ≤ 140737488355328) (hf : ∀ j, (seg ls j).length ≤ 140737488355328) :
    Calls Tryd.prog 11 #[.slice A ls.length c, .int .i64 s, .int .i64 a] w fun e w' => e = .returned (.tuple #[.agg #[.int .i64 (objF ls s a).1.k, .int .i64 (objF ls s a).1.sg, .int .i64 (objF ls s a).1.at', .int .i64 (objF ls s a).1.d, .int .i64 (objF ls s a).1.p, .int .i64 (objF ls s a).1.el, .int .i64 (objF ls s a).1.n, .int .i64 (objF ls s a).1.cost], .int .i64 (objF ls s a).2]) ∧ Below w.heap.size w w' := by
  by_cases h1 : (followF ls s a).e = 0
  · by_cases h2 : (followF ls s a).w = 0
    · exact Object2 A c ls s a w hs hw hm hf h1 h2
    · by_cases h3 : (decP (followF ls s a).w).k = 3
      · exact Object3 A c ls s a w hs hw hm hf h1 h2 h3
      · by_cases h4 : (decP (followF ls s a).w).k = 0
        · exact Object4 A c ls s a w hs hw hm hf h1 h2 h4
        · exact Object5 A c ls s a w hs hw hm hf h1 h2 h3 h4
  · exact Object1 A c ls s a w hs hw hm hf h1

/-- the element i of a composite list -/
def eleO (o : Ob) (i : Int) : Ob := ⟨1, o.sg, o.at' + i * (o.d + o.p), o.d, o.p, 0, 0, 0⟩
/-- where the pointers of an object lie -/
def ptrO (o : Ob) : Int × Int := if o.k = 1 ∧ 0 < o.p then (o.at' + o.d, o.p) else if o.k = 2 ∧ o.el = 6 ∧ 0 < o.n then (o.at', o.n) else (0, 0)

theorem RefElement_any (o : Ob) (i : Int) (w : World) (h1 : -9223372036854775808 ≤ o.d + o.p) (h2 : o.d + o.p ≤ 9223372036854775807) (h3 : -9223372036854775808 ≤ i * (o.d + o.p)) (h4 : i * (o.d + o.p) ≤ 9223372036854775807) (h5 : -9223372036854775808 ≤ o.at' + i * (o.d + o.p)) (h6 : o.at' + i * (o.d + o.p) ≤ 9223372036854775807) :
    Calls Tryd.prog 15 #[.agg #[.int .i64 o.k, .int .i64 o.sg, .int .i64 o.at', .int .i64 o.d, .int .i64 o.p, .int .i64 o.el, .int .i64 o.n, .int .i64 o.cost], .int .i64 i] w fun e w' => e = .returned (.agg #[.int .i64 (eleO o i).k, .int .i64 (eleO o i).sg, .int .i64 (eleO o i).at', .int .i64 (eleO o i).d, .int .i64 (eleO o i).p, .int .i64 (eleO o i).el, .int .i64 (eleO o i).n, .int .i64 (eleO o i).cost]) ∧ Below w.heap.size w w' := by
  unfold eleO
  go_enter Tryd.func15, Tryd.ntmps15
  go_wp2
  refine bodyPost_ret (v := .agg #[.int .i64 1, .int .i64 o.sg, .int .i64 (o.at' + i * (o.d + o.p)), .int .i64 o.d, .int .i64 o.p, .int .i64 0, .int .i64 0, .int .i64 0]) (by simp [results, Tryd.results15, go_sem]) rfl ⟨rfl, ?_⟩
  repeat (with_reducible first | exact Below.refl _ _ | refine Below.alloc ?_ (by simp; try omega) _ | refine Below.setCell ?_ (by simp; try omega) _)

theorem RefPointers_any (o : Ob) (w : World) (h1 : -9223372036854775808 ≤ o.at' + o.d) (h2 : o.at' + o.d ≤ 9223372036854775807) :
    Calls Tryd.prog 13 #[.agg #[.int .i64 o.k, .int .i64 o.sg, .int .i64 o.at', .int .i64 o.d, .int .i64 o.p, .int .i64 o.el, .int .i64 o.n, .int .i64 o.cost]] w fun e w' => e = .returned (.tuple #[.int .i64 (ptrO o).1, .int .i64 (ptrO o).2]) ∧ Below w.heap.size w w' := by
  obtain ⟨k, sg, at', d, p, el, n, cost⟩ := o
  by_cases ha : k = 1 ∧ 0 < p
  · have HR : Hid (ptrO ⟨k, sg, at', d, p, el, n, cost⟩ = (at' + d, p)) := Lib.hid (if_pos ha)
    obtain ⟨rfl, hp⟩ := ha
    go_enter Tryd.func13, Tryd.ntmps13
    go_wp2
    go_quiet (fail)
    go_wp2
    go_ret2
    exact ⟨by rw [HR.out]; rfl, bel_drewN ((Below.refl _ _).alloc (Nat.le_refl _) _) _⟩
  · have t1 : ((k == 1) = false) ∨ ((k == 1) = true ∧ decide (0 < p) = false) := by
      by_cases hk : k = 1
      · right; exact ⟨by simpa using hk, decide_eq_false (fun h => ha ⟨hk, h⟩)⟩
      · left; simpa using hk
    by_cases hb : k = 2 ∧ el = 6 ∧ 0 < n
    · have HR : Hid (ptrO ⟨k, sg, at', d, p, el, n, cost⟩ = (at', n)) := Lib.hid ((if_neg ha).trans (if_pos hb))
      obtain ⟨rfl, rfl, hn⟩ := hb
      clear t1 ha
      go_enter Tryd.func13, Tryd.ntmps13
      go_wp2
      go_quiet (fail)
      go_wp2
      go_ret2
      exact ⟨by rw [HR.out]; rfl, bel_drewN ((Below.refl _ _).alloc (Nat.le_refl _) _) _⟩
    · have HR : Hid (ptrO ⟨k, sg, at', d, p, el, n, cost⟩ = (0, 0)) := Lib.hid ((if_neg ha).trans (if_neg hb))
      have t2 : ((k == 2) = false) ∨ ((k == 2) = true ∧ (el == 6) = false) ∨ ((k == 2) = true ∧ (el == 6) = true ∧ decide (0 < n) = false) := by
        by_cases hk : k = 2
        · right
          by_cases he : el = 6
          · right; exact ⟨by simpa using hk, by simpa using he, decide_eq_false (fun h => hb ⟨hk, he, h⟩)⟩
          · left; exact ⟨by simpa using hk, by simpa using he⟩
        · left; simpa using hk
      clear ha hb
      rcases t1 with t1 | ⟨t1, t3⟩ <;> rcases t2 with t2 | ⟨t2, t4⟩ | ⟨t2, t4, t5⟩ <;>
      ( go_enter Tryd.func13, Tryd.ntmps13
        go_wp2
        go_ret2
        exact ⟨by rw [HR.out]; rfl, (Below.refl _ _).alloc (Nat.le_refl _) _⟩)
end Go.Proofs.YtljkdhdkbolnjaaDoor
