/- The functions of package pointer. -/
import Derived.Test.YtljkdhdkbolnjaaDoorPtrRun
namespace Go.Proofs.YtljkdhdkbolnjaaDoor
set_option linter.unusedVariables false
set_option linter.unusedSimpArgs false
open Go.ChangeShapes Go.WideShapes Go.ChangeAt Go.RowKit

set_option maxHeartbeats 1000000 in
theorem Decode_any (x : Int) (w : World) (h5 : 0 ≤ x) (h6 : x < 18446744073709551616) :
    Calls Tryd.prog 20 #[.int .u64 x] w fun e w' => e = .returned (.agg #[.int .i64 (decP x).k, .int .i64 (decP x).o, .int .i64 (decP x).d, .int .i64 (decP x).p, .int .i64 (decP x).el, .int .i64 (decP x).c, .bool (decP x).db, .int .i64 (decP x).pa, .int .u32 (decP x).sg, .int .u32 (decP x).lo]) ∧ Below w.heap.size w w' := by
  go_enter Tryd.func20, Tryd.ntmps20
  go_wp2_with fail
  refine (run_dec x _ h5 h6).mono ?_
  rintro e w1 ⟨rfl, hb⟩
  obtain ⟨hc, hf⟩ := bcell hb
  have hz : w.heap.size < w1.heap.size := by have := hb.size; simp at this; omega
  have HB := Lib.hid hb
  clear hb
  simp at hc hf
  go_wp2
  refine bodyPost_ret (v := .agg #[.int .i64 (decP x).k, .int .i64 (decP x).o, .int .i64 (decP x).d, .int .i64 (decP x).p, .int .i64 (decP x).el, .int .i64 (decP x).c, .bool (decP x).db, .int .i64 (decP x).pa, .int .u32 (decP x).sg, .int .u32 (decP x).lo]) (by simp [results, Tryd.results20, go_sem, hc, hz]) rfl ⟨rfl, ?_⟩
  repeat (first | with_reducible refine Below.alloc ?_ (by first | omega | (simp; omega)) _ | with_reducible refine Below.setCell ?_ (by simp) _)
  exact bel_on ((Below.refl _ _).alloc (Nat.le_refl _) _) HB.out

/-- are two pointers the same, field by field? -/
def peq (k o d p el c pa sg lo : Int) (db : Bool) (k' o' d' p' el' c' pa' sg' lo' : Int) (db' : Bool) : Bool := decide (k = k' ∧ o = o' ∧ d = d' ∧ p = p' ∧ el = el' ∧ c = c' ∧ db = db' ∧ pa = pa' ∧ sg = sg' ∧ lo = lo')

theorem peq_self (k o d p el c pa sg lo : Int) (db : Bool) : peq k o d p el c pa sg lo db k o d p el c pa sg lo db = true := by simp [peq]
theorem peq_iff (a b : Ptr) : peq a.k a.o a.d a.p a.el a.c a.pa a.sg a.lo a.db b.k b.o b.d b.p b.el b.c b.pa b.sg b.lo b.db = true ↔ a = b := by
  obtain ⟨k, o, d, p, el, c, db, pa, sg, lo⟩ := a
  obtain ⟨k', o', d', p', el', c', db', pa', sg', lo'⟩ := b
  simp [peq]

theorem run_eql_ptr (k o d p el c pa sg lo : Int) (db : Bool) (k' o' d' p' el' c' pa' sg' lo' : Int) (db' : Bool) (w : World) : (binOp .eql 43 (.agg #[.int .i64 k, .int .i64 o, .int .i64 d, .int .i64 p, .int .i64 el, .int .i64 c, .bool db, .int .i64 pa, .int .u32 sg, .int .u32 lo]) (.agg #[.int .i64 k', .int .i64 o', .int .i64 d', .int .i64 p', .int .i64 el', .int .i64 c', .bool db', .int .i64 pa', .int .u32 sg', .int .u32 lo'])).run Tryd.prog w = .ok (.bool (peq k o d p el c pa sg lo db k' o' d' p' el' c' pa' sg' lo' db')) w := by
  go_simp
  unfold peq
  by_cases h1 : k = k'
  · by_cases h2 : o = o'
    · by_cases h3 : d = d'
      · by_cases h4 : p = p'
        · by_cases h5 : el = el'
          · by_cases h6 : c = c'
            · by_cases h7 : db = db'
              · by_cases h8 : pa = pa'
                · by_cases h9 : sg = sg' <;> by_cases h10 : lo = lo' <;> simp [h1, h2, h3, h4, h5, h6, h7, h8, h9, h10]
                · simp [h8]
              · simp [h7]
            · simp [h6]
          · simp [h5]
        · simp [h4]
      · simp [h3]
    · simp [h2]
  · simp [h1]
theorem run_neq_ptr (k o d p el c pa sg lo : Int) (db : Bool) (k' o' d' p' el' c' pa' sg' lo' : Int) (db' : Bool) (w : World) : (binOp .neq 43 (.agg #[.int .i64 k, .int .i64 o, .int .i64 d, .int .i64 p, .int .i64 el, .int .i64 c, .bool db, .int .i64 pa, .int .u32 sg, .int .u32 lo]) (.agg #[.int .i64 k', .int .i64 o', .int .i64 d', .int .i64 p', .int .i64 el', .int .i64 c', .bool db', .int .i64 pa', .int .u32 sg', .int .u32 lo'])).run Tryd.prog w = .ok (.bool (!peq k o d p el c pa sg lo db k' o' d' p' el' c' pa' sg' lo' db')) w := by
  go_simp
  unfold peq
  by_cases h1 : k = k'
  · by_cases h2 : o = o'
    · by_cases h3 : d = d'
      · by_cases h4 : p = p'
        · by_cases h5 : el = el'
          · by_cases h6 : c = c'
            · by_cases h7 : db = db'
              · by_cases h8 : pa = pa'
                · by_cases h9 : sg = sg' <;> by_cases h10 : lo = lo' <;> simp [h1, h2, h3, h4, h5, h6, h7, h8, h9, h10]
                · simp [h8]
              · simp [h7]
            · simp [h6]
          · simp [h5]
        · simp [h4]
      · simp [h3]
    · simp [h2]
  · simp [h1]

theorem IsCapability_any (k o d p el c pa sg lo : Int) (db : Bool) (w : World) :
    Calls Tryd.prog 35 #[.agg #[.int .i64 k, .int .i64 o, .int .i64 d, .int .i64 p, .int .i64 el, .int .i64 c, .bool db, .int .i64 pa, .int .u32 sg, .int .u32 lo]] w fun e w' => e = .returned (.bool (k == 3 && lo == 0)) ∧ Below w.heap.size w w' := by
  by_cases h : k = 3
  · subst h
    go_enter Tryd.func35, Tryd.ntmps35
    go_wp2
    go_ret
    exact ⟨rfl, (Below.refl _ _).alloc (Nat.le_refl _) _⟩
  · have h1 : (k == 3) = false := by rw [beq_eq_false_iff_ne]; exact h
    have HH := Lib.hid h1
    clear h
    go_enter Tryd.func35, Tryd.ntmps35
    go_wp2
    go_ret
    exact ⟨by rw [HH.out]; rfl, (Below.refl _ _).alloc (Nat.le_refl _) _⟩

theorem IsNull_any (x : Int) (w : World) :
    Calls Tryd.prog 19 #[.int .u64 x] w fun e w' => e = .returned (.bool (x == 0)) ∧ w = w' := by
  go_enter Tryd.func19, Tryd.ntmps19
  go_wp2
  go_ret
  exact ⟨rfl, rfl⟩

attribute [local simp] AllK KnowsV look Is

/-- what Encode returns -/
def okE (q : Ptr) : Bool := decide (Vld q)
def encE (q : Ptr) : Int := if okE q then encW q else 0

end Go.Proofs.YtljkdhdkbolnjaaDoor
