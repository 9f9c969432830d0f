/- The texts PtrFns (what is wanted of them), one after the other. -/
import Derived.Test.YtfigoblpkbpenaaDoorMg1
import Derived.Test.YtfigoblpkbpenaaDoorMg2
import Derived.Test.YtfigoblpkbpenaaDoorMg3
import Derived.Test.YtfigoblpkbpenaaDoorMg7
import Derived.Test.YtfigoblpkbpenaaDoorMg10
import Derived.Test.YtfigoblpkbpenaaDoorMg17
import Derived.Test.YtfigoblpkbpenaaDoorMg18
/- The functions of package pointer. -/
namespace Go.Proofs.YtfigoblpkbpenaaDoor
set_option linter.unusedVariables false
set_option linter.unusedSimpArgs false
set_option maxRecDepth 100000
open Go.ChangeShapes Go.WideShapes Go.ChangeAt Go.RowKit

set_option maxHeartbeats 1000000 in
theorem Decode_any (x : Int) (w : World) (h5 : 0 ≤ x) (h6 : x < 18446744073709551616) :
    Calls Tryd.prog 60 #[.int .u64 x] w fun e w' => e = .returned (.agg #[.int .i64 (decP x).k, .int .i64 (decP x).o, .int .i64 (decP x).d, .int .i64 (decP x).p, .int .i64 (decP x).el, .int .i64 (decP x).c, .bool (decP x).db, .int .i64 (decP x).pa, .int .u32 (decP x).sg, .int .u32 (decP x).lo]) ∧ Below w.heap.size w w' := by
  go_enter Tryd.func60, Tryd.ntmps60
  go_wp2_with fail
  refine (run_dec x _ h5 h6).mono ?_
  rintro e w1 ⟨rfl, hb⟩
  obtain ⟨hc, hf⟩ := bcell hb
  have hz : w.heap.size < w1.heap.size := by have := hb.size; simp at this; omega
  have HB := Lib.hid hb
  clear hb
  simp at hc hf
  go_wp2
  refine bodyPost_ret (v := .agg #[.int .i64 (decP x).k, .int .i64 (decP x).o, .int .i64 (decP x).d, .int .i64 (decP x).p, .int .i64 (decP x).el, .int .i64 (decP x).c, .bool (decP x).db, .int .i64 (decP x).pa, .int .u32 (decP x).sg, .int .u32 (decP x).lo]) (by simp [results, Tryd.results60, go_sem, hc, hz]) rfl ⟨rfl, ?_⟩
  repeat (first | with_reducible refine Below.alloc ?_ (by first | omega | (simp; omega)) _ | with_reducible refine Below.setCell ?_ (by simp) _)
  exact bel_on ((Below.refl _ _).alloc (Nat.le_refl _) _) HB.out

/-- are two pointers the same, field by field? -/
def peq (k o d p el c pa sg lo : Int) (db : Bool) (k' o' d' p' el' c' pa' sg' lo' : Int) (db' : Bool) : Bool := decide (k = k' ∧ o = o' ∧ d = d' ∧ p = p' ∧ el = el' ∧ c = c' ∧ db = db' ∧ pa = pa' ∧ sg = sg' ∧ lo = lo')

theorem peq_iff (a b : Ptr) : peq a.k a.o a.d a.p a.el a.c a.pa a.sg a.lo a.db b.k b.o b.d b.p b.el b.c b.pa b.sg b.lo b.db = true ↔ a = b := by
  obtain ⟨k, o, d, p, el, c, db, pa, sg, lo⟩ := a
  obtain ⟨k', o', d', p', el', c', db', pa', sg', lo'⟩ := b
  simp [peq]

theorem run_eql_ptr (k o d p el c pa sg lo : Int) (db : Bool) (k' o' d' p' el' c' pa' sg' lo' : Int) (db' : Bool) (w : World) : (binOp .eql 49 (.agg #[.int .i64 k, .int .i64 o, .int .i64 d, .int .i64 p, .int .i64 el, .int .i64 c, .bool db, .int .i64 pa, .int .u32 sg, .int .u32 lo]) (.agg #[.int .i64 k', .int .i64 o', .int .i64 d', .int .i64 p', .int .i64 el', .int .i64 c', .bool db', .int .i64 pa', .int .u32 sg', .int .u32 lo'])).run Tryd.prog w = .ok (.bool (peq k o d p el c pa sg lo db k' o' d' p' el' c' pa' sg' lo' db')) w := by
  go_simp
  unfold peq
  by_cases h1 : k = k'
  · by_cases h2 : o = o'
    · by_cases h3 : d = d'
      · by_cases h4 : p = p'
        · by_cases h5 : el = el'
          · by_cases h6 : c = c'
            · by_cases h7 : db = db'
              · by_cases h8 : pa = pa'
                · by_cases h9 : sg = sg' <;> by_cases h10 : lo = lo' <;> simp [h1, h2, h3, h4, h5, h6, h7, h8, h9, h10]
                · simp [h8]
              · simp [h7]
            · simp [h6]
          · simp [h5]
        · simp [h4]
      · simp [h3]
    · simp [h2]
  · simp [h1]
attribute [local simp] AllK KnowsV look Is

/-- what Encode returns -/
def okE (q : Ptr) : Bool := decide (Vld q)
def encE (q : Ptr) : Int := if okE q then encW q else 0

set_option maxHeartbeats 1000000 in
theorem Encode_yes (k o d p el c pa sg lo : Int) (db : Bool) (w : World) (hv : Vld ⟨k, o, d, p, el, c, db, pa, sg, lo⟩) :
    Calls Tryd.prog 55 #[.agg #[.int .i64 k, .int .i64 o, .int .i64 d, .int .i64 p, .int .i64 el, .int .i64 c, .bool db, .int .i64 pa, .int .u32 sg, .int .u32 lo]] w fun e w' => e = .returned (.tuple #[.int .u64 (encW ⟨k, o, d, p, el, c, db, pa, sg, lo⟩), .bool true]) ∧ Below w.heap.size w w' := by
  have hk : 0 ≤ k ∧ k ≤ 3 := by unfold Vld at hv; simp at hv; omega
  have HD := Lib.hid (decP_encW _ hv)
  have hE := encW_bd ⟨k, o, d, p, el, c, db, pa, sg, lo⟩
  clear hv
  go_enter Tryd.func55, Tryd.ntmps55
  go_wp2_with fail
  refine (run_enc k o d p el c pa sg lo db _ hk.1 hk.2).mono ?_
  rintro e w1 ⟨rfl, hb⟩
  obtain ⟨hc, hf⟩ := bcell hb
  have hz : w.heap.size < w1.heap.size := by have := hb.size; simp at this; omega
  have HB := Lib.hid hb
  clear hb
  simp at hc hf
  go_wp2_with fail
  rename_i KK hKK
  refine wp_region_chain (by kernel_rfl) (by kernel_rfl) ?_
  refine chain_val (u := ?_) [5] rfl (by kernel_rfl) trivial (fun ρ wc hbc hcn hk => ?_) ?_; rotate_left
  · obtain ⟨hcn, -⟩ := hcn
    simp at hk
    go_simp
    rfl
  refine chain_val (u := ?_) [12] rfl (by kernel_rfl) trivial (fun ρ wc hbc hcn hk => ?_) ?_; rotate_left
  · obtain ⟨hcn, -⟩ := hcn
    simp at hk
    go_simp
    rfl
  refine chain_val (u := ?_) [13] rfl (by kernel_rfl) trivial (fun ρ wc hbc hcn hk => ?_) ?_; rotate_left
  · obtain ⟨hcn, -⟩ := hcn
    simp at hk
    go_simp
    rfl
  refine chain_val (u := ?_) [4] rfl (by kernel_rfl) ⟨14, by decide +kernel, rfl, fun w x hx => by simpa using hx⟩ (fun ρ wc hbc hcn hk => ?_) ?_; rotate_left
  · obtain ⟨hcn, -⟩ := hcn
    simp at hk
    go_simp
    rfl
  refine chain_val (u := ?_) [15] rfl (by kernel_rfl) ⟨14, by decide +kernel, rfl, fun w x hx => by simpa using hx⟩ (fun ρ wc hbc hcn hk => ?_) ?_; rotate_left
  · obtain ⟨hcn, -⟩ := hcn
    simp at hk
    obtain ⟨hcc, hff⟩ := bcell hbc
    simp at hcc
    go_simp
    rfl
  refine chain_call (T := Is (.agg #[.int .i64 k, .int .i64 o, .int .i64 d, .int .i64 p, .int .i64 el, .int .i64 c, .bool db, .int .i64 pa, .int .u32 sg, .int .u32 lo])) 60 [16] rfl (by kernel_rfl) ⟨14, by decide +kernel, rfl, fun w x hx => by simpa using hx⟩ (stable_is _) (fun ρ wc hbc hcn hk => ?_) ?_
  · obtain ⟨hcn, hfn⟩ := hcn
    simp at hk
    refine ⟨_, by go_simp; rfl, ?_⟩
    refine (Decode_any _ _ hE.1 hE.2).mono ?_
    rintro e w' ⟨rfl, hb'⟩
    exact ⟨_, rfl, by rw [HD.out]; rfl, hb'⟩
  refine chain_val (u := ?_) [1] rfl (by kernel_rfl) ⟨14, by decide +kernel, rfl, fun w x hx => by simpa using hx⟩ (fun ρ wc hbc hcn hk => ?_) ?_; rotate_left
  · obtain ⟨hcn, -⟩ := hcn
    simp at hk
    obtain ⟨hcc, hff⟩ := bcell hbc
    simp at hcc
    go_simp
    rfl
  refine chain_val (u := ?_) [17, 18] rfl (by kernel_rfl) ⟨14, by decide +kernel, rfl, fun w x hx => by simpa using hx⟩ (fun ρ wc hbc hcn hk => ?_) ?_; rotate_left
  · obtain ⟨hcn, -⟩ := hcn
    simp at hk
    go_simp
    rfl
  refine chain_val (u := ?_) [14, 19] rfl (by kernel_rfl) trivial (fun ρ wc hbc hcn hk => ?_) ?_; rotate_left
  · obtain ⟨hcn, -⟩ := hcn
    simp at hk
    go_simp
    rfl
  refine chain_end_lit 23 rfl (fun ff w2 hb2 hk => ?_)
  refine hKK _ _ ?_
  clear hKK KK
  simp [AllN] at hk
  simp only [frameL, hk]
  obtain ⟨hc2, hf2⟩ := bcell hb2
  have hz2 : w1.heap.size < w2.heap.size := by have := hb2.size; simp at this; omega
  have HB2 := Lib.hid hb2
  clear hb2 hk
  simp at hc2 hf2
  go_wp2
  go_ret2
  refine ⟨rfl, ?_⟩
  refine Below.trans ?_ (HB2.out.mono (by simp; omega))
  repeat (first | with_reducible refine bel_drew ?_ | with_reducible refine Below.alloc ?_ (by first | omega | (simp; omega)) _ | with_reducible refine Below.setCell ?_ (by simp) _)
  exact bel_on ((Below.refl _ _).alloc (Nat.le_refl _) _) HB.out

set_option maxHeartbeats 1000000 in
theorem Encode_no2 (k o d p el c pa sg lo : Int) (db : Bool) (w : World) (hk : 0 ≤ k ∧ k ≤ 3) (hv : ¬ Vld ⟨k, o, d, p, el, c, db, pa, sg, lo⟩) :
    Calls Tryd.prog 55 #[.agg #[.int .i64 k, .int .i64 o, .int .i64 d, .int .i64 p, .int .i64 el, .int .i64 c, .bool db, .int .i64 pa, .int .u32 sg, .int .u32 lo]] w fun e w' => e = .returned (.tuple #[.int .u64 0, .bool false]) ∧ Below w.heap.size w w' := by
  have hE := encW_bd ⟨k, o, d, p, el, c, db, pa, sg, lo⟩
  have HP : Hid (peq (decP (encW ⟨k, o, d, p, el, c, db, pa, sg, lo⟩)).k (decP (encW ⟨k, o, d, p, el, c, db, pa, sg, lo⟩)).o (decP (encW ⟨k, o, d, p, el, c, db, pa, sg, lo⟩)).d (decP (encW ⟨k, o, d, p, el, c, db, pa, sg, lo⟩)).p (decP (encW ⟨k, o, d, p, el, c, db, pa, sg, lo⟩)).el (decP (encW ⟨k, o, d, p, el, c, db, pa, sg, lo⟩)).c (decP (encW ⟨k, o, d, p, el, c, db, pa, sg, lo⟩)).pa (decP (encW ⟨k, o, d, p, el, c, db, pa, sg, lo⟩)).sg (decP (encW ⟨k, o, d, p, el, c, db, pa, sg, lo⟩)).lo (decP (encW ⟨k, o, d, p, el, c, db, pa, sg, lo⟩)).db k o d p el c pa sg lo db = false) := Lib.hid (by
    rw [Bool.eq_false_iff]
    intro h
    exact hv (vld_of_dec _ ((peq_iff _ ⟨k, o, d, p, el, c, db, pa, sg, lo⟩).1 h)))
  clear hv
  go_enter Tryd.func55, Tryd.ntmps55
  go_wp2_with fail
  refine (run_enc k o d p el c pa sg lo db _ hk.1 hk.2).mono ?_
  rintro e w1 ⟨rfl, hb⟩
  obtain ⟨hc, hf⟩ := bcell hb
  have hz : w.heap.size < w1.heap.size := by have := hb.size; simp at this; omega
  have HB := Lib.hid hb
  clear hb
  simp at hc hf
  go_wp2_with fail
  rename_i KK hKK
  refine wp_region_chain (by kernel_rfl) (by kernel_rfl) ?_
  refine chain_val (u := ?_) [5] rfl (by kernel_rfl) trivial (fun ρ wc hbc hcn hk => ?_) ?_; rotate_left
  · obtain ⟨hcn, -⟩ := hcn
    simp at hk
    go_simp
    rfl
  refine chain_val (u := ?_) [12] rfl (by kernel_rfl) trivial (fun ρ wc hbc hcn hk => ?_) ?_; rotate_left
  · obtain ⟨hcn, -⟩ := hcn
    simp at hk
    go_simp
    rfl
  refine chain_val (u := ?_) [13] rfl (by kernel_rfl) trivial (fun ρ wc hbc hcn hk => ?_) ?_; rotate_left
  · obtain ⟨hcn, -⟩ := hcn
    simp at hk
    go_simp
    rfl
  refine chain_val (u := ?_) [4] rfl (by kernel_rfl) ⟨14, by decide +kernel, rfl, fun w x hx => by simpa using hx⟩ (fun ρ wc hbc hcn hk => ?_) ?_; rotate_left
  · obtain ⟨hcn, -⟩ := hcn
    simp at hk
    go_simp
    rfl
  refine chain_val (u := ?_) [15] rfl (by kernel_rfl) ⟨14, by decide +kernel, rfl, fun w x hx => by simpa using hx⟩ (fun ρ wc hbc hcn hk => ?_) ?_; rotate_left
  · obtain ⟨hcn, -⟩ := hcn
    simp at hk
    obtain ⟨hcc, hff⟩ := bcell hbc
    simp at hcc
    go_simp
    rfl
  refine chain_call (T := Is (.agg #[.int .i64 (decP (encW ⟨k, o, d, p, el, c, db, pa, sg, lo⟩)).k, .int .i64 (decP (encW ⟨k, o, d, p, el, c, db, pa, sg, lo⟩)).o, .int .i64 (decP (encW ⟨k, o, d, p, el, c, db, pa, sg, lo⟩)).d, .int .i64 (decP (encW ⟨k, o, d, p, el, c, db, pa, sg, lo⟩)).p, .int .i64 (decP (encW ⟨k, o, d, p, el, c, db, pa, sg, lo⟩)).el, .int .i64 (decP (encW ⟨k, o, d, p, el, c, db, pa, sg, lo⟩)).c, .bool (decP (encW ⟨k, o, d, p, el, c, db, pa, sg, lo⟩)).db, .int .i64 (decP (encW ⟨k, o, d, p, el, c, db, pa, sg, lo⟩)).pa, .int .u32 (decP (encW ⟨k, o, d, p, el, c, db, pa, sg, lo⟩)).sg, .int .u32 (decP (encW ⟨k, o, d, p, el, c, db, pa, sg, lo⟩)).lo])) 60 [16] rfl (by kernel_rfl) ⟨14, by decide +kernel, rfl, fun w x hx => by simpa using hx⟩ (stable_is _) (fun ρ wc hbc hcn hk => ?_) ?_
  · obtain ⟨hcn, hfn⟩ := hcn
    simp at hk
    refine ⟨_, by go_simp; rfl, ?_⟩
    refine (Decode_any _ _ hE.1 hE.2).mono ?_
    rintro e w' ⟨rfl, hb'⟩
    exact ⟨_, rfl, rfl, hb'⟩
  refine chain_val (u := ?_) [1] rfl (by kernel_rfl) ⟨14, by decide +kernel, rfl, fun w x hx => by simpa using hx⟩ (fun ρ wc hbc hcn hk => ?_) ?_; rotate_left
  · obtain ⟨hcn, -⟩ := hcn
    simp at hk
    obtain ⟨hcc, hff⟩ := bcell hbc
    simp at hcc
    go_simp
    rfl
  refine chain_val (u := .bool true) [17, 18] rfl (by kernel_rfl) ⟨14, by decide +kernel, rfl, fun w x hx => by simpa using hx⟩ (fun ρ wc hbc hcn hk => ?_) ?_
  · obtain ⟨hcn, -⟩ := hcn
    simp at hk
    go_simp
    intro e1 e2 e3 e4 e5 e6 e7 e8 e9 e10
    exact Bool.false_ne_true (HP.out.symm.trans (by unfold peq; exact decide_eq_true ⟨e1, e2, e3, e4, e5, e6, e7, e8, e9, e10⟩))
  refine chain_val (u := ?_) [14, 19] rfl (by kernel_rfl) trivial (fun ρ wc hbc hcn hk => ?_) ?_; rotate_left
  · obtain ⟨hcn, -⟩ := hcn
    simp at hk
    go_simp
    rfl
  refine chain_end_lit 23 rfl (fun ff w2 hb2 hk => ?_)
  refine hKK _ _ ?_
  clear hKK KK
  simp [AllN] at hk
  simp only [frameL, hk]
  obtain ⟨hc2, hf2⟩ := bcell hb2
  have hz2 : w1.heap.size < w2.heap.size := by have := hb2.size; simp at this; omega
  have HB2 := Lib.hid hb2
  clear hb2 hk
  simp at hc2 hf2
  go_wp2
  go_ret2
  refine ⟨rfl, ?_⟩
  refine Below.trans ?_ (HB2.out.mono (by simp; omega))
  repeat (first | with_reducible refine bel_drew ?_ | with_reducible refine Below.alloc ?_ (by first | omega | (simp; omega)) _ | with_reducible refine Below.setCell ?_ (by simp) _)
  exact bel_on ((Below.refl _ _).alloc (Nat.le_refl _) _) HB.out

set_option maxHeartbeats 1000000 in
theorem Encode_no1 (k o d p el c pa sg lo : Int) (db : Bool) (w : World) (hk : k < 0 ∨ 3 < k) :
    Calls Tryd.prog 55 #[.agg #[.int .i64 k, .int .i64 o, .int .i64 d, .int .i64 p, .int .i64 el, .int .i64 c, .bool db, .int .i64 pa, .int .u32 sg, .int .u32 lo]] w fun e w' => e = .returned (.tuple #[.int .u64 0, .bool false]) ∧ Below w.heap.size w w' := by
  have HR := Lib.hid (run_encN k o d p el c pa sg lo db (w.alloc (.cells #[.int .i64 k, .int .i64 o, .int .i64 d, .int .i64 p, .int .i64 el, .int .i64 c, .bool db, .int .i64 pa, .int .u32 sg, .int .u32 lo] 49)) hk)
  clear hk
  go_enter Tryd.func55, Tryd.ntmps55
  go_wp2_with fail
  refine HR.out.mono ?_
  rintro e w1 ⟨rfl, hb⟩
  clear HR
  obtain ⟨hc, hf⟩ := bcell hb
  have hz : w.heap.size < w1.heap.size := by have := hb.size; simp at this; omega
  have HB := Lib.hid hb
  clear hb
  simp at hc hf
  go_wp2_with fail
  rename_i KK hKK
  refine wp_region_chain (by kernel_rfl) (by kernel_rfl) ?_
  refine chain_val (u := ?_) [5] rfl (by kernel_rfl) trivial (fun ρ wc hbc hcn hk => ?_) ?_; rotate_left
  · obtain ⟨hcn, -⟩ := hcn
    simp at hk
    go_simp
    rfl
  refine chain_val (u := ?_) [12] rfl (by kernel_rfl) trivial (fun ρ wc hbc hcn hk => ?_) ?_; rotate_left
  · obtain ⟨hcn, -⟩ := hcn
    simp at hk
    go_simp
    rfl
  refine chain_val (u := ?_) [13] rfl (by kernel_rfl) trivial (fun ρ wc hbc hcn hk => ?_) ?_; rotate_left
  · obtain ⟨hcn, -⟩ := hcn
    simp at hk
    go_simp
    rfl
  refine chain_skip (s := 14) (c := true) rfl rfl (by decide +kernel) rfl rfl (fun w x hx => by simpa using hx) ?_
  refine chain_skip (s := 14) (c := true) rfl rfl (by decide +kernel) rfl rfl (fun w x hx => by simpa using hx) ?_
  refine chain_skip (s := 14) (c := true) rfl rfl (by decide +kernel) rfl rfl (fun w x hx => by simpa using hx) ?_
  refine chain_skip (s := 14) (c := true) rfl rfl (by decide +kernel) rfl rfl (fun w x hx => by simpa using hx) ?_
  refine chain_skip (s := 14) (c := true) rfl rfl (by decide +kernel) rfl rfl (fun w x hx => by simpa using hx) ?_
  refine chain_val (u := ?_) [14, 19] rfl (by kernel_rfl) trivial (fun ρ wc hbc hcn hk => ?_) ?_; rotate_left
  · obtain ⟨hcn, -⟩ := hcn
    simp at hk
    go_simp
    rfl
  refine chain_end_lit 23 rfl (fun ff w2 hb2 hk => ?_)
  refine hKK _ _ ?_
  clear hKK KK
  simp [AllN] at hk
  simp only [frameL, hk]
  obtain ⟨hc2, hf2⟩ := bcell hb2
  have hz2 : w1.heap.size < w2.heap.size := by have := hb2.size; simp at this; omega
  have HB2 := Lib.hid hb2
  clear hb2 hk
  simp at hc2 hf2
  go_wp2
  go_ret2
  refine ⟨rfl, ?_⟩
  refine Below.trans ?_ (HB2.out.mono (by simp; omega))
  repeat (first | with_reducible refine bel_drew ?_ | with_reducible refine Below.alloc ?_ (by first | omega | (simp; omega)) _ | with_reducible refine Below.setCell ?_ (by simp) _)
  exact bel_on ((Below.refl _ _).alloc (Nat.le_refl _) _) HB.out

theorem Encode_any (k o d p el c pa sg lo : Int) (db : Bool) (w : World) :
    Calls Tryd.prog 55 #[.agg #[.int .i64 k, .int .i64 o, .int .i64 d, .int .i64 p, .int .i64 el, .int .i64 c, .bool db, .int .i64 pa, .int .u32 sg, .int .u32 lo]] w fun e w' => e = .returned (.tuple #[.int .u64 (encE ⟨k, o, d, p, el, c, db, pa, sg, lo⟩), .bool (okE ⟨k, o, d, p, el, c, db, pa, sg, lo⟩)]) ∧ Below w.heap.size w w' := by
  by_cases hv : Vld ⟨k, o, d, p, el, c, db, pa, sg, lo⟩
  · have h1 : okE ⟨k, o, d, p, el, c, db, pa, sg, lo⟩ = true := by simp [okE, hv]
    refine (Encode_yes k o d p el c pa sg lo db w hv).mono fun e w' ⟨he, hb⟩ => ⟨he.trans ?_, hb⟩
    rw [encE, h1, if_pos rfl]
  · have h1 : okE ⟨k, o, d, p, el, c, db, pa, sg, lo⟩ = false := by simp [okE, hv]
    have hr : Ending.returned (.tuple #[.int .u64 0, .bool false]) = .returned (.tuple #[.int .u64 (encE ⟨k, o, d, p, el, c, db, pa, sg, lo⟩), .bool (okE ⟨k, o, d, p, el, c, db, pa, sg, lo⟩)]) := by
      rw [encE, h1]; rfl
    by_cases hk : 0 ≤ k ∧ k ≤ 3
    · exact (Encode_no2 k o d p el c pa sg lo db w hk hv).mono fun e w' ⟨he, hb⟩ => ⟨he.trans hr, hb⟩
    · exact (Encode_no1 k o d p el c pa sg lo db w (by omega)).mono fun e w' ⟨he, hb⟩ => ⟨he.trans hr, hb⟩

end Go.Proofs.YtfigoblpkbpenaaDoor
