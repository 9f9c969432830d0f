/- A statement whose order of evaluation is open, whose operations make memory but write none that was there: one walk in the order of the text, with a fact on each operation's value that lasts while memory is made, serves every order. -/
import Derived.Orders
import Derived.Below
namespace Go.Proofs.Ytekcmifgdlmljaa
open Go.RowKit

/-- what is known of a value in a world -/
def Fact : Type := Value → World → Prop
def stable (T : Fact) : Prop := ∀ v w w', T v w → Below w.heap.size w w' → T v w'
def Is (u : Value) : Fact := fun v _ => v = u
theorem stable_is (u : Value) : stable (Is u) := fun _ _ _ h _ => h

def look : List (Tmp × Fact) → Tmp → Option Fact
  | [], _ => none
  | x :: r, s => if x.1 = s then some x.2 else look r s

def Knows (F : List (Tmp × Fact)) (a0 a : Act) (w : World) (s : Tmp) : Prop :=
  match look F s with
  | some T => T (a.tmps.getD s undef) w
  | none => a.tmps.getD s undef = a0.tmps.getD s undef

def After (T : Fact) (a : Act) (dst : Option Tmp) (w : World) (a' : Act) (w' : World) : Prop := ∃ v, a' = a.put dst v ∧ T v w' ∧ Below w.heap.size w w'

def NoWay : Exit → Act → World → Prop := fun _ _ _ => False

def StepOK (P : Program) (ops : Array Oper) (F : List (Tmp × Fact)) (a0 : Act) (w0 : World) (o : Oper) (T : Fact) : Prop :=
  ∀ a w, Below w0.heap.size w0 w → (∀ s ∈ o.looksAt ops, Knows F a0 a w s) →
    if Region.wanted o (yielded ops a.tmps) then o.wp P a w (After T a o.dst w) NoWay else T undef w

def Chain (P : Program) (ops : Array Oper) (a0 : Act) (w0 : World) (Q : Exit → Act → World → Prop) : List Oper → List (Tmp × Fact) → Prop
  | [], F => ∀ a w, Below w0.heap.size w0 w → a.defers = a0.defers → a.tmps.size = a0.tmps.size → (∀ s, s < a0.tmps.size → Knows F a0 a w s) → Q .normal a w
  | o :: r, F => ∃ d T, o.dst = some d ∧ stable T ∧ StepOK P ops F a0 w0 o T ∧ Chain P ops a0 w0 Q r ((d, T) :: F)

def dstAt (l : List Oper) (i : Nat) : Option Tmp := (l[i]?).bind (·.dst)

def chainB (m : Nat) (l : List Oper) : Bool :=
  (List.range l.length).all fun i => match l[i]? with
    | none => true
    | some o =>
      (match o.dst with
       | none => false
       | some d => decide (d < m)) &&
      (List.range l.length).all (fun j => j == i || dstAt l j != o.dst) &&
      o.after.all (fun e => !Region.binds .any e || decide (e.on < i)) &&
      (o.looksAt l.toArray).all (fun s => decide (s < m) && (List.range l.length).all fun j => dstAt l j != some s || o.after.any (fun e => Region.binds .any e && e.on == j))

theorem look_some {F : List (Tmp × Fact)} {s : Tmp} {T : Fact} (h : look F s = some T) : (s, T) ∈ F := by
  induction F with
  | nil => simp [look] at h
  | cons x r ih =>
    unfold look at h
    by_cases hx : x.1 = s
    · rw [if_pos hx] at h
      injection h with h
      subst h
      subst hx
      exact List.mem_cons_self ..
    · rw [if_neg hx] at h
      exact List.mem_cons_of_mem _ (ih h)

theorem look_none {F : List (Tmp × Fact)} {s : Tmp} (h : ∀ x ∈ F, x.1 ≠ s) : look F s = none := by
  induction F with
  | nil => rfl
  | cons x r ih =>
    unfold look
    rw [if_neg (h x (List.mem_cons_self ..))]
    exact ih fun y hy => h y (List.mem_cons_of_mem _ hy)

theorem look_mem {F : List (Tmp × Fact)} {s : Tmp} (h : ∃ x ∈ F, x.1 = s) : ∃ T, look F s = some T := by
  obtain ⟨x, hx, e⟩ := h
  cases hl : look F s with
  | some T => exact ⟨T, rfl⟩
  | none =>
    exfalso
    induction F with
    | nil => simp at hx
    | cons y r ih =>
      unfold look at hl
      by_cases hy : y.1 = s
      · rw [if_pos hy] at hl; cases hl
      · rw [if_neg hy] at hl
        rcases List.mem_cons.1 hx with rfl | hx
        · exact hy e
        · exact ih hx hl

/-- the facts on the first i operations -/
def factsTo (l : List Oper) (Ts : List Fact) : Nat → List (Tmp × Fact)
  | 0 => []
  | i + 1 => match dstAt l i, Ts[i]? with
    | some d, some T => (d, T) :: factsTo l Ts i
    | _, _ => factsTo l Ts i

theorem mem_factsTo {l : List Oper} {Ts : List Fact} {i : Nat} {x : Tmp × Fact} (h : x ∈ factsTo l Ts i) : ∃ j, j < i ∧ dstAt l j = some x.1 ∧ Ts[j]? = some x.2 := by
  induction i with
  | zero => simp [factsTo] at h
  | succ i ih =>
    unfold factsTo at h
    split at h
    · rename_i d T hd hT
      rcases List.mem_cons.1 h with rfl | h
      · exact ⟨i, by omega, hd, hT⟩
      · obtain ⟨j, hj, r⟩ := ih h
        exact ⟨j, by omega, r⟩
    · obtain ⟨j, hj, r⟩ := ih h
      exact ⟨j, by omega, r⟩

theorem factsTo_mem {l : List Oper} {Ts : List Fact} {i j : Nat} (hj : j < i) {d : Tmp} {T : Fact} (hd : dstAt l j = some d) (hT : Ts[j]? = some T) : (d, T) ∈ factsTo l Ts i := by
  induction i with
  | zero => omega
  | succ i ih =>
    unfold factsTo
    by_cases e : j = i
    · subst e
      rw [hd, hT]
      exact List.mem_cons_self ..
    · have := ih (by omega)
      split
      · exact List.mem_cons_of_mem _ this
      · exact this

/-- a chain gives the facts one by one -/
theorem chain_facts {P : Program} {ops : Array Oper} {a0 : Act} {w0 : World} {Q : Exit → Act → World → Prop} {l : List Oper} :
    ∀ (r : List Oper) (i : Nat) (Ts : List Fact), Ts.length = i → l.drop i = r → i ≤ l.length → Chain P ops a0 w0 Q r (factsTo l Ts i) →
      (∀ (j : Nat) (T : Fact), Ts[j]? = some T → stable T) →
      (∀ (j : Nat) (o : Oper) (T : Fact), l[j]? = some o → Ts[j]? = some T → StepOK P ops (factsTo l Ts j) a0 w0 o T) →
      ∃ Us : List Fact, Us.length = l.length ∧ (∀ (j : Nat) (T : Fact), Us[j]? = some T → stable T) ∧
        (∀ (j : Nat) (o : Oper) (T : Fact), l[j]? = some o → Us[j]? = some T → StepOK P ops (factsTo l Us j) a0 w0 o T) ∧ Chain P ops a0 w0 Q [] (factsTo l Us l.length) := by
  intro r
  induction r with
  | nil =>
    intro i Ts hT hd hi hc hs hst
    have : i = l.length := by
      have := congrArg List.length hd
      simp at this
      omega
    subst this
    exact ⟨Ts, hT, hs, hst, hc⟩
  | cons o r ih =>
    intro i Ts hT hd hi hc hs hst
    obtain ⟨d, T, hdst, hstab, hstep, hrest⟩ := hc
    have hlt : i < l.length := by
      have := congrArg List.length hd
      simp at this
      omega
    have hli : l[i]? = some o := by
      have := congrArg (fun x => x[0]?) hd
      simpa using this
    have hdi : dstAt l i = some d := by simp [dstAt, hli, hdst]
    have hfacts : ∀ j, j ≤ i → factsTo l (Ts ++ [T]) j = factsTo l Ts j := by
      intro j
      induction j with
      | zero => intro _; rfl
      | succ j ihj =>
        intro hj
        unfold factsTo
        rw [ihj (by omega), List.getElem?_append_left (by omega)]
    have hget : (Ts ++ [T])[i]? = some T := by rw [List.getElem?_append_right (by omega)]; simp [hT]
    refine ih (i + 1) (Ts ++ [T]) (by simp [hT]) ?_ (by omega) ?_ ?_ ?_
    · rw [← List.drop_drop, hd]; rfl
    · have e : factsTo l (Ts ++ [T]) (i + 1) = (d, T) :: factsTo l Ts i := by
        rw [factsTo, hdi, hget, hfacts i (Nat.le_refl _)]
      rw [e]
      exact hrest
    · intro j U hU
      by_cases hj : j < Ts.length
      · rw [List.getElem?_append_left hj] at hU
        exact hs j U hU
      · rw [List.getElem?_append_right (by omega)] at hU
        have : j - Ts.length = 0 := by
          rcases Nat.eq_zero_or_pos (j - Ts.length) with h | h
          · exact h
          · rw [List.getElem?_eq_none (by simp; omega)] at hU; cases hU
        rw [this] at hU
        simp at hU
        subst hU
        exact hstab
    · intro j o' U ho' hU
      by_cases hj : j < Ts.length
      · rw [List.getElem?_append_left hj] at hU
        rw [hfacts j (by omega)]
        exact hst j o' U ho' hU
      · rw [List.getElem?_append_right (by omega)] at hU
        have h0 : j - Ts.length = 0 := by
          rcases Nat.eq_zero_or_pos (j - Ts.length) with h | h
          · exact h
          · rw [List.getElem?_eq_none (by simp; omega)] at hU; cases hU
        rw [h0] at hU
        simp at hU
        subst hU
        obtain rfl : j = i := by omega
        rw [hli] at ho'
        injection ho' with ho'
        subst ho'
        rw [hfacts j (Nat.le_refl _)]
        exact hstep


/-- what holds while the operations come up -/
structure Inv (l : List Oper) (Ts : List Fact) (a0 : Act) (w0 : World) (listed : Array Bool) (a : Act) (w : World) : Prop where
  below : Below w0.heap.size w0 w
  defers : a.defers = a0.defers
  size : a.tmps.size = a0.tmps.size
  done : ∀ (j : Nat) (d : Tmp) (T : Fact), listed.getD j false = true → dstAt l j = some d → Ts[j]? = some T → T (a.tmps.getD d undef) w
  rest : ∀ s : Tmp, (∀ j, listed.getD j false = true → dstAt l j ≠ some s) → a.tmps.getD s undef = a0.tmps.getD s undef

theorem chainB_at {m : Nat} {l : List Oper} (h : chainB m l = true) {i : Nat} {o : Oper} (ho : l[i]? = some o) :
    (∃ d, o.dst = some d ∧ d < m) ∧ (∀ j, j < l.length → j ≠ i → dstAt l j ≠ o.dst) ∧ (∀ e ∈ o.after, Region.binds .any e = true → e.on < i) ∧
    (∀ s ∈ o.looksAt l.toArray, s < m ∧ ∀ j, j < l.length → dstAt l j = some s → ∃ e ∈ o.after, Region.binds .any e = true ∧ e.on = j) := by
  have hlt : i < l.length := by
    rcases Nat.lt_or_ge i l.length with h1 | h1
    · exact h1
    · rw [List.getElem?_eq_none h1] at ho; cases ho
  unfold chainB at h
  rw [List.all_eq_true] at h
  have h1 := h i (List.mem_range.2 hlt)
  rw [ho] at h1
  simp only [Bool.and_eq_true, List.all_eq_true, List.mem_range, Bool.or_eq_true, beq_iff_eq, bne_iff_ne, Bool.not_eq_true', decide_eq_true_eq, Array.all_eq_true_iff_forall_mem, Array.any_eq_true'] at h1
  obtain ⟨⟨⟨h2, h3⟩, h4⟩, h5⟩ := h1
  refine ⟨?_, fun j hj hne => ?_, fun e he hb => ?_, fun s hs => ⟨(h5 s hs).1, fun j hj hd => ?_⟩⟩
  · cases hd : o.dst with
    | none => rw [hd] at h2; cases h2
    | some d => rw [hd] at h2; exact ⟨d, rfl, by simpa using h2⟩
  · rcases h3 j hj with h | h
    · exact absurd h hne
    · exact h
  · rcases h4 e he with h | h
    · rw [h] at hb; cases hb
    · exact h
  · rcases (h5 s hs).2 j hj with h | ⟨e, he, hb⟩
    · exact absurd hd h
    · exact ⟨e, he, hb⟩

theorem getD_put_same {a : Act} {d : Tmp} {v : Value} (h : d < a.tmps.size) : (a.put (some d) v).tmps.getD d undef = v := by
  simp [Act.put, Array.getD, h]
theorem getD_put_ne {a : Act} {d s : Tmp} {v : Value} (h : d ≠ s) : (a.put (some d) v).tmps.getD s undef = a.tmps.getD s undef := by
  simp [Act.put, Array.getElem?_setIfInBounds_ne h]

theorem wpOp_noWay {P : Program} {ops : Array Oper} {Q : Exit → Act → World → Prop} {i : Nat} {o : Oper} {a : Act} {w : World} {K K' : Act → World → Prop} (hi : ops[i]? = some o)
    (hk : ∀ a' w', K a' w' → K' a' w')
    (h : if Region.wanted o (yielded ops a.tmps) then o.wp P a w K NoWay else K (a.put o.dst undef) w) : wpOp P ops Q i K' a w := by
  unfold wpOp
  rw [hi]
  simp only
  by_cases hw : Region.wanted o (yielded ops a.tmps) = true
  · rw [if_pos hw] at h ⊢
    left
    unfold Oper.wp at *
    generalize (execOp a.eval o).run P w = r at *
    cases r with
    | ok n w' =>
      cases n <;> simp only [Oper.upon] at h ⊢ <;>
        first
          | exact hk _ _ h
          | exact Calls.mono h (fun e w'' he => by
              cases e with
              | returned v => exact hk _ _ he
              | panicked c => exact he.elim
              | outgrown => obtain ⟨_, _, h'⟩ := he; exact h'.elim)
          | exact Rows.mono h (fun _ _ he => hk _ _ he)
    | halt x w' => cases x <;> simp only [Oper.upon] at h ⊢ <;> exact h.elim
  · rw [if_neg hw] at h ⊢
    exact hk _ _ h


theorem getD_set_cases {listed : Array Bool} {i j : Nat} (h : (listed.setIfInBounds i true).getD j false = true) : j = i ∨ listed.getD j false = true := by
  by_cases e : i = j
  · exact .inl e.symm
  · right
    rwa [getD_set_ne false e] at h

theorem getD_ff {listed : Array Bool} {j : Nat} (h : listed.getD j true = false) : listed.getD j false = false := by
  simp only [Array.getD_eq_getD_getElem?] at *
  cases hj : listed[j]? with
  | none => rfl
  | some b => rw [hj] at h; exact h

theorem countP_lt {l : List Nat} {p q : Nat → Bool} {i : Nat} (h : ∀ x ∈ l, q x = true → p x = true) (hi : i ∈ l) (hp : p i = true) (hq : q i = false) : l.countP q < l.countP p := by
  induction l with
  | nil => cases hi
  | cons x r ih =>
    have hr : r.countP q ≤ r.countP p := List.countP_mono_left fun y hy => h y (List.mem_cons_of_mem _ hy)
    rw [List.countP_cons, List.countP_cons]
    rcases List.mem_cons.1 hi with rfl | hi
    · rw [hp, hq]; simp; omega
    · have := ih (fun y hy => h y (List.mem_cons_of_mem _ hy)) hi
      have hx := h x (List.mem_cons_self ..)
      cases hqx : q x with
      | false => simp; omega
      | true => rw [hx hqx]; simp; omega

theorem inv_any {P : Program} {l : List Oper} {Ts : List Fact} {a0 : Act} {w0 : World} {Q : Exit → Act → World → Prop} (hB : chainB a0.tmps.size l = true) (hlen : Ts.length = l.length)
    (hst : ∀ (j : Nat) (T : Fact), Ts[j]? = some T → stable T)
    (hstep : ∀ (j : Nat) (o : Oper) (T : Fact), l[j]? = some o → Ts[j]? = some T → StepOK P l.toArray (factsTo l Ts j) a0 w0 o T)
    (hend : Chain P l.toArray a0 w0 Q [] (factsTo l Ts l.length)) :
    ∀ (fuel : Nat) (listed : Array Bool) (a : Act) (w : World), listed.size = l.length → (∃ n, n ≤ fuel ∧ n = (List.range l.length).countP (fun j => !listed.getD j true)) → Inv l Ts a0 w0 listed a w → wpAny P .any l.toArray Q fuel listed a w := by
  have hfin : ∀ (listed : Array Bool) (a : Act) (w : World), listed.size = l.length → Region.ready .any l.toArray listed = [] → Inv l Ts a0 w0 listed a w → Q .normal a w := by
    intro listed a w hsz hr hI
    have hall : ∀ j, j < l.length → listed.getD j false = true := by
      intro j
      induction j using Nat.strongRecOn with
      | _ j ih =>
        intro hj
        cases hb : listed.getD j false with
        | true => rfl
        | false =>
          exfalso
          have hj' : l[j]? = some l[j] := List.getElem?_eq_getElem hj
          have hc := chainB_at hB hj'
          have hm : j ∈ Region.ready .any l.toArray listed := by
            rw [mem_ready]
            refine ⟨?_, l[j], by simp [hj], fun e he hbi => ih e.on (hc.2.2.1 e he hbi) (Nat.lt_trans (hc.2.2.1 e he hbi) hj)⟩
            have : j < listed.size := by omega
            simp only [Array.getD_eq_getD_getElem?, Array.getElem?_eq_getElem this, Option.getD_some] at hb ⊢
            exact hb
          rw [hr] at hm
          cases hm
    refine hend a w hI.below hI.defers hI.size fun s hs => ?_
    unfold Knows
    cases hl : look (factsTo l Ts l.length) s with
    | some T =>
      obtain ⟨j, hj, hd, hT⟩ := mem_factsTo (look_some hl)
      exact hI.done j s T (hall j hj) hd hT
    | none =>
      refine hI.rest s fun j hj hd => ?_
      have hjl : j < l.length := by
        rcases Nat.lt_or_ge j l.length with h1 | h1
        · exact h1
        · simp [dstAt, List.getElem?_eq_none h1] at hd
      have hT : Ts[j]? = some (Ts[j]'(by omega)) := List.getElem?_eq_getElem (by omega)
      obtain ⟨T, hT'⟩ := look_mem ⟨_, factsTo_mem (i := l.length) hjl hd hT, rfl⟩
      rw [hT'] at hl
      cases hl
  intro fuel
  induction fuel with
  | zero =>
    intro listed a w hsz hn hI
    obtain ⟨n, hn0, hn⟩ := hn
    have hr : Region.ready .any l.toArray listed = [] := by
      rw [List.eq_nil_iff_forall_not_mem]
      intro j hj
      obtain ⟨hu, o, ho, _⟩ := mem_ready.1 hj
      have hjl : j < l.length := by
        rcases Nat.lt_or_ge j l.length with h1 | h1
        · exact h1
        · simp [h1] at ho
      have : 0 < (List.range l.length).countP (fun j => !listed.getD j true) := List.countP_pos_iff.2 ⟨j, List.mem_range.2 hjl, by simp [hu]⟩
      omega
    exact ⟨hr, hfin listed a w hsz hr hI⟩
  | succ fuel ih =>
    intro listed a w hsz hn hI
    refine ⟨fun hr => hfin listed a w hsz hr hI, fun i hi => ?_⟩
    obtain ⟨hu, o, ho, hedges⟩ := mem_ready.1 hi
    have hol : l[i]? = some o := by simpa using ho
    have hil : i < l.length := by
      rcases Nat.lt_or_ge i l.length with h1 | h1
      · exact h1
      · rw [List.getElem?_eq_none h1] at hol; cases hol
    obtain ⟨⟨d, hd, hdm⟩, hdis, hbe, hlook⟩ := chainB_at hB hol
    have hdi : dstAt l i = some d := by simp [dstAt, hol, hd]
    have hTi : Ts[i]? = some (Ts[i]'(by omega)) := List.getElem?_eq_getElem (by omega)
    have hS := hstep i o _ hol hTi a w hI.below (fun s hs => by
      unfold Knows
      cases hl : look (factsTo l Ts i) s with
      | some T =>
        obtain ⟨j, hj, hdj, hTj⟩ := mem_factsTo (look_some hl)
        obtain ⟨e, he, hb, rfl⟩ := (hlook s hs).2 j (by omega) hdj
        exact hI.done _ s T (hedges e he hb) hdj hTj
      | none =>
        refine hI.rest s fun j hj hdj => ?_
        have hjl : j < l.length := by
          rcases Nat.lt_or_ge j l.length with h1 | h1
          · exact h1
          · simp [dstAt, List.getElem?_eq_none h1] at hdj
        obtain ⟨e, he, hb, rfl⟩ := (hlook s hs).2 j hjl hdj
        have hlt := hbe e he hb
        have hT : Ts[e.on]? = some (Ts[e.on]'(by omega)) := List.getElem?_eq_getElem (by omega)
        obtain ⟨T, hT'⟩ := look_mem ⟨_, factsTo_mem (i := i) hlt hdj hT, rfl⟩
        rw [hT'] at hl
        cases hl)
    refine wpOp_noWay ho (K := After (Ts[i]'(by omega)) a o.dst w) ?_ ?_
    · rintro a' w' ⟨v, rfl, hT, hbel⟩
      have hds : d < a.tmps.size := by rw [hI.size]; exact hdm
      refine ih _ _ _ (by simpa using hsz) ?_ ⟨hI.below.trans (hbel.mono hI.below.size), ?_, ?_, ?_, ?_⟩
      · obtain ⟨n, hn0, hn⟩ := hn
        refine ⟨_, ?_, rfl⟩
        have hlt : (List.range l.length).countP (fun j => !(listed.setIfInBounds i true).getD j true) < (List.range l.length).countP (fun j => !listed.getD j true) := by
          refine countP_lt (i := i) (fun x _ hx => ?_) (List.mem_range.2 hil) (by simp [hu]) ?_
          · by_cases e : i = x
            · subst e; simp [hu]
            · rw [getD_set_ne true e] at hx; exact hx
          · have : i < listed.size := by omega
            simp [this]
        omega
      · rw [hd]; exact hI.defers
      · rw [hd]; simp [Act.put, hI.size]
      · intro j d' T hj hdj hTj
        rw [hd]
        rcases getD_set_cases hj with rfl | hj2
        · rw [hdi] at hdj
          injection hdj with hdj
          subst hdj
          rw [hTi] at hTj
          injection hTj with hTj
          subst hTj
          rw [getD_put_same hds]
          exact hT
        · have hne : d ≠ d' := by
            rintro rfl
            have hji : j ≠ i := by
              rintro rfl
              rw [getD_ff hu] at hj2
              cases hj2
            have hjl : j < l.length := by
              rcases Nat.lt_or_ge j l.length with h1 | h1
              · exact h1
              · simp [dstAt, List.getElem?_eq_none h1] at hdj
            exact hdis j hjl hji (by rw [hdj, hd])
          rw [getD_put_ne hne]
          exact hst j T hTj _ _ _ (hI.done j d' T hj2 hdj hTj) hbel
      · intro s hs
        have hne : d ≠ s := by
          rintro rfl
          refine hs i ?_ hdi
          have : i < listed.size := by omega
          simp [this]
        rw [hd, getD_put_ne hne]
        refine hI.rest s fun j hj hdj => hs j (getD_set_true hj) hdj
    · by_cases hw : Region.wanted o (yielded l.toArray a.tmps) = true
      · rw [if_pos hw] at hS ⊢
        exact hS
      · rw [if_neg hw] at hS ⊢
        exact ⟨undef, rfl, hS, Below.refl _ _⟩

/-- the rule: one walk in the order of the text -/
theorem wp_region_chain {P : Program} {id : Nat} {l : List Oper} {Q : Exit → Act → World → Prop} {a : Act} {w : World} (hm : P.follows .mixedOrders = true) (hB : chainB a.tmps.size l = true)
    (h : Chain P l.toArray a w.drew Q l []) : (Code.region id l.toArray true).wp P Q a w := by
  obtain ⟨Us, hlen, hst, hstep, hend⟩ := chain_facts (l := l) l 0 [] rfl rfl (Nat.zero_le _) h (fun j T hT => by simp at hT) (fun j o T _ hT => by simp at hT)
  refine wp_region_any hm ?_
  refine inv_any hB hlen hst hstep hend _ _ _ _ (by simp) ⟨_, ?_, rfl⟩ ⟨Below.refl _ _, rfl, rfl, ?_, fun s _ => rfl⟩
  · refine Nat.le_trans List.countP_le_length ?_
    simp
  · intro j d T hj
    exfalso
    by_cases hlt : j < l.length <;> simp [hlt] at hj


/-! ## The steps of a chain -/
/-- what is known of the value x of slot s -/
def KnowsV (F : List (Tmp × Fact)) (a0 : Act) (w : World) (s : Tmp) (x : Value) : Prop :=
  match look F s with
  | some T => T x w
  | none => x = a0.tmps.getD s undef

def AllK (F : List (Tmp × Fact)) (a0 : Act) (w : World) (ρ : Operand → Value) : List Tmp → Prop
  | [] => True
  | s :: r => KnowsV F a0 w s (ρ (.tmp s)) ∧ AllK F a0 w ρ r

theorem allK_of {F : List (Tmp × Fact)} {a0 a : Act} {w : World} {X L : List Tmp} (h : ∀ s ∈ X, Knows F a0 a w s) (hL : (L.all fun s => X.contains s) = true) : AllK F a0 w a.eval L := by
  induction L with
  | nil => trivial
  | cons s r ih =>
    simp only [List.all_cons, Bool.and_eq_true] at hL
    exact ⟨h s (by simpa using hL.1), ih hL.2⟩

/-- the constants of an evaluation of operands -/
def Plain (ρ : Operand → Value) : Prop := (∀ v, ρ (.const v) = v) ∧ (∀ f, ρ (.func f) = .func (.func f) #[] #[])

theorem plain_eval (a : Act) : Plain a.eval := ⟨fun _ => rfl, fun _ => rfl⟩

/-- is the operation carried out? Its guard's value is known. -/
def GuardOK (ops : Array Oper) (F : List (Tmp × Fact)) (a0 : Act) (o : Oper) : Prop :=
  match o.guard with
  | none => True
  | some (g, b) => ∃ s, s ∈ o.looksAt ops ∧ (ops[g]?).bind (·.dst) = some s ∧ ∀ w x, KnowsV F a0 w s x → x = .bool b

theorem wanted_of {ops : Array Oper} {F : List (Tmp × Fact)} {a0 a : Act} {w : World} {o : Oper} (hg : GuardOK ops F a0 o) (h : ∀ s ∈ o.looksAt ops, Knows F a0 a w s) : Region.wanted o (yielded ops a.tmps) = true := by
  unfold GuardOK at hg
  unfold Region.wanted
  split at hg
  · rename_i h0; rw [h0]
  · rename_i g b h0
    rw [h0]
    obtain ⟨s, hs, hb, hv⟩ := hg
    have hx := hv w _ (h s hs)
    have : yielded ops a.tmps g = some b := by
      unfold yielded
      rw [hb]
      simp only [Option.bind_some]
      simp only [Array.getD_eq_getD_getElem?] at hx
      cases ht : a.tmps[s]? with
      | none => rw [ht] at hx; simp [undef] at hx
      | some v => rw [ht] at hx; simp at hx; subst hx; rfl
    simp [this]

section
variable {P : Program} {ops : Array Oper} {a0 : Act} {w0 : World} {Q : Exit → Act → World → Prop} {o : Oper} {r : List Oper} {F : List (Tmp × Fact)} {d : Tmp}

/-- an operation that leaves a known value and the world as it was -/
theorem chain_val {u : Value} (L : List Tmp) (hd : o.dst = some d) (hL : (L.all fun s => (o.looksAt ops).contains s) = true) (hg : GuardOK ops F a0 o)
    (h : ∀ ρ w, Below w0.heap.size w0 w → Plain ρ → AllK F a0 w ρ L → (execOp ρ o).run P w = .ok (.value u) w) (hr : Chain P ops a0 w0 Q r ((d, Is u) :: F)) : Chain P ops a0 w0 Q (o :: r) F := by
  refine ⟨d, Is u, hd, stable_is u, fun a w hb hk => ?_, hr⟩
  rw [if_pos (wanted_of hg hk)]
  unfold Oper.wp
  rw [h a.eval w hb (plain_eval a) (allK_of hk hL)]
  exact ⟨u, rfl, rfl, Below.refl _ _⟩

/-- an operation that makes memory -/
theorem chain_new {T : Fact} (L : List Tmp) (hd : o.dst = some d) (hL : (L.all fun s => (o.looksAt ops).contains s) = true) (hg : GuardOK ops F a0 o) (hs : stable T)
    (h : ∀ ρ w, Below w0.heap.size w0 w → Plain ρ → AllK F a0 w ρ L → ∃ v w', (execOp ρ o).run P w = .ok (.value v) w' ∧ T v w' ∧ Below w.heap.size w w') (hr : Chain P ops a0 w0 Q r ((d, T) :: F)) : Chain P ops a0 w0 Q (o :: r) F := by
  refine ⟨d, T, hd, hs, fun a w hb hk => ?_, hr⟩
  rw [if_pos (wanted_of hg hk)]
  obtain ⟨v, w', h1, h2, h3⟩ := h a.eval w hb (plain_eval a) (allK_of hk hL)
  unfold Oper.wp
  rw [h1]
  exact ⟨v, rfl, h2, h3⟩

/-- a call -/
theorem chain_call {T : Fact} (f : FuncId) (L : List Tmp) (hd : o.dst = some d) (hL : (L.all fun s => (o.looksAt ops).contains s) = true) (hg : GuardOK ops F a0 o) (hs : stable T)
    (h : ∀ ρ w, Below w0.heap.size w0 w → Plain ρ → AllK F a0 w ρ L → ∃ args, (execOp ρ o).run P w = .ok (.enter f args) w ∧ Calls P f args w fun e w' => ∃ v, e = .returned v ∧ T v w' ∧ Below w.heap.size w w') (hr : Chain P ops a0 w0 Q r ((d, T) :: F)) : Chain P ops a0 w0 Q (o :: r) F := by
  refine ⟨d, T, hd, hs, fun a w hb hk => ?_, hr⟩
  rw [if_pos (wanted_of hg hk)]
  obtain ⟨args, h1, h2⟩ := h a.eval w hb (plain_eval a) (allK_of hk hL)
  unfold Oper.wp
  rw [h1]
  refine h2.mono fun e w' ⟨v, he, hT, hbel⟩ => ?_
  subst he
  exact ⟨v, rfl, hT, hbel⟩

/-- an operation that is not carried out: its guard is known to say no -/
theorem chain_skip {g s : Nat} {b c : Bool} (hgd : o.guard = some (g, b)) (hd : o.dst = some d) (hs : s ∈ o.looksAt ops) (hb : (ops[g]?).bind (·.dst) = some s) (hbc : (c == b) = false)
    (hv : ∀ w x, KnowsV F a0 w s x → x = .bool c) (hr : Chain P ops a0 w0 Q r ((d, Is undef) :: F)) : Chain P ops a0 w0 Q (o :: r) F := by
  refine ⟨d, Is undef, hd, stable_is _, fun a w _ hk => ?_, hr⟩
  have hx := hv w _ (hk s hs)
  have hy : yielded ops a.tmps g = some c := by
    unfold yielded
    rw [hb]
    simp only [Option.bind_some]
    simp only [Array.getD_eq_getD_getElem?] at hx
    cases ht : a.tmps[s]? with
    | none => rw [ht] at hx; simp [undef] at hx
    | some v => rw [ht] at hx; simp at hx; subst hx; rfl
  have hw : Region.wanted o (yielded ops a.tmps) = false := by
    unfold Region.wanted
    rw [hgd]
    simp only [hy]
    cases c <;> cases b <;> simp_all
  rw [if_neg (by rw [hw]; exact Bool.false_ne_true)]
  rfl

/-- the end: the slots that are still wanted -/
theorem chain_end (h : ∀ a w, Below w0.heap.size w0 w → a.defers = a0.defers → (∀ s, s < a0.tmps.size → KnowsV F a0 w s (a.tmps.getD s undef)) → Q .normal a w) : Chain P ops a0 w0 Q [] F :=
  fun a w hb hd _ hk => h a w hb hd hk
end

/-- P of the first n numbers -/
def AllN (P : Nat → Prop) : Nat → Nat → Prop
  | 0, _ => True
  | n + 1, s => P s ∧ AllN P n (s + 1)

theorem allN_of {P : Nat → Prop} : ∀ (n s : Nat), (∀ j, s ≤ j → j < s + n → P j) → AllN P n s
  | 0, _, _ => trivial
  | n + 1, s, h => ⟨h s (Nat.le_refl _) (by omega), allN_of n (s + 1) fun j h1 h2 => h j (by omega) (by omega)⟩

/-- the frame that a function of the slots lays -/
def frameL (f : Tmp → Value) : Nat → Nat → List Value
  | 0, _ => []
  | n + 1, s => f s :: frameL f n (s + 1)

theorem frameL_length (f : Tmp → Value) : ∀ n s, (frameL f n s).length = n
  | 0, _ => rfl
  | n + 1, s => by simp [frameL, frameL_length f n (s + 1)]

theorem frameL_get (f : Tmp → Value) : ∀ (n s j : Nat), j < n → (frameL f n s)[j]? = some (f (s + j))
  | 0, _, _, h => by omega
  | n + 1, s, 0, _ => by simp [frameL]
  | n + 1, s, j + 1, h => by
    simp only [frameL, List.getElem?_cons_succ]
    rw [frameL_get f n (s + 1) j (by omega), show s + 1 + j = s + (j + 1) by omega]

section
variable {P : Program} {ops : Array Oper} {a0 : Act} {w0 : World} {Q : Exit → Act → World → Prop} {F : List (Tmp × Fact)}
/-- the end, where more code follows: the frame slot by slot -/
theorem chain_end_lit (n : Nat) (hn : a0.tmps.size = n)
    (h : ∀ (f : Tmp → Value) (w : World), Below w0.heap.size w0 w → AllN (fun s => KnowsV F a0 w s (f s)) n 0 → Q .normal { tmps := (frameL f n 0).toArray, defers := a0.defers } w) : Chain P ops a0 w0 Q [] F := by
  intro a w hb hd hs hk
  have e : a = { tmps := (frameL (fun s => a.tmps.getD s undef) n 0).toArray, defers := a0.defers } := by
    obtain ⟨tm, df⟩ := a
    simp only at hd hs
    subst hd
    congr 1
    apply Array.ext'
    apply List.ext_getElem?
    intro j
    by_cases hj : j < n
    · rw [show ((frameL (fun s => tm.getD s undef) n 0).toArray.toList) = frameL (fun s => tm.getD s undef) n 0 from rfl, frameL_get _ _ _ _ hj]
      have : j < tm.size := by omega
      simp [this]
    · rw [show ((frameL (fun s => tm.getD s undef) n 0).toArray.toList) = frameL (fun s => tm.getD s undef) n 0 from rfl]
      rw [List.getElem?_eq_none (by simp; omega), List.getElem?_eq_none (by rw [frameL_length]; omega)]
  rw [e]
  exact h _ w hb (allN_of n 0 fun j _ hj => hk j (by rw [hn]; omega))
end
end Go.Proofs.Ytekcmifgdlmljaa
