/- A statement whose order of evaluation is open and that makes one store, into memory of its own: one walk in the order of the text (see XRegion; a store has no slot: its fact is on the pointer's slot). -/
import Derived.Test.YtlbfinacofjedaaRegion
namespace Go.Proofs.Ytlbfinacofjedaa
open Go.RowKit
set_option linter.unusedVariables false
set_option linter.unusedSimpArgs false

/-- what a store into memory at or behind B does to the world -/
structure StoreRel (B : Nat) (w w' : World) : Prop where
  below : Below B w w'
  size : w'.heap.size = w.heap.size
  cell : ∀ q, (w.cell? q).isSome = true → (w'.cell? q).isSome = true
  frozen : ∀ q, w'.frozen? q = w.frozen? q
def stableS (B : Nat) (T : Fact) : Prop := ∀ v w w', T v w → StoreRel B w w' → T v w'
theorem stableS_is (B : Nat) (u : Value) : stableS B (Is u) := fun _ _ _ h _ => h

def storeKey (o : Oper) : Option Tmp := match o.op with
  | .store _ (.tmp p) _ => some p
  | _ => none
def keyOf (o : Oper) : Option Tmp := match o.dst with
  | some d => some d
  | none => storeKey o
def keyAt (l : List Oper) (i : Nat) : Option Tmp := (l[i]?).bind keyOf

def AfterS (B : Nat) (k : Tmp) (T : Fact) (a : Act) (w : World) (a' : Act) (w' : World) : Prop := a' = a ∧ T (a.tmps.getD k undef) w' ∧ StoreRel B w w'

def StoreOK (P : Program) (ops : Array Oper) (F : List (Tmp × Fact)) (a0 : Act) (w0 : World) (o : Oper) (k : Tmp) (T : Fact) : Prop :=
  ∀ a w, Below w0.heap.size w0 w → (∀ s ∈ o.looksAt ops, Knows F a0 a w s) →
    if Region.wanted o (yielded ops a.tmps) then o.wp P a w (AfterS w0.heap.size k T a w) NoWay else False

/-- one operation's facts: of one with a slot, or of a store -/
def Step2 (P : Program) (ops : Array Oper) (F : List (Tmp × Fact)) (a0 : Act) (w0 : World) (o : Oper) (k : Tmp) (T : Fact) : Prop :=
  (o.dst = some k ∧ stableS w0.heap.size T ∧ StepOK P ops F a0 w0 o T) ∨ (o.dst = none ∧ storeKey o = some k ∧ StoreOK P ops F a0 w0 o k T)

def Chain2 (P : Program) (ops : Array Oper) (a0 : Act) (w0 : World) (Q : Exit → Act → World → Prop) : List Oper → List (Tmp × Fact) → Prop
  | [], F => ∀ a w, Below w0.heap.size w0 w → a.defers = a0.defers → a.tmps.size = a0.tmps.size → (∀ s, s < a0.tmps.size → Knows F a0 a w s) → Q .normal a w
  | o :: r, F => ∃ k T, stable T ∧ Step2 P ops F a0 w0 o k T ∧ Chain2 P ops a0 w0 Q r ((k, T) :: F)

def chainBS (m : Nat) (l : List Oper) : Bool :=
  (List.range l.length).all fun i => match l[i]? with
    | none => true
    | some o =>
      (match o.dst with
       | none => (List.range l.length).all fun j => j == i || (dstAt l j).isSome
       | some d => decide (d < m) && (List.range l.length).all fun j => j == i || dstAt l j != some d) &&
      (match keyOf o with
       | none => false
       | some k => o.dst.isSome || (o.looksAt l.toArray).contains k) &&
      o.after.all (fun e => !Region.binds .any e || decide (e.on < i)) &&
      (o.looksAt l.toArray).all (fun s => decide (s < m) && (List.range l.length).all fun j => j == i || keyAt l j != some s || o.after.any (fun e => Region.binds .any e && e.on == j))

def facts2 (l : List Oper) (Ts : List Fact) : Nat → List (Tmp × Fact)
  | 0 => []
  | i + 1 => match keyAt l i, Ts[i]? with
    | some d, some T => (d, T) :: facts2 l Ts i
    | _, _ => facts2 l Ts i

theorem mem_facts2 {l : List Oper} {Ts : List Fact} {i : Nat} {x : Tmp × Fact} (h : x ∈ facts2 l Ts i) : ∃ j, j < i ∧ keyAt l j = some x.1 ∧ Ts[j]? = some x.2 := by
  induction i with
  | zero => simp [facts2] at h
  | succ i ih =>
    unfold facts2 at h
    split at h
    · rename_i d T hd hT
      rcases List.mem_cons.1 h with rfl | h
      · exact ⟨i, by omega, hd, hT⟩
      · obtain ⟨j, hj, r⟩ := ih h
        exact ⟨j, by omega, r⟩
    · obtain ⟨j, hj, r⟩ := ih h
      exact ⟨j, by omega, r⟩

theorem facts2_mem {l : List Oper} {Ts : List Fact} {i j : Nat} (hj : j < i) {d : Tmp} {T : Fact} (hd : keyAt l j = some d) (hT : Ts[j]? = some T) : (d, T) ∈ facts2 l Ts i := by
  induction i with
  | zero => omega
  | succ i ih =>
    unfold facts2
    by_cases e : j = i
    · subst e
      rw [hd, hT]
      exact List.mem_cons_self ..
    · have := ih (by omega)
      split
      · exact List.mem_cons_of_mem _ this
      · exact this

theorem key_of_step {P : Program} {ops : Array Oper} {F : List (Tmp × Fact)} {a0 : Act} {w0 : World} {o : Oper} {k : Tmp} {T : Fact} (h : Step2 P ops F a0 w0 o k T) : keyOf o = some k := by
  unfold keyOf
  rcases h with ⟨h, _⟩ | ⟨h, h2, _⟩
  · rw [h]
  · rw [h]; exact h2

/-- a chain gives the facts one by one -/
theorem chain2_facts {P : Program} {ops : Array Oper} {a0 : Act} {w0 : World} {Q : Exit → Act → World → Prop} {l : List Oper} :
    ∀ (r : List Oper) (i : Nat) (Ts : List Fact), Ts.length = i → l.drop i = r → i ≤ l.length → Chain2 P ops a0 w0 Q r (facts2 l Ts i) →
      (∀ (j : Nat) (T : Fact), Ts[j]? = some T → stable T) →
      (∀ (j : Nat) (o : Oper) (T : Fact), l[j]? = some o → Ts[j]? = some T → ∃ k, Step2 P ops (facts2 l Ts j) a0 w0 o k T) →
      ∃ Us : List Fact, Us.length = l.length ∧ (∀ (j : Nat) (T : Fact), Us[j]? = some T → stable T) ∧
        (∀ (j : Nat) (o : Oper) (T : Fact), l[j]? = some o → Us[j]? = some T → ∃ k, Step2 P ops (facts2 l Us j) a0 w0 o k T) ∧ Chain2 P ops a0 w0 Q [] (facts2 l Us l.length) := by
  intro r
  induction r with
  | nil =>
    intro i Ts hT hd hi hc hs hst
    have : i = l.length := by
      have := congrArg List.length hd
      simp at this
      omega
    subst this
    exact ⟨Ts, hT, hs, hst, hc⟩
  | cons o r ih =>
    intro i Ts hT hd hi hc hs hst
    obtain ⟨d, T, hstab, hstep, hrest⟩ := hc
    have hlt : i < l.length := by
      have := congrArg List.length hd
      simp at this
      omega
    have hli : l[i]? = some o := by
      have := congrArg (fun x => x[0]?) hd
      simpa using this
    have hdi : keyAt l i = some d := by
      unfold keyAt
      rw [hli]
      exact key_of_step hstep
    have hfacts : ∀ j, j ≤ i → facts2 l (Ts ++ [T]) j = facts2 l Ts j := by
      intro j
      induction j with
      | zero => intro _; rfl
      | succ j ihj =>
        intro hj
        unfold facts2
        rw [ihj (by omega), List.getElem?_append_left (by omega)]
    have hget : (Ts ++ [T])[i]? = some T := by rw [List.getElem?_append_right (by omega)]; simp [hT]
    refine ih (i + 1) (Ts ++ [T]) (by simp [hT]) ?_ (by omega) ?_ ?_ ?_
    · rw [← List.drop_drop, hd]; rfl
    · have e : facts2 l (Ts ++ [T]) (i + 1) = (d, T) :: facts2 l Ts i := by
        rw [facts2, hdi, hget, hfacts i (Nat.le_refl _)]
      rw [e]
      exact hrest
    · intro j U hU
      by_cases hj : j < Ts.length
      · rw [List.getElem?_append_left hj] at hU
        exact hs j U hU
      · rw [List.getElem?_append_right (by omega)] at hU
        have : j - Ts.length = 0 := by
          rcases Nat.eq_zero_or_pos (j - Ts.length) with h | h
          · exact h
          · rw [List.getElem?_eq_none (by simp; omega)] at hU; cases hU
        rw [this] at hU
        simp at hU
        subst hU
        exact hstab
    · intro j o' U ho' hU
      by_cases hj : j < Ts.length
      · rw [List.getElem?_append_left hj] at hU
        rw [hfacts j (by omega)]
        exact hst j o' U ho' hU
      · rw [List.getElem?_append_right (by omega)] at hU
        have h0 : j - Ts.length = 0 := by
          rcases Nat.eq_zero_or_pos (j - Ts.length) with h | h
          · exact h
          · rw [List.getElem?_eq_none (by simp; omega)] at hU; cases hU
        rw [h0] at hU
        simp at hU
        subst hU
        obtain rfl : j = i := by omega
        rw [hli] at ho'
        injection ho' with ho'
        subst ho'
        rw [hfacts j (Nat.le_refl _)]
        exact ⟨d, hstep⟩

/-- what holds while the operations come up -/
structure Inv2 (l : List Oper) (Ts : List Fact) (a0 : Act) (w0 : World) (listed : Array Bool) (a : Act) (w : World) : Prop where
  below : Below w0.heap.size w0 w
  defers : a.defers = a0.defers
  size : a.tmps.size = a0.tmps.size
  closed : ∀ (j : Nat) (o : Oper), listed.getD j false = true → l[j]? = some o → ∀ e ∈ o.after, Region.binds .any e = true → listed.getD e.on false = true
  done : ∀ (j : Nat) (d : Tmp) (T : Fact), listed.getD j false = true → keyAt l j = some d → Ts[j]? = some T → T (a.tmps.getD d undef) w
  rest : ∀ s : Tmp, (∀ j, listed.getD j false = true → dstAt l j ≠ some s) → a.tmps.getD s undef = a0.tmps.getD s undef

theorem chainBS_at {m : Nat} {l : List Oper} (h : chainBS m l = true) {i : Nat} {o : Oper} (ho : l[i]? = some o) :
    (∀ d, o.dst = some d → d < m ∧ ∀ j, j < l.length → j ≠ i → dstAt l j ≠ some d) ∧ (o.dst = none → ∀ j, j < l.length → j ≠ i → (dstAt l j).isSome = true) ∧
    (∀ e ∈ o.after, Region.binds .any e = true → e.on < i) ∧ (o.dst = none → ∀ k, keyOf o = some k → k ∈ o.looksAt l.toArray) ∧
    (∀ s ∈ o.looksAt l.toArray, s < m ∧ ∀ j, j < l.length → j ≠ i → keyAt l j = some s → ∃ e ∈ o.after, Region.binds .any e = true ∧ e.on = j) := by
  have hlt : i < l.length := by
    rcases Nat.lt_or_ge i l.length with h1 | h1
    · exact h1
    · rw [List.getElem?_eq_none h1] at ho; cases ho
  unfold chainBS at h
  rw [List.all_eq_true] at h
  have h1 := h i (List.mem_range.2 hlt)
  rw [ho] at h1
  simp only [Bool.and_eq_true, List.all_eq_true, List.mem_range, Bool.or_eq_true, beq_iff_eq, bne_iff_ne, Bool.not_eq_true', decide_eq_true_eq, Array.all_eq_true_iff_forall_mem, Array.any_eq_true'] at h1
  obtain ⟨⟨⟨h2, h3⟩, h4⟩, h5⟩ := h1
  refine ⟨fun d hd => ?_, fun hd j hj hne => ?_, fun e he hb => ?_, fun hd k hk => ?_, fun s hs => ⟨(h5 s hs).1, fun j hj hne hd => ?_⟩⟩
  · rw [hd] at h2
    simp only [Bool.and_eq_true, List.all_eq_true, List.mem_range, Bool.or_eq_true, beq_iff_eq, bne_iff_ne, decide_eq_true_eq] at h2
    exact ⟨h2.1, fun j hj hne => (h2.2 j hj).resolve_left hne⟩
  · rw [hd] at h2
    simp only [List.all_eq_true, List.mem_range, Bool.or_eq_true, beq_iff_eq] at h2
    exact (h2 j hj).resolve_left hne
  · rcases h4 e he with h | h
    · rw [h] at hb; cases hb
    · exact h
  · rw [hk, hd] at h3
    simpa using h3
  · rcases (h5 s hs).2 j hj with h | ⟨e, he, hb⟩
    · rcases h with h | h
      · exact absurd h hne
      · exact absurd hd h
    · exact ⟨e, he, hb⟩

theorem keyAt_of_dst {l : List Oper} {j : Nat} {s : Tmp} (h : dstAt l j = some s) : keyAt l j = some s := by
  unfold dstAt at h
  unfold keyAt
  cases hl : l[j]? with
  | none => rw [hl] at h; cases h
  | some o =>
    rw [hl] at h
    simp only [Option.bind_some] at h ⊢
    unfold keyOf
    rw [h]

theorem lt_of_dst {l : List Oper} {j : Nat} {s : Tmp} (h : dstAt l j = some s) : j < l.length := by
  rcases Nat.lt_or_ge j l.length with h1 | h1
  · exact h1
  · simp [dstAt, List.getElem?_eq_none h1] at h
theorem lt_of_key {l : List Oper} {j : Nat} {s : Tmp} (h : keyAt l j = some s) : j < l.length := by
  rcases Nat.lt_or_ge j l.length with h1 | h1
  · exact h1
  · simp [keyAt, List.getElem?_eq_none h1] at h

theorem inv2_any {P : Program} {l : List Oper} {Ts : List Fact} {a0 : Act} {w0 : World} {Q : Exit → Act → World → Prop} (hB : chainBS a0.tmps.size l = true) (hlen : Ts.length = l.length)
    (hst : ∀ (j : Nat) (T : Fact), Ts[j]? = some T → stable T)
    (hstep : ∀ (j : Nat) (o : Oper) (T : Fact), l[j]? = some o → Ts[j]? = some T → ∃ k, Step2 P l.toArray (facts2 l Ts j) a0 w0 o k T)
    (hend : Chain2 P l.toArray a0 w0 Q [] (facts2 l Ts l.length)) :
    ∀ (fuel : Nat) (listed : Array Bool) (a : Act) (w : World), listed.size = l.length → (∃ n, n ≤ fuel ∧ n = (List.range l.length).countP (fun j => !listed.getD j true)) → Inv2 l Ts a0 w0 listed a w → wpAny P .any l.toArray Q fuel listed a w := by
  have hfin : ∀ (listed : Array Bool) (a : Act) (w : World), listed.size = l.length → Region.ready .any l.toArray listed = [] → Inv2 l Ts a0 w0 listed a w → Q .normal a w := by
    intro listed a w hsz hr hI
    have hall : ∀ j, j < l.length → listed.getD j false = true := by
      intro j
      induction j using Nat.strongRecOn with
      | _ j ih =>
        intro hj
        cases hb : listed.getD j false with
        | true => rfl
        | false =>
          exfalso
          have hj' : l[j]? = some l[j] := List.getElem?_eq_getElem hj
          have hc := chainBS_at hB hj'
          have hm : j ∈ Region.ready .any l.toArray listed := by
            rw [mem_ready]
            refine ⟨?_, l[j], by simp [hj], fun e he hbi => ih e.on (hc.2.2.1 e he hbi) (Nat.lt_trans (hc.2.2.1 e he hbi) hj)⟩
            have : j < listed.size := by omega
            simp only [Array.getD_eq_getD_getElem?, Array.getElem?_eq_getElem this, Option.getD_some] at hb ⊢
            exact hb
          rw [hr] at hm
          cases hm
    refine hend a w hI.below hI.defers hI.size fun s hs => ?_
    unfold Knows
    cases hl : look (facts2 l Ts l.length) s with
    | some T =>
      obtain ⟨j, hj, hd, hT⟩ := mem_facts2 (look_some hl)
      exact hI.done j s T (hall j hj) hd hT
    | none =>
      refine hI.rest s fun j hj hd => ?_
      have hjl := lt_of_dst hd
      have hT : Ts[j]? = some (Ts[j]'(by omega)) := List.getElem?_eq_getElem (by omega)
      obtain ⟨T, hT'⟩ := look_mem ⟨_, facts2_mem (i := l.length) hjl (keyAt_of_dst hd) hT, rfl⟩
      rw [hT'] at hl
      cases hl
  intro fuel
  induction fuel with
  | zero =>
    intro listed a w hsz hn hI
    obtain ⟨n, hn0, hn⟩ := hn
    have hr : Region.ready .any l.toArray listed = [] := by
      rw [List.eq_nil_iff_forall_not_mem]
      intro j hj
      obtain ⟨hu, o, ho, _⟩ := mem_ready.1 hj
      have hjl : j < l.length := by
        rcases Nat.lt_or_ge j l.length with h1 | h1
        · exact h1
        · simp [h1] at ho
      have : 0 < (List.range l.length).countP (fun j => !listed.getD j true) := List.countP_pos_iff.2 ⟨j, List.mem_range.2 hjl, by simp [hu]⟩
      omega
    exact ⟨hr, hfin listed a w hsz hr hI⟩
  | succ fuel ih =>
    intro listed a w hsz hn hI
    refine ⟨fun hr => hfin listed a w hsz hr hI, fun i hi => ?_⟩
    obtain ⟨hu, o, ho, hedges⟩ := mem_ready.1 hi
    have hol : l[i]? = some o := by simpa using ho
    have hil : i < l.length := by
      rcases Nat.lt_or_ge i l.length with h1 | h1
      · exact h1
      · rw [List.getElem?_eq_none h1] at hol; cases hol
    obtain ⟨hdst, hone, hbe, hkl, hlook⟩ := chainBS_at hB hol
    have hTi : Ts[i]? = some (Ts[i]'(by omega)) := List.getElem?_eq_getElem (by omega)
    have hkn : ∀ s ∈ o.looksAt l.toArray, Knows (facts2 l Ts i) a0 a w s := fun s hs => by
      unfold Knows
      cases hl : look (facts2 l Ts i) s with
      | some T =>
        obtain ⟨j, hj, hdj, hTj⟩ := mem_facts2 (look_some hl)
        obtain ⟨e, he, hb, rfl⟩ := (hlook s hs).2 j (by omega) (by omega) hdj
        exact hI.done _ s T (hedges e he hb) hdj hTj
      | none =>
        refine hI.rest s fun j hj hdj => ?_
        have hjl := lt_of_dst hdj
        have hji : j ≠ i := by
          rintro rfl
          rw [getD_ff hu] at hj
          cases hj
        obtain ⟨e, he, hb, rfl⟩ := (hlook s hs).2 j hjl hji (keyAt_of_dst hdj)
        have hlt := hbe e he hb
        have hT : Ts[e.on]? = some (Ts[e.on]'(by omega)) := List.getElem?_eq_getElem (by omega)
        obtain ⟨T, hT'⟩ := look_mem ⟨_, facts2_mem (i := i) hlt (keyAt_of_dst hdj) hT, rfl⟩
        rw [hT'] at hl
        cases hl
    have hisz : i < listed.size := by omega
    have hclosed : ∀ (j : Nat) (o' : Oper), (listed.setIfInBounds i true).getD j false = true → l[j]? = some o' → ∀ e ∈ o'.after, Region.binds .any e = true → (listed.setIfInBounds i true).getD e.on false = true := by
      intro j o' hj ho' e he hb
      rcases getD_set_cases hj with rfl | hj2
      · rw [hol] at ho'
        injection ho' with ho'
        subst ho'
        exact getD_set_true (hedges e he hb)
      · exact getD_set_true (hI.closed j o' hj2 ho' e he hb)
    have hmeas : ∃ n, n ≤ fuel ∧ n = (List.range l.length).countP (fun j => !(listed.setIfInBounds i true).getD j true) := by
      obtain ⟨n, hn0, hn⟩ := hn
      refine ⟨_, ?_, rfl⟩
      have hlt : (List.range l.length).countP (fun j => !(listed.setIfInBounds i true).getD j true) < (List.range l.length).countP (fun j => !listed.getD j true) := by
        refine countP_lt (i := i) (fun x _ hx => ?_) (List.mem_range.2 hil) (by simp [hu]) ?_
        · by_cases e : i = x
          · subst e; simp [hu]
          · rw [getD_set_ne true e] at hx; exact hx
        · simp [hisz]
      omega
    have hun : ∀ j, listed.getD j false = true → j ≠ i := by
      rintro j hj rfl
      rw [getD_ff hu] at hj
      cases hj
    obtain ⟨k, hk⟩ := hstep i o _ hol hTi
    rcases hk with ⟨hd, hss, hS⟩ | ⟨hd, hsk, hS⟩
    · have hS := hS a w hI.below hkn
      obtain ⟨hdm, hdis⟩ := hdst k hd
      have hdi : dstAt l i = some k := by simp [dstAt, hol, hd]
      refine wpOp_noWay ho (K := After (Ts[i]'(by omega)) a o.dst w) ?_ ?_
      · rintro a' w' ⟨v, rfl, hT, hbel⟩
        have hds : k < a.tmps.size := by rw [hI.size]; exact hdm
        refine ih _ _ _ (by simpa using hsz) hmeas ⟨hI.below.trans (hbel.mono hI.below.size), ?_, ?_, hclosed, ?_, ?_⟩
        · rw [hd]; exact hI.defers
        · rw [hd]; simp [Act.put, hI.size]
        · intro j d' T hj hdj hTj
          rw [hd]
          rcases getD_set_cases hj with rfl | hj2
          · have e1 := keyAt_of_dst hdi
            rw [e1] at hdj
            injection hdj with hdj
            subst hdj
            rw [hTi] at hTj
            injection hTj with hTj
            subst hTj
            rw [getD_put_same hds]
            exact hT
          · have hji := hun j hj2
            have hjl := lt_of_key hdj
            have hne : k ≠ d' := by
              rintro rfl
              obtain ⟨oj, hoj⟩ : ∃ oj, l[j]? = some oj := ⟨_, List.getElem?_eq_getElem hjl⟩
              cases hdd : oj.dst with
              | some dj =>
                have : dstAt l j = some dj := by simp [dstAt, hoj, hdd]
                have e2 := keyAt_of_dst this
                rw [hdj] at e2
                injection e2 with e2
                subst e2
                exact hdis j hjl hji this
              | none =>
                have hcj := chainBS_at hB hoj
                have hkj : keyOf oj = some k := by
                  have := hdj
                  unfold keyAt at this
                  rw [hoj] at this
                  exact this
                have hmem := hcj.2.2.2.1 hdd k hkj
                obtain ⟨e, he, hb, rfl⟩ := (hcj.2.2.2.2 k hmem).2 i hil (fun e => hji e.symm) (keyAt_of_dst hdi)
                exact hun _ (hI.closed j oj hj2 hoj e he hb) rfl
            rw [getD_put_ne hne]
            exact hst j T hTj _ _ _ (hI.done j d' T hj2 hdj hTj) hbel
        · intro s hs
          have hne : k ≠ s := by
            rintro rfl
            exact hs i (by simp [hisz]) hdi
          rw [hd, getD_put_ne hne]
          refine hI.rest s fun j hj hdj => hs j (getD_set_true hj) hdj
      · by_cases hw : Region.wanted o (yielded l.toArray a.tmps) = true
        · rw [if_pos hw] at hS ⊢
          exact hS
        · rw [if_neg hw] at hS ⊢
          exact ⟨undef, rfl, hS, Below.refl _ _⟩
    · have hS := hS a w hI.below hkn
      have hki : keyAt l i = some k := by
        unfold keyAt keyOf
        rw [hol]
        simp only [Option.bind_some, hd]
        exact hsk
      have hdi : dstAt l i = none := by simp [dstAt, hol, hd]
      refine wpOp_noWay ho (K := AfterS w0.heap.size k (Ts[i]'(by omega)) a w) ?_ ?_
      · rintro a' w' ⟨rfl, hT, hrel⟩
        refine ih _ _ _ (by simpa using hsz) hmeas ⟨hI.below.trans hrel.below, hI.defers, hI.size, hclosed, ?_, ?_⟩
        · intro j d' T hj hdj hTj
          rcases getD_set_cases hj with rfl | hj2
          · rw [hki] at hdj
            injection hdj with hdj
            subst hdj
            rw [hTi] at hTj
            injection hTj with hTj
            subst hTj
            exact hT
          · have hji := hun j hj2
            have hjl := lt_of_key hdj
            obtain ⟨oj, hoj⟩ : ∃ oj, l[j]? = some oj := ⟨_, List.getElem?_eq_getElem hjl⟩
            obtain ⟨kj, hkj⟩ := hstep j oj T hoj hTj
            rcases hkj with ⟨_, hsj, _⟩ | ⟨hnj, _⟩
            · exact hsj _ _ _ (hI.done j d' T hj2 hdj hTj) hrel
            · have := hone hd j hjl hji
              simp [dstAt, hoj, hnj] at this
        · intro s hs
          exact hI.rest s fun j hj hdj => hs j (getD_set_true hj) hdj
      · by_cases hw : Region.wanted o (yielded l.toArray a.tmps) = true
        · rw [if_pos hw] at hS ⊢
          exact hS
        · rw [if_neg hw] at hS
          exact hS.elim

/-- the rule: one walk in the order of the text -/
theorem wp_region_store {P : Program} {id : Nat} {l : List Oper} {Q : Exit → Act → World → Prop} {a : Act} {w : World} (hm : P.follows .mixedOrders = true) (hB : chainBS a.tmps.size l = true)
    (h : Chain2 P l.toArray a w.drew Q l []) : (Code.region id l.toArray true).wp P Q a w := by
  obtain ⟨Us, hlen, hst, hstep, hend⟩ := chain2_facts (l := l) l 0 [] rfl rfl (Nat.zero_le _) h (fun j T hT => by simp at hT) (fun j o T _ hT => by simp at hT)
  refine wp_region_any hm ?_
  refine inv2_any hB hlen hst hstep hend _ _ _ _ (by simp) ⟨_, ?_, rfl⟩ ⟨Below.refl _ _, rfl, rfl, ?_, ?_, fun s _ => rfl⟩
  · refine Nat.le_trans List.countP_le_length ?_
    simp
  · intro j o hj
    exfalso
    by_cases hlt : j < l.length <;> simp [hlt] at hj
  · intro j d T hj
    exfalso
    by_cases hlt : j < l.length <;> simp [hlt] at hj

section
variable {P : Program} {ops : Array Oper} {a0 : Act} {w0 : World} {Q : Exit → Act → World → Prop} {o : Oper} {r : List Oper} {F : List (Tmp × Fact)} {d : Tmp}

/-- an operation that leaves a known value and the world as it was -/
theorem s_val {u : Value} (L : List Tmp) (hd : o.dst = some d) (hL : (L.all fun s => (o.looksAt ops).contains s) = true) (hg : GuardOK ops F a0 o)
    (h : ∀ ρ w, Below w0.heap.size w0 w → Plain ρ → AllK F a0 w ρ L → (execOp ρ o).run P w = .ok (.value u) w) (hr : Chain2 P ops a0 w0 Q r ((d, Is u) :: F)) : Chain2 P ops a0 w0 Q (o :: r) F := by
  refine ⟨d, Is u, stable_is u, .inl ⟨hd, stableS_is _ u, fun a w hb hk => ?_⟩, hr⟩
  rw [if_pos (wanted_of hg hk)]
  unfold Oper.wp
  rw [h a.eval w hb (plain_eval a) (allK_of hk hL)]
  exact ⟨u, rfl, rfl, Below.refl _ _⟩

/-- an operation that makes memory -/
theorem s_new {T : Fact} (L : List Tmp) (hd : o.dst = some d) (hL : (L.all fun s => (o.looksAt ops).contains s) = true) (hg : GuardOK ops F a0 o) (hs : stable T) (hs2 : stableS w0.heap.size T)
    (h : ∀ ρ w, Below w0.heap.size w0 w → Plain ρ → AllK F a0 w ρ L → ∃ v w', (execOp ρ o).run P w = .ok (.value v) w' ∧ T v w' ∧ Below w.heap.size w w') (hr : Chain2 P ops a0 w0 Q r ((d, T) :: F)) : Chain2 P ops a0 w0 Q (o :: r) F := by
  refine ⟨d, T, hs, .inl ⟨hd, hs2, fun a w hb hk => ?_⟩, hr⟩
  rw [if_pos (wanted_of hg hk)]
  obtain ⟨v, w', h1, h2, h3⟩ := h a.eval w hb (plain_eval a) (allK_of hk hL)
  unfold Oper.wp
  rw [h1]
  exact ⟨v, rfl, h2, h3⟩

/-- a call -/
theorem s_call {T : Fact} (f : FuncId) (L : List Tmp) (hd : o.dst = some d) (hL : (L.all fun s => (o.looksAt ops).contains s) = true) (hg : GuardOK ops F a0 o) (hs : stable T) (hs2 : stableS w0.heap.size T)
    (h : ∀ ρ w, Below w0.heap.size w0 w → Plain ρ → AllK F a0 w ρ L → ∃ args, (execOp ρ o).run P w = .ok (.enter f args) w ∧ Calls P f args w fun e w' => ∃ v, e = .returned v ∧ T v w' ∧ Below w.heap.size w w') (hr : Chain2 P ops a0 w0 Q r ((d, T) :: F)) : Chain2 P ops a0 w0 Q (o :: r) F := by
  refine ⟨d, T, hs, .inl ⟨hd, hs2, fun a w hb hk => ?_⟩, hr⟩
  rw [if_pos (wanted_of hg hk)]
  obtain ⟨args, h1, h2⟩ := h a.eval w hb (plain_eval a) (allK_of hk hL)
  unfold Oper.wp
  rw [h1]
  refine h2.mono fun e w' ⟨v, he, hT, hbel⟩ => ?_
  subst he
  exact ⟨v, rfl, hT, hbel⟩

/-- the store -/
theorem s_store {T : Fact} (k : Tmp) (L : List Tmp) (hd : o.dst = none) (hk0 : storeKey o = some k) (hL : (L.all fun s => (o.looksAt ops).contains s) = true) (hg : GuardOK ops F a0 o) (hs : stable T)
    (h : ∀ ρ w, Below w0.heap.size w0 w → Plain ρ → AllK F a0 w ρ L → ∃ w', (execOp ρ o).run P w = .ok .skip w' ∧ T (ρ (.tmp k)) w' ∧ StoreRel w0.heap.size w w') (hr : Chain2 P ops a0 w0 Q r ((k, T) :: F)) : Chain2 P ops a0 w0 Q (o :: r) F := by
  refine ⟨k, T, hs, .inr ⟨hd, hk0, fun a w hb hk => ?_⟩, hr⟩
  rw [if_pos (wanted_of hg hk)]
  obtain ⟨w', h1, h2, h3⟩ := h a.eval w hb (plain_eval a) (allK_of hk hL)
  unfold Oper.wp
  rw [h1]
  refine ⟨?_, h2, h3⟩
  rw [hd]
  rfl

/-- the end, where more code follows: the frame slot by slot -/
theorem s_end_lit (n : Nat) (hn : a0.tmps.size = n)
    (h : ∀ (f : Tmp → Value) (w : World), Below w0.heap.size w0 w → AllN (fun s => KnowsV F a0 w s (f s)) n 0 → Q .normal { tmps := (frameL f n 0).toArray, defers := a0.defers } w) : Chain2 P ops a0 w0 Q [] F := by
  intro a w hb hd hs hk
  have e : a = { tmps := (frameL (fun s => a.tmps.getD s undef) n 0).toArray, defers := a0.defers } := by
    obtain ⟨tm, df⟩ := a
    simp only at hd hs
    subst hd
    congr 1
    apply Array.ext'
    apply List.ext_getElem?
    intro j
    by_cases hj : j < n
    · rw [show ((frameL (fun s => tm.getD s undef) n 0).toArray.toList) = frameL (fun s => tm.getD s undef) n 0 from rfl, frameL_get _ _ _ _ hj]
      have : j < tm.size := by omega
      simp [this]
    · rw [show ((frameL (fun s => tm.getD s undef) n 0).toArray.toList) = frameL (fun s => tm.getD s undef) n 0 from rfl]
      rw [List.getElem?_eq_none (by simp; omega), List.getElem?_eq_none (by rw [frameL_length]; omega)]
  rw [e]
  exact h _ w hb (allN_of n 0 fun j _ hj => hk j (by rw [hn]; omega))
end

/-! ## A variable of the region's own -/
/-- v points at a variable of n cells that the region made -/
def PtrF (B n : Nat) : Fact := fun v w => ∃ b, v = .pointer (some ⟨b, 0, none⟩) ∧ B ≤ b ∧ b < w.heap.size ∧ (∀ j, j < n → (w.cell? ⟨b, j, none⟩).isSome = true) ∧ ∀ j, w.frozen? ⟨b, j, none⟩ = false
theorem stable_ptr (B n : Nat) : stable (PtrF B n) := by
  rintro v w w' ⟨b, rfl, h1, h2, h3, h4⟩ hb
  refine ⟨b, rfl, h1, Nat.lt_of_lt_of_le h2 hb.size, fun j hj => ?_, fun j => ?_⟩
  · rw [hb.cell (p := ⟨b, j, none⟩) h2]; exact h3 j hj
  · rw [hb.frozen (p := ⟨b, j, none⟩) h2]; exact h4 j
theorem stableS_ptr (B C n : Nat) : stableS C (PtrF B n) := by
  rintro v w w' ⟨b, rfl, h1, h2, h3, h4⟩ hr
  refine ⟨b, rfl, h1, by rw [hr.size]; exact h2, fun j hj => hr.cell _ (h3 j hj), fun j => ?_⟩
  rw [hr.frozen]; exact h4 j
/-- v points at a variable that the region made and that holds the cells cs -/
def VarF (B : Nat) (cs : Array Value) : Fact := fun v w => ∃ b, v = .pointer (some ⟨b, 0, none⟩) ∧ B ≤ b ∧ b < w.heap.size ∧ (∀ j, j < cs.size → w.cell? ⟨b, j, none⟩ = cs[j]?) ∧ ∀ j, w.frozen? ⟨b, j, none⟩ = false
theorem stable_var (B : Nat) (cs : Array Value) : stable (VarF B cs) := by
  rintro v w w' ⟨b, rfl, h1, h2, h3, h4⟩ hb
  refine ⟨b, rfl, h1, Nat.lt_of_lt_of_le h2 hb.size, fun j hj => ?_, fun j => ?_⟩
  · rw [hb.cell (p := ⟨b, j, none⟩) h2]; exact h3 j hj
  · rw [hb.frozen (p := ⟨b, j, none⟩) h2]; exact h4 j
theorem PtrF.alloc (w : World) {B n : Nat} (cs : Array Value) (T : TypeId) (hB : B ≤ w.heap.size) (hn : n ≤ cs.size) : PtrF B n (.pointer (some ⟨w.heap.size, 0, none⟩)) (w.alloc (.cells cs T)) := by
  refine ⟨w.heap.size, rfl, hB, by unfold World.alloc; simp, fun j hj => ?_, fun j => ?_⟩
  · rw [World.cell?_alloc_new]
    simp; omega
  · simp [go_sem]
theorem store1 {w : World} {B : Nat} {b : Nat} {x : Value} (hB : B ≤ b) (hs : (w.cell? ⟨b, 0, none⟩).isSome = true) : StoreRel B w (w.setCell ⟨b, 0, none⟩ x) := by
  refine ⟨(Below.refl B w).setCell (by show B ≤ b; exact hB) _, by simp [World.setCell], fun q hq => ?_, fun q => World.frozen?_setCell ..⟩
  obtain ⟨v, hv⟩ := Option.isSome_iff_exists.1 hq
  obtain ⟨v', hv'⟩ := Go.RowKit.cell?_setCell_some (p := ⟨b, 0, none⟩) (x := x) hv
  rw [hv']; rfl
theorem allN_at9 {P : Nat → Prop} : ∀ {n s : Nat}, AllN P n s → ∀ j, s ≤ j → j < s + n → P j
  | 0, _, _, _, _, h => by omega
  | n + 1, s, h, j, h1, h2 => by
    by_cases e : s = j
    · subst e; exact h.1
    · exact allN_at9 h.2 j (by omega) (by omega)
theorem StoreRel.refl (B : Nat) (w : World) : StoreRel B w w := ⟨Below.refl _ _, rfl, fun _ h => h, fun _ => rfl⟩
theorem StoreRel.step {B : Nat} {w w1 : World} (h : StoreRel B w w1) {b : Nat} (j : Nat) (x : Value) (hB : B ≤ b) : StoreRel B w (w1.setCell ⟨b, j, none⟩ x) := by
  refine ⟨h.below.setCell (by show B ≤ b; exact hB) _, by have := h.size; simpa [World.setCell] using this, fun q hq => ?_, fun q => (World.frozen?_setCell ..).trans (h.frozen q)⟩
  obtain ⟨v, hv⟩ := Option.isSome_iff_exists.1 (h.cell q hq)
  obtain ⟨v', hv'⟩ := Go.RowKit.cell?_setCell_some (p := ⟨b, j, none⟩) (x := x) hv
  rw [hv']; rfl
/-- the cells of a block, one after the other -/
def setsN (W : World) (b : Nat) (v : Nat → Value) : Nat → World
  | 0 => W
  | n + 1 => (setsN W b v n).setCell ⟨b, n, none⟩ (v n)
theorem setsN_rel {B b : Nat} (hB : B ≤ b) (W : World) (v : Nat → Value) (n : Nat) : StoreRel B W (setsN W b v n) := by
  induction n with
  | zero => exact StoreRel.refl _ _
  | succ n ih => exact ih.step n (v n) hB
theorem setsN_cell {B b : Nat} (hB : B ≤ b) (W : World) (v : Nat → Value) (n : Nat) (hs : ∀ j, j < n → (W.cell? ⟨b, j, none⟩).isSome = true) : ∀ j, j < n → (setsN W b v n).cell? ⟨b, j, none⟩ = some (v j) := by
  induction n with
  | zero => intro j hj; omega
  | succ n ih =>
    intro j hj
    by_cases e : j = n
    · subst e
      exact World.cell?_setCell_same' _ _ _ ((setsN_rel hB W v j).cell _ (hs j (by omega)))
    · refine (World.cell?_setCell_other _ ⟨b, n, none⟩ ⟨b, j, none⟩ _ (by intro h; injection h with _ h2; exact e h2.symm)).trans (ih (fun j hj => hs j (by omega)) j (by omega))
end Go.Proofs.Ytlbfinacofjedaa
