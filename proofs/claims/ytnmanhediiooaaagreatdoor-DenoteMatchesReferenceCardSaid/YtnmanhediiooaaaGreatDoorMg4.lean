/- The texts RegionU, NodeU, Ref12m, Ref12n, Den3, DenB, Budget, RegionP, TrimU, RowG, DenA, FarW, MsgOwn, Arena (what is wanted of them), one after the other. -/
import Derived.Test.YtnmanhediiooaaaGreatDoorMg3
import Derived.Laws.CopyOwn
/- As XRegionT, where the facts of the operations may speak of the blocks that the statement's own allocations have made (`av`): so it is known that a variable made there lies outside the memory of a call's result, whatever their order. -/
namespace Go.Proofs.YtnmanhediiooaaaGreatDoor
open Go.RowKit
set_option linter.unusedVariables false
set_option linter.unusedSimpArgs false
set_option maxRecDepth 100000

/-- a fact that may speak of the blocks of the statement's own allocations -/
def FactU : Type := List Nat → Fact
structure Ext (av : List Nat) (w : World) (av' : List Nat) : Prop where
  old : ∀ b ∈ av, b ∈ av'
  new : ∀ b ∈ av', b ∈ av ∨ w.heap.size ≤ b
theorem Ext.refl (av : List Nat) (w : World) : Ext av w av := ⟨fun _ h => h, fun _ h => .inl h⟩
theorem Ext.cons (av : List Nat) (w : World) : Ext av w (w.heap.size :: av) := ⟨fun _ h => List.mem_cons_of_mem _ h, fun b h => by
  rcases List.mem_cons.1 h with rfl | h
  · exact .inr (Nat.le_refl _)
  · exact .inl h⟩
def stableU (T : FactU) : Prop := ∀ av av' v w w', T av v w → Below w.heap.size w w' → Ext av w av' → (∀ b ∈ av, b < w.heap.size) → T av' v w'
theorem stableU_of {T : Fact} (h : stable T) : stableU fun _ => T := fun _ _ v w w' hT hb _ _ => h v w w' hT hb
def AfterU (T : FactU) (av : List Nat) (a : Act) (dst : Option Tmp) (w : World) (a' : Act) (w' : World) : Prop := ∃ v av', a' = a.put dst v ∧ T av' v w' ∧ Below w.heap.size w w' ∧ Ext av w av' ∧ ∀ b ∈ av', b < w'.heap.size
def StepU (P : Program) (ops : Array Oper) (F : List Nat → List (Tmp × Fact)) (a0 : Act) (w0 : World) (o : Oper) (T : FactU) : Prop :=
  ∀ av a w, (∀ b ∈ av, b < w.heap.size) → Below w0.heap.size w0 w → (∀ s ∈ o.looksAt ops, Knows (F av) a0 a w s) →
    if Region.wanted o (yielded ops a.tmps) then o.wp P a w (AfterU T av a o.dst w) NoWay else T av undef w
def PureU (P : Program) (ops : Array Oper) (G : List (Tmp × Fact)) (a0 : Act) (o : Oper) (T : FactU) : Prop :=
  o.guard = none ∧ ∃ u, T = (fun _ => Is u) ∧ ∀ a w, (∀ s ∈ o.looksAt ops, Knows G a0 a w s) → (execOp a.eval o).run P w = .ok (.value u) w
def ChainU (P : Program) (ops : Array Oper) (late : List Nat) (a0 : Act) (w0 : World) (E : Act → World → Prop) : List Oper → Nat → (List Nat → List (Tmp × Fact)) → List (Tmp × Fact) → Prop
  | [], _, F, _ => ∀ av a w, (∀ b ∈ av, b < w.heap.size) → Below w0.heap.size w0 w → a.defers = a0.defers → a.tmps.size = a0.tmps.size → (∀ s, s < a0.tmps.size → Knows (F av) a0 a w s) → E a w
  | o :: r, i, F, G => ∃ d T U, o.dst = some d ∧ stableU T ∧ free U ∧ (∀ av v w, T av v w → U v w) ∧ (if isA late i = true then StepU P ops F a0 w0 o T else PureU P ops G a0 o T) ∧ ChainU P ops late a0 w0 E r (i + 1) (fun av => (d, T av) :: F av) ((d, U) :: G)
def atL (av : List Nat) (Ts : List FactU) : List Fact := Ts.map fun T => T av
theorem atL_length (av : List Nat) (Ts : List FactU) : (atL av Ts).length = Ts.length := by simp [atL]
theorem atL_app (av : List Nat) (Ts : List FactU) (T : FactU) : atL av (Ts ++ [T]) = atL av Ts ++ [T av] := by simp [atL]
theorem atL_get (av : List Nat) {Ts : List FactU} {j : Nat} {T : FactU} (h : Ts[j]? = some T) : (atL av Ts)[j]? = some (T av) := by simp [atL, h]
theorem atL_some {av : List Nat} {Ts : List FactU} {j : Nat} {V : Fact} (h : (atL av Ts)[j]? = some V) : ∃ T, Ts[j]? = some T ∧ T av = V := by
  unfold atL at h
  rw [List.getElem?_map] at h
  cases e : Ts[j]? with
  | none => rw [e] at h; cases h
  | some T => rw [e] at h; injection h with h; exact ⟨T, rfl, h⟩
theorem get_appU {Ts : List FactU} {T U : FactU} {i j : Nat} (hT : Ts.length = i) (h : (Ts ++ [T])[j]? = some U) : (j < i ∧ Ts[j]? = some U) ∨ (j = i ∧ U = T) := by
  by_cases hj : j < Ts.length
  · rw [List.getElem?_append_left hj] at h
    exact .inl ⟨by omega, h⟩
  · rw [List.getElem?_append_right (by omega)] at h
    have h0 : j - Ts.length = 0 := by
      rcases Nat.eq_zero_or_pos (j - Ts.length) with h1 | h1
      · exact h1
      · rw [List.getElem?_eq_none (by simp; omega)] at h; cases h
    rw [h0] at h
    simp at h
    exact .inr ⟨by omega, h.symm⟩

structure FactsU (P : Program) (ops : Array Oper) (l : List Oper) (late : List Nat) (a0 : Act) (w0 : World) (Ts : List FactU) (Us : List Fact) (i : Nat) : Prop where
  len : Ts.length = i
  len2 : Us.length = i
  st : ∀ (j : Nat) (T : FactU), Ts[j]? = some T → stableU T
  fr : ∀ (j : Nat) (U : Fact), Us[j]? = some U → free U
  weak : ∀ (j : Nat) (T : FactU) (U : Fact), Ts[j]? = some T → Us[j]? = some U → ∀ av v w, T av v w → U v w
  step : ∀ (j : Nat) (o : Oper) (T : FactU), l[j]? = some o → Ts[j]? = some T → if isA late j = true then StepU P ops (fun av => factsTo l (atL av Ts) j) a0 w0 o T else PureU P ops (factsTo l Us j) a0 o T

theorem chainU_facts {P : Program} {ops : Array Oper} {a0 : Act} {w0 : World} {E : Act → World → Prop} {l : List Oper} {late : List Nat} :
    ∀ (r : List Oper) (i : Nat) (Ts : List FactU) (Us : List Fact), l.drop i = r → i ≤ l.length → ChainU P ops late a0 w0 E r i (fun av => factsTo l (atL av Ts) i) (factsTo l Us i) → FactsU P ops l late a0 w0 Ts Us i →
      ∃ (Ts : List FactU) (Us : List Fact), FactsU P ops l late a0 w0 Ts Us l.length ∧ ChainU P ops late a0 w0 E [] l.length (fun av => factsTo l (atL av Ts) l.length) (factsTo l Us l.length) := by
  intro r
  induction r with
  | nil =>
    intro i Ts Us hd hi hc hF
    have : i = l.length := by
      have := congrArg List.length hd
      simp at this
      omega
    subst this
    exact ⟨Ts, Us, hF, hc⟩
  | cons o r ih =>
    intro i Ts Us hd hi hc hF
    obtain ⟨d, T, U, hdst, hs1, hs2, hw, hstep, hrest⟩ := hc
    have hlt : i < l.length := by
      have := congrArg List.length hd
      simp at this
      omega
    have hli : l[i]? = some o := by
      have := congrArg (fun x => x[0]?) hd
      simpa using this
    have hdi : dstAt l i = some d := by simp [dstAt, hli, hdst]
    have fT : ∀ av, ∀ j, j ≤ i → factsTo l (atL av (Ts ++ [T])) j = factsTo l (atL av Ts) j := fun av => by rw [atL_app]; exact factsTo_app (l := l) (T := T av) (by rw [atL_length]; exact hF.len)
    have fU := factsTo_app (l := l) (T := U) hF.len2
    have gT : (Ts ++ [T])[i]? = some T := by rw [List.getElem?_append_right (by have := hF.len; omega)]; simp [hF.len]
    have gU : (Us ++ [U])[i]? = some U := by rw [List.getElem?_append_right (by have := hF.len2; omega)]; simp [hF.len2]
    refine ih (i + 1) (Ts ++ [T]) (Us ++ [U]) (by rw [← List.drop_drop, hd]; rfl) (by omega) ?_ ⟨by simp [hF.len], by simp [hF.len2], ?_, ?_, ?_, ?_⟩
    · have e1 : (fun av => factsTo l (atL av (Ts ++ [T])) (i + 1)) = fun av => (d, T av) :: factsTo l (atL av Ts) i := by
        funext av
        rw [factsTo, hdi, atL_get av gT, fT av i (Nat.le_refl _)]
      have e2 : factsTo l (Us ++ [U]) (i + 1) = (d, U) :: factsTo l Us i := by rw [factsTo, hdi, gU, fU i (Nat.le_refl _)]
      rw [e1, e2]
      exact hrest
    · intro j V hV
      rcases get_appU hF.len hV with ⟨_, h⟩ | ⟨_, rfl⟩
      · exact hF.st j V h
      · exact hs1
    · intro j V hV
      rcases get_app hF.len2 hV with ⟨_, h⟩ | ⟨_, rfl⟩
      · exact hF.fr j V h
      · exact hs2
    · intro j V V' hV hV'
      rcases get_appU hF.len hV with ⟨h0, h⟩ | ⟨rfl, rfl⟩
      · rcases get_app hF.len2 hV' with ⟨_, h'⟩ | ⟨h1, _⟩
        · exact hF.weak j V V' h h'
        · omega
      · rcases get_app hF.len2 hV' with ⟨h1, _⟩ | ⟨_, rfl⟩
        · omega
        · exact hw
    · intro j o' V ho' hV
      rcases get_appU hF.len hV with ⟨h0, h⟩ | ⟨rfl, rfl⟩
      · have e1 : (fun av => factsTo l (atL av (Ts ++ [T])) j) = fun av => factsTo l (atL av Ts) j := by
          funext av; exact fT av j (by omega)
        rw [e1, fU j (by omega)]
        exact hF.step j o' V ho' h
      · rw [hli] at ho'
        injection ho' with ho'
        subst ho'
        have e1 : (fun av => factsTo l (atL av (Ts ++ [V])) j) = fun av => factsTo l (atL av Ts) j := by
          funext av; exact fT av j (Nat.le_refl _)
        rw [e1, fU j (Nat.le_refl _)]
        exact hstep

theorem inv1_anyU {P : Program} {l ts : List Oper} {late : List Nat} {Ts : List FactU} {Us : List Fact} {a0 : Act} {w0 : World} {Q : Exit → Act → World → Prop} (hts : 0 < ts.length) (hB : chainTB a0.tmps.size late l ts = true)
    (hF : FactsU P (l ++ ts).toArray l late a0 w0 Ts Us l.length)
    (hend : ChainU P (l ++ ts).toArray late a0 w0 (fun a w => wpList P (l ++ ts).toArray (OnlyN fun a w => Q .normal a w) ts a w) [] l.length (fun av => factsTo l (atL av Ts) l.length) (factsTo l Us l.length)) :
    ∀ (fuel : Nat) (listed : Array Bool) (a : Act) (w : World) (av : List Nat), (∀ b ∈ av, b < w.heap.size) → listed.size = l.length + ts.length → (∀ q, q < ts.length → listed.getD (l.length + q) true = false) → (∃ n, n ≤ fuel ∧ n = (List.range (l.length + ts.length)).countP (fun j => !listed.getD j true)) → Inv l (atL av Ts) a0 w0 listed a w → wpAny P .any (l ++ ts).toArray Q fuel listed a w := by
  have hgl : ∀ j, j < l.length → (l ++ ts).toArray[j]? = l[j]? := fun j hj => by rw [List.getElem?_toArray, List.getElem?_append_left hj]
  have hgt : ∀ q, (l ++ ts).toArray[l.length + q]? = ts[q]? := fun q => by
    rw [List.getElem?_toArray, List.getElem?_append_right (by omega)]; congr 1; omega
  have hl1 := hF.len
  have hl2 := hF.len2
  have hpure : ∀ j o, l[j]? = some o → isA late j = false → o.guard = none ∧ ∃ u, Ts[j]? = some (fun _ => Is u) ∧ ∀ a w, (∀ s ∈ o.looksAt (l ++ ts).toArray, Knows (factsTo l Us j) a0 a w s) → (execOp a.eval o).run P w = .ok (.value u) w := by
    intro j o ho hj
    have hjl : j < l.length := (List.getElem?_eq_some_iff.1 ho).1
    have hT : Ts[j]? = some (Ts[j]'(by omega)) := List.getElem?_eq_getElem (by omega)
    have h := hF.step j o _ ho hT
    rw [if_neg (by rw [hj]; simp)] at h
    obtain ⟨hg, u, hu, hr⟩ := h
    exact ⟨hg, u, hT.trans (congrArg some hu), hr⟩
  intro fuel
  induction fuel with
  | zero =>
    intro listed a w av hav hsz hop hn hI
    exfalso
    obtain ⟨n, hn0, hn⟩ := hn
    have : 0 < (List.range (l.length + ts.length)).countP (fun j => !listed.getD j true) := List.countP_pos_iff.2 ⟨l.length + 0, List.mem_range.2 (by omega), by simp only [hop 0 hts]; rfl⟩
    omega
  | succ fuel ih =>
    intro listed a w av hav hsz hop hn hI
    have hlA : (atL av Ts).length = l.length := by rw [atL_length]; exact hl1
    have hff : ∀ {j : Nat}, j < listed.size → (listed.getD j true = false ↔ listed.getD j false = false) := by
      intro j hj
      simp [hj]
    refine ⟨fun hr => ?_, fun i hi => ?_⟩
    · exfalso
      have hall : ∀ j, j < l.length → listed.getD j false = true := by
        intro j
        induction j using Nat.strongRecOn with
        | _ j ihj =>
          intro hj
          cases hb : listed.getD j false with
          | true => rfl
          | false =>
            exfalso
            have hj' : l[j]? = some l[j] := List.getElem?_eq_getElem hj
            have hc := chainTB_at hB hj'
            have hm : j ∈ Region.ready .any (l ++ ts).toArray listed := by
              rw [mem_ready]
              exact ⟨(hff (by rw [hsz]; omega)).2 hb, l[j], by rw [hgl j hj, hj'], fun e he hbi => ihj e.on (hc.2.2.1 e he hbi) (Nat.lt_trans (hc.2.2.1 e he hbi) hj)⟩
            rw [hr] at hm
            cases hm
      have hok : ts[0]? = some ts[0] := List.getElem?_eq_getElem hts
      have hm : l.length + 0 ∈ Region.ready .any (l ++ ts).toArray listed := by
        rw [mem_ready]
        exact ⟨hop 0 hts, ts[0], by rw [hgt 0, hok], fun e he hb => hall _ (by have := (chainTB_tail hB hok).2.1 e he hb; omega)⟩
      rw [hr] at hm
      cases hm
    · obtain ⟨hu, o, ho, hedges⟩ := mem_ready.1 hi
      have hisz : i < l.length + ts.length := by
        rcases Nat.lt_or_ge i (l.length + ts.length) with h1 | h1
        · exact h1
        · rw [List.getElem?_toArray, List.getElem?_eq_none (by simpa using h1)] at ho; cases ho
      by_cases hil : i < l.length
      · have hol : l[i]? = some o := by rw [← hgl i hil]; exact ho
        obtain ⟨⟨d, hd, hdm⟩, hdis, hbe, hlook⟩ := chainTB_at hB hol
        have hdi : dstAt l i = some d := by simp [dstAt, hol, hd]
        have hTi : Ts[i]? = some (Ts[i]'(by omega)) := List.getElem?_eq_getElem (by omega)
        have hK : ∀ (F : List Fact), F.length = l.length → (∀ (j : Nat) (d : Tmp) (V : Fact), listed.getD j false = true → dstAt l j = some d → F[j]? = some V → V (a.tmps.getD d undef) w) → ∀ s ∈ o.looksAt (l ++ ts).toArray, Knows (factsTo l F i) a0 a w s := by
          intro F hlF hdone s hs
          unfold Knows
          cases hl : look (factsTo l F i) s with
          | some V =>
            obtain ⟨j, hj, hdj, hVj⟩ := mem_factsTo (look_some hl)
            obtain ⟨⟨e, he, hb, rfl⟩, -⟩ := (hlook s hs).2 j (by omega) hdj
            exact hdone _ s V (hedges e he hb) hdj hVj
          | none =>
            refine hI.rest s fun j hj hdj => ?_
            have hjl := dst_lt hdj
            obtain ⟨⟨e, he, hb, rfl⟩, -⟩ := (hlook s hs).2 j hjl hdj
            have hlt := hbe e he hb
            have hV : F[e.on]? = some (F[e.on]'(by omega)) := List.getElem?_eq_getElem (by omega)
            obtain ⟨V, hV'⟩ := look_mem ⟨_, factsTo_mem (i := i) hlt hdj hV, rfl⟩
            rw [hV'] at hl
            cases hl
        have hS : if Region.wanted o (yielded (l ++ ts).toArray a.tmps) then o.wp P a w (AfterU (Ts[i]'(by omega)) av a o.dst w) NoWay else (Ts[i]'(by omega)) av undef w := by
          by_cases he : isA late i = true
          · have h := hF.step i o _ hol hTi
            rw [if_pos he] at h
            exact h av a w hav hI.below (hK (atL av Ts) hlA fun j d V h1 h2 h3 => hI.done j d V h1 h2 h3)
          · obtain ⟨hg, u, hTu, hrun⟩ := hpure i o hol (Bool.eq_false_iff.2 he)
            rw [hTi] at hTu
            injection hTu with hTu
            have hwn : Region.wanted o (yielded (l ++ ts).toArray a.tmps) = true := by unfold Region.wanted; rw [hg]
            rw [if_pos hwn]
            have hr := hrun a w (hK Us hl2 fun j d V h1 h2 h3 => by
              have hjl := dst_lt h2
              have hT : Ts[j]? = some (Ts[j]'(by omega)) := List.getElem?_eq_getElem (by omega)
              exact hF.weak j _ V hT h3 _ _ _ (hI.done j d _ h1 h2 (atL_get av hT)))
            unfold Oper.wp
            rw [hr]
            exact ⟨u, av, rfl, by rw [hTu]; rfl, Below.refl _ _, Ext.refl _ _, hav⟩
        refine wpOp_noWay ho (K := AfterU (Ts[i]'(by omega)) av a o.dst w) ?_ ?_
        · rintro a' w' ⟨v, av', rfl, hT, hbel, hext, hav'⟩
          have hds : d < a.tmps.size := by rw [hI.size]; exact hdm
          refine ih _ _ _ av' hav' (by simpa using hsz) (fun q hq => by rw [getD_set_ne true (by omega)]; exact hop q hq) ?_ ⟨hI.below.trans (hbel.mono hI.below.size), ?_, ?_, ?_, ?_⟩
          · obtain ⟨n, hn0, hn⟩ := hn
            refine ⟨_, ?_, rfl⟩
            have hlt : (List.range (l.length + ts.length)).countP (fun j => !(listed.setIfInBounds i true).getD j true) < (List.range (l.length + ts.length)).countP (fun j => !listed.getD j true) := by
              refine countP_lt (i := i) (fun x _ hx => ?_) (List.mem_range.2 hisz) (by simp [hu]) ?_
              · by_cases e : i = x
                · subst e; simp [hu]
                · rw [getD_set_ne true e] at hx; exact hx
              · have : i < listed.size := by omega
                simp [this]
            omega
          · rw [hd]; exact hI.defers
          · rw [hd]; simp [Act.put, hI.size]
          · intro j d' T0 hj hdj hTj0
            obtain ⟨T, hTj, rfl⟩ := atL_some hTj0
            rw [hd]
            rcases getD_set_cases hj with rfl | hj2
            · rw [hdi] at hdj
              injection hdj with hdj
              subst hdj
              rw [hTi] at hTj
              injection hTj with hTj
              subst hTj
              rw [getD_put_same hds]
              exact hT
            · have hne : d ≠ d' := by
                rintro rfl
                have hji : j ≠ i := by
                  rintro rfl
                  rw [getD_ff hu] at hj2
                  cases hj2
                exact hdis j (dst_lt hdj) hji (by rw [hdj, hd])
              rw [getD_put_ne hne]
              exact hF.st j T hTj _ _ _ _ _ (hI.done j d' _ hj2 hdj (atL_get av hTj)) hbel hext hav
          · intro s hs
            have hne : d ≠ s := by
              rintro rfl
              refine hs i ?_ hdi
              have : i < listed.size := by omega
              simp [this]
            rw [hd, getD_put_ne hne]
            refine hI.rest s fun j hj hdj => hs j (getD_set_true hj) hdj
        · by_cases hw : Region.wanted o (yielded (l ++ ts).toArray a.tmps) = true
          · rw [if_pos hw] at hS ⊢
            exact hS
          · rw [if_neg hw] at hS ⊢
            exact ⟨undef, av, rfl, hS, Below.refl _ _, Ext.refl _ _, hav⟩
      · -- the first store: the other results are put in, and the second half begins
        obtain ⟨q, rfl⟩ : ∃ q, i = l.length + q := ⟨i - l.length, by omega⟩
        have hql : q < ts.length := by omega
        rw [hgt q] at ho
        obtain ⟨hg, hbe, hbl, hprev, hst⟩ := chainTB_tail hB ho
        obtain rfl : q = 0 := by
          refine Classical.byContradiction fun hne => ?_
          obtain ⟨e, he, hb, hon⟩ := hprev (by omega)
          have h1 := hedges e he hb
          have h2 := hop (q - 1) (by omega)
          rw [hon, show l.length + q - 1 = l.length + (q - 1) by omega, getD_ff h2] at h1
          cases h1
        have hA : ∀ j, j < l.length → isA late j = true → listed.getD j false = true := fun j hj hje => by
          obtain ⟨e, he, hb, hon⟩ := hbl j hj (.inl hje)
          rw [← hon]; exact hedges e he hb
        have hdu : ∀ j j' d, j < l.length → j' < l.length → dstAt l j = some d → dstAt l j' = some d → j' = j := fun j j' d hj hj' h h' => by
          refine Classical.byContradiction fun hne => ?_
          have hj2 : l[j]? = some l[j] := List.getElem?_eq_getElem hj
          have hd2 : l[j].dst = some d := by simpa [dstAt, hj2] using h
          exact (chainTB_at hB hj2).2.1 j' hj' hne (by rw [h', hd2])
        obtain ⟨u, hu2⟩ : ∃ u : Nat → Value, ∀ j, j < l.length → isA late j = false → Ts[j]? = some (fun _ => Is (u j)) := by
          have hex : ∀ j, ∃ u, j < l.length → isA late j = false → Ts[j]? = some (fun _ => Is u) := fun j => by
            by_cases h : j < l.length ∧ isA late j = false
            · obtain ⟨-, u, hu, -⟩ := hpure j _ (List.getElem?_eq_getElem h.1) h.2
              exact ⟨u, fun _ _ => hu⟩
            · exact ⟨undef, fun h1 h2 => absurd ⟨h1, h2⟩ h⟩
          exact ⟨fun j => Classical.choose (hex j), fun j h1 h2 => Classical.choose_spec (hex j) h1 h2⟩
        have hbs : (fillB l listed u a).tmps.size = a.tmps.size := by simp [fillB]
        have hbd : ∀ j d, j < l.length → isA late j = false → dstAt l j = some d → (fillB l listed u a).tmps.getD d undef = u j := fun j d hj he hd => by
          have hj2 : l[j]? = some l[j] := List.getElem?_eq_getElem hj
          obtain ⟨⟨d', hd', hdm⟩, -⟩ := chainTB_at hB hj2
          have hdd : d' = d := by
            have : dstAt l j = some d' := by simp [dstAt, hj2, hd']
            rw [hd] at this
            injection this with this
            exact this.symm
          subst hdd
          cases hn : listed.getD j false with
          | false => exact fillB_yes hj hn hd (by rw [hI.size]; exact hdm) (fun j' hj' h' => hdu j j' _ hj hj' hd h')
          | true =>
            rw [fillB_no (fun j' hj' hn' h' => by
              obtain rfl := hdu j j' _ hj hj' hd h'
              rw [hn] at hn'; cases hn')]
            exact hI.done j _ _ hn hd (atL_get av (hu2 j hj he))
        have hba : ∀ s, (∀ j, j < l.length → dstAt l j = some s → isA late j = true) → (fillB l listed u a).tmps.getD s undef = a.tmps.getD s undef := fun s hs => fillB_no fun j hj hn hd => by
          rw [hA j hj (hs j hj hd)] at hn; cases hn
        have hph : Ph2 l ts late (fillB l listed u a) a listed 0 := ⟨hsz, Nat.zero_le _, fun j hj hor => by
          rcases hor with h | h
          · exact hA j hj h
          · omega, fun q hq => by omega, fun q _ hq => hop q hq, fun s hs => (fillB_no hs).symm, rfl, hbs.symm⟩
        have hwl := hend av (fillB l listed u a) w hav hI.below hI.defers (by rw [hbs]; exact hI.size) fun s hs => by
          unfold Knows
          cases hl : look (factsTo l (atL av Ts) l.length) s with
          | some T0 =>
            obtain ⟨j, hj, hd, hT0⟩ := mem_factsTo (look_some hl)
            obtain ⟨T, hT, rfl⟩ := atL_some hT0
            by_cases he : isA late j = false
            · rw [hbd j s hj he hd]
              rw [hu2 j hj he] at hT
              injection hT with hT
              subst hT
              rfl
            · have he' : isA late j = true := by simpa using he
              rw [hba s (fun j' hj' hd' => by obtain rfl := hdu j j' _ hj hj' hd hd'; exact he')]
              exact hI.done j s _ (hA j hj he') hd (atL_get av hT)
          | none =>
            have hnd : ∀ j, j < l.length → dstAt l j ≠ some s := fun j hj hd => by
              have hT : Ts[j]? = some (Ts[j]'(by omega)) := List.getElem?_eq_getElem (by omega)
              obtain ⟨T, hT'⟩ := look_mem ⟨_, factsTo_mem (i := l.length) hj hd (atL_get av hT), rfl⟩
              rw [hT'] at hl
              cases hl
            rw [fillB_no (fun j hj _ => hnd j hj)]
            exact hI.rest s fun j _ hd => hnd j (dst_lt hd) hd
        refine (ph2_any (by rw [hbs, hI.size]; exact hB) ?_ (fuel + 1) listed a w 0 hph hn (by simpa using hwl)).2 _ hi
        intro j o ho hj
        have hjl : j < l.length := (List.getElem?_eq_some_iff.1 ho).1
        obtain ⟨hg, u', hTu, hrun⟩ := hpure j o ho hj
        obtain ⟨⟨d, hd, hdm⟩, hdis, hbe, hlook⟩ := chainTB_at hB ho
        have hdj : dstAt l j = some d := by simp [dstAt, ho, hd]
        refine ⟨hg, d, hd, fun a' w' hag => ?_⟩
        have huu : u' = u j := by
          have h2 := hu2 j hjl hj
          rw [hTu] at h2
          injection h2 with h2
          have h3 : Is u' u' w := rfl
          have h4 := congrFun h2 av
          rw [h4] at h3
          exact h3
        rw [hbd j d hjl hj hdj, ← huu]
        refine hrun a' w' fun s hs => ?_
        have hsA : ∀ j', j' < l.length → dstAt l j' = some s → isA late j' = true := fun j' hj' hd' => by
          obtain ⟨-, h2⟩ := (hlook s hs).2 j' hj' hd'
          exact h2.resolve_left (by rw [hj]; simp)
        have hsv : a'.tmps.getD s undef = a.tmps.getD s undef := by rw [hag s hs, hba s hsA]
        unfold Knows
        rw [hsv]
        cases hl : look (factsTo l Us j) s with
        | some V =>
          obtain ⟨j', hj', hd', hV⟩ := mem_factsTo (look_some hl)
          have hT : Ts[j']? = some (Ts[j']'(by omega)) := List.getElem?_eq_getElem (by omega)
          exact hF.fr j' V hV _ w w' (hF.weak j' _ V hT hV _ _ _ (hI.done j' s _ (hA j' (by omega) (hsA j' (by omega) hd')) hd' (atL_get av hT)))
        | none =>
          refine hI.rest s fun j' hj' hd' => ?_
          have hjl' := dst_lt hd'
          obtain ⟨⟨e, he, hb, rfl⟩, -⟩ := (hlook s hs).2 j' hjl' hd'
          have hlt := hbe e he hb
          have hV : Us[e.on]? = some (Us[e.on]'(by omega)) := List.getElem?_eq_getElem (by omega)
          obtain ⟨V, hV'⟩ := look_mem ⟨_, factsTo_mem (i := j) hlt hd' hV, rfl⟩
          rw [hV'] at hl
          cases hl

/-- the rule -/
theorem wp_region_u {P : Program} {id : Nat} {ops : Array Oper} (l ts : List Oper) (late : List Nat) {Q : Exit → Act → World → Prop} {a : Act} {w : World} (hops : ops = (l ++ ts).toArray) (hts : 0 < ts.length) (hm : P.follows .mixedOrders = true) (hB : chainTB a.tmps.size late l ts = true)
    (h : ChainU P (l ++ ts).toArray late a w.drew (fun a w => wpList P (l ++ ts).toArray (OnlyN fun a w => Q .normal a w) ts a w) l 0 (fun _ => []) []) : (Code.region id ops true).wp P Q a w := by
  subst hops
  obtain ⟨Ts, Us, hF, hend⟩ := chainU_facts (l := l) l 0 [] [] rfl (Nat.zero_le _) h ⟨rfl, rfl, fun j T hT => by simp at hT, fun j T hT => by simp at hT, fun j T U hT => by simp at hT, fun j o T _ hT => by simp at hT⟩
  refine wp_region_any hm ?_
  have hff : ∀ j b, j < l.length + ts.length → (Array.replicate (l ++ ts).toArray.size false).getD j b = false := by
    intro j b hlt
    simp [hlt]
  refine inv1_anyU hts hB hF hend _ _ _ _ [] (by simp) (by simp) (fun q hq => hff _ _ (by omega)) ⟨_, ?_, rfl⟩ ⟨Below.refl _ _, rfl, rfl, ?_, fun s _ => rfl⟩
  · refine Nat.le_trans List.countP_le_length ?_
    simp
  · intro j d T hj
    exfalso
    have h0 : (Array.replicate (l ++ ts).toArray.size false).getD j false = false := by
      simp only [Array.getD_eq_getD_getElem?, Array.getElem?_replicate]
      split <;> rfl
    rw [h0] at hj
    cases hj

/-! ## The steps -/
section
variable {P : Program} {ops : Array Oper} {late : List Nat} {a0 : Act} {w0 : World} {E : Act → World → Prop} {o : Oper} {r : List Oper} {i : Nat} {F : List Nat → List (Tmp × Fact)} {G : List (Tmp × Fact)} {d : Tmp}

/-- an operation that leaves a known value -/
theorem u_val {u : Value} (L : List Tmp) (hi : isA late i = true) (hd : o.dst = some d) (hL : (L.all fun s => (o.looksAt ops).contains s) = true) (hg : ∀ av, GuardOK ops (F av) a0 o)
    (h : ∀ av ρ w, Below w0.heap.size w0 w → Plain ρ → AllK (F av) a0 w ρ L → (execOp ρ o).run P w = .ok (.value u) w) (hr : ChainU P ops late a0 w0 E r (i + 1) (fun av => (d, Is u) :: F av) ((d, Is u) :: G)) : ChainU P ops late a0 w0 E (o :: r) i F G := by
  refine ⟨d, fun _ => Is u, Is u, hd, stableU_of (stable_is u), free_is u, fun _ _ _ h => h, ?_, hr⟩
  rw [if_pos hi]
  intro av a w hav hb hk
  rw [if_pos (wanted_of (hg av) hk)]
  unfold Oper.wp
  rw [h av a.eval w hb (plain_eval a) (allK_of hk hL)]
  exact ⟨u, av, rfl, rfl, Below.refl _ _, Ext.refl _ _, hav⟩
/-- one that makes memory of no name; U: what lasts behind the stores, too -/
theorem u_new {T : FactU} (U : Fact) (L : List Tmp) (hi : isA late i = true) (hd : o.dst = some d) (hL : (L.all fun s => (o.looksAt ops).contains s) = true) (hg : ∀ av, GuardOK ops (F av) a0 o) (hs : stableU T) (hf : free U) (hTU : ∀ av v w, T av v w → U v w)
    (h : ∀ av ρ w, (∀ b ∈ av, b < w.heap.size) → Below w0.heap.size w0 w → Plain ρ → AllK (F av) a0 w ρ L → ∃ v w', (execOp ρ o).run P w = .ok (.value v) w' ∧ T av v w' ∧ Below w.heap.size w w') (hr : ChainU P ops late a0 w0 E r (i + 1) (fun av => (d, T av) :: F av) ((d, U) :: G)) : ChainU P ops late a0 w0 E (o :: r) i F G := by
  refine ⟨d, T, U, hd, hs, hf, hTU, ?_, hr⟩
  rw [if_pos hi]
  intro av a w hav hb hk
  rw [if_pos (wanted_of (hg av) hk)]
  obtain ⟨v, w', h1, h2, h3⟩ := h av a.eval w hav hb (plain_eval a) (allK_of hk hL)
  unfold Oper.wp
  rw [h1]
  exact ⟨v, av, rfl, h2, h3, Ext.refl _ _, fun b hb => Nat.lt_of_lt_of_le (hav b hb) h3.size⟩
/-- one that makes a variable: its block is remembered -/
theorem u_alloc {T : FactU} (U : Fact) (L : List Tmp) (hi : isA late i = true) (hd : o.dst = some d) (hL : (L.all fun s => (o.looksAt ops).contains s) = true) (hg : ∀ av, GuardOK ops (F av) a0 o) (hs : stableU T) (hf : free U) (hTU : ∀ av v w, T av v w → U v w)
    (h : ∀ av ρ w, (∀ b ∈ av, b < w.heap.size) → Below w0.heap.size w0 w → Plain ρ → AllK (F av) a0 w ρ L → ∃ v w', (execOp ρ o).run P w = .ok (.value v) w' ∧ T (w.heap.size :: av) v w' ∧ Below w.heap.size w w' ∧ w.heap.size < w'.heap.size) (hr : ChainU P ops late a0 w0 E r (i + 1) (fun av => (d, T av) :: F av) ((d, U) :: G)) : ChainU P ops late a0 w0 E (o :: r) i F G := by
  refine ⟨d, T, U, hd, hs, hf, hTU, ?_, hr⟩
  rw [if_pos hi]
  intro av a w hav hb hk
  rw [if_pos (wanted_of (hg av) hk)]
  obtain ⟨v, w', h1, h2, h3, h4⟩ := h av a.eval w hav hb (plain_eval a) (allK_of hk hL)
  unfold Oper.wp
  rw [h1]
  refine ⟨v, _, rfl, h2, h3, Ext.cons _ _, fun b hb => ?_⟩
  rcases List.mem_cons.1 hb with rfl | hb
  · exact h4
  · exact Nat.lt_of_lt_of_le (hav b hb) h3.size
/-- a call -/
theorem u_call {T : FactU} (U : Fact) (f : FuncId) (L : List Tmp) (hi : isA late i = true) (hd : o.dst = some d) (hL : (L.all fun s => (o.looksAt ops).contains s) = true) (hg : ∀ av, GuardOK ops (F av) a0 o) (hs : stableU T) (hf : free U) (hTU : ∀ av v w, T av v w → U v w)
    (h : ∀ av ρ w, (∀ b ∈ av, b < w.heap.size) → Below w0.heap.size w0 w → Plain ρ → AllK (F av) a0 w ρ L → ∃ args, (execOp ρ o).run P w = .ok (.enter f args) w ∧ Calls P f args w fun e w' => ∃ v, e = .returned v ∧ T av v w' ∧ Below w.heap.size w w') (hr : ChainU P ops late a0 w0 E r (i + 1) (fun av => (d, T av) :: F av) ((d, U) :: G)) : ChainU P ops late a0 w0 E (o :: r) i F G := by
  refine ⟨d, T, U, hd, hs, hf, hTU, ?_, hr⟩
  rw [if_pos hi]
  intro av a w hav hb hk
  rw [if_pos (wanted_of (hg av) hk)]
  obtain ⟨args, h1, h2⟩ := h av a.eval w hav hb (plain_eval a) (allK_of hk hL)
  unfold Oper.wp
  rw [h1]
  refine h2.mono fun e w' ⟨v, he, hT, hbel⟩ => ?_
  subst he
  exact ⟨v, av, rfl, hT, hbel, Ext.refl _ _, fun b hb => Nat.lt_of_lt_of_le (hav b hb) hbel.size⟩
/-- a part of a result, which neither reads memory nor writes it -/
theorem u_pure {u : Value} (L : List Tmp) (hi : isA late i = false) (hd : o.dst = some d) (hL : (L.all fun s => (o.looksAt ops).contains s) = true) (hg : o.guard = none)
    (h : ∀ ρ w, Plain ρ → AllK G a0 w ρ L → (execOp ρ o).run P w = .ok (.value u) w) (hr : ChainU P ops late a0 w0 E r (i + 1) (fun av => (d, Is u) :: F av) ((d, Is u) :: G)) : ChainU P ops late a0 w0 E (o :: r) i F G := by
  refine ⟨d, fun _ => Is u, Is u, hd, stableU_of (stable_is u), free_is u, fun _ _ _ h => h, ?_, hr⟩
  rw [if_neg (by rw [hi]; exact Bool.false_ne_true)]
  exact ⟨hg, u, rfl, fun a w hk => h a.eval w (plain_eval a) (allK_of hk hL)⟩
/-- the end: the frame slot by slot -/
theorem u_end_lit (n : Nat) (hn : a0.tmps.size = n)
    (h : ∀ (av : List Nat) (f : Tmp → Value) (w : World), (∀ b ∈ av, b < w.heap.size) → Below w0.heap.size w0 w → AllN (fun s => KnowsV (F av) a0 w s (f s)) n 0 → E { tmps := (frameL f n 0).toArray, defers := a0.defers } w) : ChainU P ops late a0 w0 E [] i F G := by
  intro av a w hav hb hd hs hk
  have e : a = { tmps := (frameL (fun s => a.tmps.getD s undef) n 0).toArray, defers := a0.defers } := by
    obtain ⟨tm, df⟩ := a
    simp only at hd hs
    subst hd
    congr 1
    apply Array.ext'
    apply List.ext_getElem?
    intro j
    by_cases hj : j < n
    · rw [show ((frameL (fun s => tm.getD s undef) n 0).toArray.toList) = frameL (fun s => tm.getD s undef) n 0 from rfl, frameL_get _ _ _ _ hj]
      have : j < tm.size := by omega
      simp [this]
    · rw [show ((frameL (fun s => tm.getD s undef) n 0).toArray.toList) = frameL (fun s => tm.getD s undef) n 0 from rfl]
      rw [List.getElem?_eq_none (by simp; omega), List.getElem?_eq_none (by rw [frameL_length]; omega)]
  rw [e]
  exact h av _ w hav hb (allN_of n 0 fun j _ hj => hk j (by rw [hn]; omega))
end
theorem wp_region_u11_3 {P : Program} {id : Nat} {o0 o1 o2 o3 o4 o5 o6 o7 o8 o9 o10 t0 t1 t2 : Oper} (late : List Nat) {Q : Exit → Act → World → Prop} {a : Act} {w : World} (hm : P.follows .mixedOrders = true) (hB : chainTB a.tmps.size late [o0, o1, o2, o3, o4, o5, o6, o7, o8, o9, o10] [t0, t1, t2] = true)
    (h : ChainU P #[o0, o1, o2, o3, o4, o5, o6, o7, o8, o9, o10, t0, t1, t2] late a w.drew (fun a w => wpList P #[o0, o1, o2, o3, o4, o5, o6, o7, o8, o9, o10, t0, t1, t2] (OnlyN fun a w => Q .normal a w) [t0, t1, t2] a w) [o0, o1, o2, o3, o4, o5, o6, o7, o8, o9, o10] 0 (fun _ => []) []) : (Code.region id #[o0, o1, o2, o3, o4, o5, o6, o7, o8, o9, o10, t0, t1, t2] true).wp P Q a w :=
  wp_region_u [o0, o1, o2, o3, o4, o5, o6, o7, o8, o9, o10] [t0, t1, t2] late rfl (by simp) hm hB h
end Go.Proofs.YtnmanhediiooaaaGreatDoor

/- Facts of drawn regions that know the region's own variables: nodes of a call's result, variables. -/
namespace Go.Proofs.YtnmanhediiooaaaGreatDoor
open Go.ChangeShapes Go.WideShapes Go.ChangeAt Go.RowKit
set_option linter.unusedVariables false
set_option linter.unusedSimpArgs false
set_option maxRecDepth 100000

/-- a node of the call's own, apart from the region's own variables -/
def NodAv (base : Nat) (x : Nd) : FactU := fun av v w => ∃ A c B c2 lo hi, v = .agg #[.int .i64 x.k, .int .i64 x.e, .int .i64 x.n, .slice A x.d.length c, .slice B x.ks.length c2] ∧ base ≤ lo ∧ hi ≤ w.heap.size ∧ NdO lo hi w A c B c2 x ∧ ∀ b ∈ av, b < lo ∨ hi ≤ b
theorem stable_nodAv (base : Nat) (x : Nd) : stableU (NodAv base x) := by
  rintro av av' v w w' ⟨A, c, B, c2, lo, hi, e, h0, h1, h2, h3⟩ hb hx _
  refine ⟨A, c, B, c2, lo, hi, e, h0, Nat.le_trans h1 hb.size, h2.below hb h1, fun b hm => ?_⟩
  rcases hx.new b hm with h | h
  · exact h3 b h
  · exact .inr (Nat.le_trans h1 h)
theorem NodAv.of {base : Nat} {x : Nd} {av : List Nat} {v : Value} {w w' : World} (h : NodF w.heap.size x v w') (hav : ∀ b ∈ av, b < w.heap.size) (hb : base ≤ w.heap.size) : NodAv base x av v w' := by
  obtain ⟨A, c, B, c2, hi, e, h1, h2⟩ := h
  exact ⟨A, c, B, c2, w.heap.size, hi, e, hb, h1, h2, fun b hm => .inl (hav b hm)⟩
theorem NodAv.zero (base : Nat) (av : List Nat) (w : World) : NodAv base nd0 av (.agg #[.int .i64 0, .int .i64 0, .int .i64 0, .slice none 0 0, .slice none 0 0]) w :=
  ⟨none, 0, none, 0, base, 0, rfl, Nat.le_refl _, Nat.zero_le _, fun W _ => nd0_here W 0 (by decide), fun b _ => .inr (Nat.zero_le _)⟩
/-- a result of which the first part is such a node -/
def Tup2Av (base : Nat) (x : Nd) (r : Value) : FactU := fun av v w => ∃ u, v = .tuple #[u, r] ∧ NodAv base x av u w
def Tup3Av (base : Nat) (x : Nd) (r r' : Value) : FactU := fun av v w => ∃ u, v = .tuple #[u, r, r'] ∧ NodAv base x av u w
def Tup2W (r : Value) : Fact := fun v _ => ∃ u, v = .tuple #[u, r]
def Tup3W (r r' : Value) : Fact := fun v _ => ∃ u, v = .tuple #[u, r, r']
theorem stable_tup3Av (base : Nat) (x : Nd) (r r' : Value) : stableU (Tup3Av base x r r') := fun av av' v w w' ⟨u, h1, h2⟩ hb hx ha => ⟨u, h1, stable_nodAv base x av av' u w w' h2 hb hx ha⟩
theorem free_tup3W (r r' : Value) : free (Tup3W r r') := fun _ _ _ h => h
theorem Tup2Av.w {base : Nat} {x : Nd} {r : Value} {av : List Nat} {v : Value} {w : World} (h : Tup2Av base x r av v w) : Tup2W r v w := ⟨h.choose, h.choose_spec.1⟩
theorem Tup3Av.w {base : Nat} {x : Nd} {r r' : Value} {av : List Nat} {v : Value} {w : World} (h : Tup3Av base x r r' av v w) : Tup3W r r' v w := ⟨h.choose, h.choose_spec.1⟩
/-- a variable that the region makes -/
def VarAv (base : Nat) (cs : Array Value) : FactU := fun av v w => ∃ b, b ∈ av ∧ v = .pointer (some ⟨b, 0, none⟩) ∧ base ≤ b ∧ Blk w b cs
theorem stable_varAv (base : Nat) (cs : Array Value) : stableU (VarAv base cs) := by
  rintro av av' v w w' ⟨b, h0, h1, h2, h3⟩ hb hx _
  exact ⟨b, hx.old b h0, h1, h2, h3.below hb⟩
/-- stores into blocks that are no part of a node leave it -/
theorem NdO.apart {lo hi : Nat} {w w' : World} {A : Option Addr} {c : Nat} {B : Option Addr} {c2 : Nat} {x : Nd} (h : NdO lo hi w A c B c2 x) (S : Nat → Prop) (hS : ∀ b, S b → b < lo ∨ hi ≤ b) (hw : ∀ k, ¬ S k → w'.heap[k]? = w.heap[k]?) : NdO lo hi w' A c B c2 x :=
  h.to fun k h1 h2 => hw k fun hk => by rcases hS k hk with h | h <;> omega
end Go.Proofs.YtnmanhediiooaaaGreatDoor

/- The reference's Message. -/
namespace Go.Proofs.YtnmanhediiooaaaGreatDoor
open Go.ChangeShapes Go.WideShapes Go.ChangeAt Go.RowKit
set_option linter.unusedVariables false
set_option linter.unusedSimpArgs false
set_option maxRecDepth 100000
attribute [local simp] AllK KnowsV look Is
/-- what a message denotes, and the error -/
def msgV (ls : List (List Int)) (D X : Int) : Nd × Int := if 0 < ls.length ∧ (seg ls 0).length = 0 then (nd0, 0) else if (valV ls D.toNat (startI X) 0 0).e ≠ 0 then (nd0, (valV ls D.toNat (startI X) 0 0).e) else (trimN (valV ls D.toNat (startI X) 0 0).n, 0)

set_option maxHeartbeats 8000000 in
set_option maxRecDepth 100000 in
theorem RefMessage12_some (A : Option Addr) (c : Nat) (ls : List (List Int)) (D X O : Int) (hw : Wd2 ls) (hm : ls.length ≤ 40) (hf : ∀ j, (seg ls j).length ≤ 20000000) (hD : D ≤ 900) (hX : X ≤ 1000000) (w : World) (hs : Sg w A ls) (hz : ¬ (seg ls 0).length = 0) (hl : 0 < ls.length) :
    Calls Tryz.prog 7 #[.slice A ls.length c, .agg #[.int .i64 D, .int .i64 X, .int .i64 O]] w fun e w' => ∃ v, e = .returned (.tuple #[v, .int .i64 (msgV ls D X).2]) ∧ NodF w.heap.size (msgV ls D X).1 v w' ∧ Below w.heap.size w w' := by
  have hx0 : 0 ≤ startI X ∧ startI X ≤ 1000000 := by unfold startI; split <;> omega
  have Hs := Lib.hid hs
  have HVC := Lib.hid (fun w' hs' => RefValue12 A c ls D X O hw hm hf hD D.toNat (startI X) 0 0 1 w' hs' hx0.1 (by omega) (by omega) (by omega) (by congr 1; omega))
  have HSZ := Lib.hid (valV_size hw hm hf D.toNat (startI X) 0 0)
  have HVA := Lib.hid (valV_valid hw hm hf D.toNat (startI X) 0 0)
  have HVM := Lib.hid (valV_m hw hm hf D.toNat (startI X) 0 0 hx0.1)
  have HMS : Hid (msgV ls D X = if (valV ls D.toNat (startI X) 0 0).e ≠ 0 then (nd0, (valV ls D.toNat (startI X) 0 0).e) else (trimN (valV ls D.toNat (startI X) 0 0).n, 0)) := Lib.hid (by unfold msgV; rw [if_neg (by omega)])
  generalize valV ls D.toNat (startI X) 0 0 = sv at *
  generalize msgV ls D X = mv at *
  obtain ⟨b, off, A', c', rfl, hc, -, -, -, -⟩ := (((Hs.out.below ((Below.refl _ _).alloc (Nat.le_refl _) (.cells #[.int .i64 D, .int .i64 X, .int .i64 O] 24)) (Nat.le_refl _)).below ((Below.refl _ _).alloc (Nat.le_refl _) (.cells #[.int .i64 0, .int .i64 0, .int .i64 0, .slice none 0 0, .slice none 0 0] 30)) (Nat.le_refl _))).one hl
  simp only [Nat.add_zero] at hc
  have t1 : decide ((0 : Int) < ls.length) = true := decide_eq_true (by omega)
  have t2 : (((seg ls 0).length : Int) == 0) = false := beq_eq_false_iff_ne.2 (by omega)
  clear hs hw hf
  generalize (seg ls 0).length = l0 at *
  go_enter Tryz.func7, Tryz.ntmps7
  go_wp2_with fail
  refine abs_code10 (F := fun W => Blk W w.heap.size #[.int .i64 D, .int .i64 X, .int .i64 O] ∧ Blk W (w.heap.size + 1) #[.int .i64 0, .int .i64 0, .int .i64 0, .slice none 0 0, .slice none 0 0] ∧ Below w.heap.size w W) ⟨?_, ?_, ?_⟩ ?_
  · exact (Blk.fresh _ _ _).alloc _
  · exact Blk.new (by simp)
  · exact ((Below.refl _ _).alloc (Nat.le_refl _) _).alloc (by simp) _
  rintro W ⟨h0, h1, hb⟩
  have K1 := Lib.hid h1
  have hz1 := h1.lt
  obtain ⟨x0, y0, z0⟩ := h0
  refine wp_region_u11_3 [7, 8] (by kernel_rfl) (by kernel_rfl) ?_
  refine u_val (u := ?_) [0] (by kernel_rfl) rfl (by kernel_rfl) (fun _ => trivial) (fun av ρ wc hbc hcn hq => ?_) ?_; rotate_left
  · obtain ⟨hcn, -⟩ := hcn
    simp at hq
    obtain ⟨hcc, -⟩ := bcell hbc
    simp at hcc
    go_simp
    rfl
  refine u_val (u := ?_) [3] (by kernel_rfl) rfl (by kernel_rfl) (fun _ => trivial) (fun av ρ wc hbc hcn hq => ?_) ?_; rotate_left
  · obtain ⟨hcn, -⟩ := hcn
    simp at hq
    obtain ⟨hcc, -⟩ := bcell hbc
    simp at hcc
    go_simp
    rfl
  refine u_val (u := ?_) [3] (by kernel_rfl) rfl (by kernel_rfl) (fun _ => trivial) (fun av ρ wc hbc hcn hq => ?_) ?_; rotate_left
  · obtain ⟨hcn, -⟩ := hcn
    simp at hq
    obtain ⟨hcc, -⟩ := bcell hbc
    simp at hcc
    go_simp
    rfl
  refine u_call (T := fun _ => Is (.agg #[.int .i64 (startI X)])) (Is (.agg #[.int .i64 (startI X)])) 20 [23] (by kernel_rfl) rfl (by kernel_rfl) (fun _ => trivial) (stableU_of (stable_is _)) (free_is _) (fun _ _ _ h => h) (fun av ρ wc hav hbc hcn hq => ?_) ?_
  · obtain ⟨hcn, hfn⟩ := hcn
    simp at hq
    refine ⟨_, by go_simp; rfl, ?_⟩
    refine (RefStart_any D X O _).mono ?_
    rintro e w' ⟨rfl, hbq⟩
    exact ⟨_, rfl, rfl, hbq⟩
  refine u_call (T := Tup3Av W.heap.size sv.n (.agg #[.int .i64 sv.m]) (.int .i64 sv.e)) (Tup3W (.agg #[.int .i64 sv.m]) (.int .i64 sv.e)) 19 [21, 22, 24] (by kernel_rfl) rfl (by kernel_rfl) (fun _ => trivial) (stable_tup3Av _ _ _ _) (free_tup3W _ _) (fun _ _ _ h => h.w) (fun av ρ wc hav hbc hcn hq => ?_) ?_
  · obtain ⟨hcn, hfn⟩ := hcn
    simp at hq
    refine ⟨_, by go_simp; rfl, ?_⟩
    refine (HVC.out wc (Hs.out.below (bel_on (bel_drew hb) hbc) (Nat.le_refl _))).mono ?_
    rintro e w' ⟨v, rfl, hn, hbq⟩
    exact ⟨_, rfl, ⟨v, rfl, NodAv.of hn hav hbc.size⟩, hbq⟩
  refine u_new (T := Tup3Av W.heap.size sv.n (.agg #[.int .i64 sv.m]) (.int .i64 sv.e)) (Tup3W (.agg #[.int .i64 sv.m]) (.int .i64 sv.e)) [25] (by kernel_rfl) rfl (by kernel_rfl) (fun _ => trivial) (stable_tup3Av _ _ _ _) (free_tup3W _ _) (fun _ _ _ h => h.w) (fun av ρ wc hav hbc hcn hq => ?_) ?_
  · obtain ⟨hcn, hfn⟩ := hcn
    simp at hq
    exact ⟨ρ (.tmp 25), wc, by go_simp, hq, Below.refl _ _⟩
  refine u_new (T := NodAv W.heap.size sv.n) Any [20] (by kernel_rfl) rfl (by kernel_rfl) (fun _ => trivial) (stable_nodAv _ _) free_any (fun _ _ _ _ => trivial) (fun av ρ wc hav hbc hcn hq => ?_) ?_
  · obtain ⟨hcn, hfn⟩ := hcn
    simp at hq
    obtain ⟨x, hx, hn⟩ := hq
    exact ⟨x, wc, by go_simp, hn, Below.refl _ _⟩
  refine u_pure (u := .agg #[.int .i64 sv.m]) [20] (by kernel_rfl) rfl (by kernel_rfl) rfl (fun ρ wc hcn hq => ?_) ?_
  · obtain ⟨hcn, hfn⟩ := hcn
    simp at hq
    obtain ⟨x, hx⟩ := hq
    go_simp
  refine u_pure (u := .int .i64 sv.e) [20] (by kernel_rfl) rfl (by kernel_rfl) rfl (fun ρ wc hcn hq => ?_) ?_
  · obtain ⟨hcn, hfn⟩ := hcn
    simp at hq
    obtain ⟨x, hx⟩ := hq
    go_simp
  refine u_alloc (T := VarAv W.heap.size #[.int .i64 0, .int .i64 0, .int .i64 0, .slice none 0 0, .slice none 0 0]) Any [] (by kernel_rfl) rfl (by kernel_rfl) (fun _ => trivial) (stable_varAv _ _) free_any (fun _ _ _ _ => trivial) (fun av ρ wc hav hbc hcn hq => ?_) ?_
  · obtain ⟨hcn, -⟩ := hcn
    exact ⟨.pointer (some ⟨wc.heap.size, 0, none⟩), wc.alloc (.cells #[.int .i64 0, .int .i64 0, .int .i64 0, .slice none 0 0, .slice none 0 0] 30), by go_simp, ⟨_, List.mem_cons_self .., rfl, hbc.size, Blk.fresh _ _ _⟩, (Below.refl _ _).alloc (Nat.le_refl _) _, by simp⟩
  refine u_alloc (T := VarAv W.heap.size #[.int .i64 0]) Any [] (by kernel_rfl) rfl (by kernel_rfl) (fun _ => trivial) (stable_varAv _ _) free_any (fun _ _ _ _ => trivial) (fun av ρ wc hav hbc hcn hq => ?_) ?_
  · obtain ⟨hcn, -⟩ := hcn
    exact ⟨.pointer (some ⟨wc.heap.size, 0, none⟩), wc.alloc (.cells #[.int .i64 0] 55), by go_simp, ⟨_, List.mem_cons_self .., rfl, hbc.size, Blk.fresh _ _ _⟩, (Below.refl _ _).alloc (Nat.le_refl _) _, by simp⟩
  refine u_end_lit 35 rfl (fun av ff w4 hav hb7 hq => ?_)
  have h26 : NodAv W.heap.size sv.n av (ff 26) w4 := allN_atF hq 26 (by decide) (by decide)
  have h6 : VarAv W.heap.size #[.int .i64 0, .int .i64 0, .int .i64 0, .slice none 0 0, .slice none 0 0] av (ff 6) w4 := allN_atF hq 6 (by decide) (by decide)
  have h7 : VarAv W.heap.size #[.int .i64 0] av (ff 7) w4 := allN_atF hq 7 (by decide) (by decide)
  have hb4 : Below W.heap.size W w4 := ⟨hb7.os, hb7.tape, hb7.output, hb7.size, hb7.block⟩
  simp [AllN] at hq
  simp only [frameL, hq, Nat.zero_add, Nat.reduceAdd]
  clear hq hb7 x0 y0 z0
  obtain ⟨Ak, ck, Bk, ek, lok, hik, e26, hlk, hhk, hok, hapart⟩ := h26
  obtain ⟨b6, m6, e6, hb6, hv6⟩ := h6
  obtain ⟨b7, m7, e7, hb7, hv7⟩ := h7
  have a6 := hapart b6 m6
  have a7 := hapart b7 m7
  generalize ff 20 = u20
  generalize ff 25 = u25
  generalize ff 26 = u26 at *
  generalize ff 6 = u6 at *
  generalize ff 7 = u7 at *
  subst e26 e6 e7
  have n1 : b6 ≠ b7 := by
    rintro rfl
    have h1 := hv6.cell 1
    rw [hv7.cell 1] at h1
    simp at h1
  have n2 : b7 ≠ b6 := fun h => n1 h.symm
  have k1 := h1.below hb4
  have K1 := Lib.hid k1
  have HB := Lib.hid (bel_on hb hb4)
  have hsz4 := hb4.size
  have HNK := Lib.hid hok
  have K6 := Lib.hid hv6
  have K7 := Lib.hid hv7
  clear h1 hb hb4 hok hapart m6 m7 hav
  obtain ⟨x6, y6, z6⟩ := hv6
  obtain ⟨x7, y7, z7⟩ := hv7
  obtain ⟨x1, y1, z1⟩ := k1
  have n3 : b6 ≠ w.heap.size + 1 := by omega
  have n4 : b7 ≠ w.heap.size + 1 := by omega
  by_cases he : sv.e = 0
  · have HE := Lib.hid he
    have t3 : (sv.e != 0) = false := by rw [he]; rfl
    rw [if_neg (by rw [he]; simp)] at HMS
    clear he
    go_wp2_with fail
    refine ⟨rfl, ?_⟩
    go_wp2_with fail
    refine abs_world (F := fun V => Blk V (w.heap.size + 1) #[.int .i64 0, .int .i64 0, .int .i64 0, .slice none 0 0, .slice none 0 0] ∧ NdR V Ak ck Bk ek sv.n ∧ Below w.heap.size w V) ⟨?_, ?_, ?_⟩ ?_
    · exact (((((K1.out.other (by simp; omega) _).other (by simp; omega) _).other (by simp; omega) _).other (by simp; omega) _).other (by simp; omega) _).other (by simp; omega) _
    · refine (HNK.out.to fun g h1 h2 => ?_).nd
      rw [Below.heap_setCell _ _ _ _ (by simp; omega), Below.heap_setCell _ _ _ _ (by simp; omega), Below.heap_setCell _ _ _ _ (by simp; omega), Below.heap_setCell _ _ _ _ (by simp; omega), Below.heap_setCell _ _ _ _ (by simp; omega), Below.heap_setCell _ _ _ _ (by simp; omega)]
    · refine Below.setCell (Below.setCell (Below.setCell (Below.setCell (Below.setCell (Below.setCell HB.out ?_ _) ?_ _) ?_ _) ?_ _) ?_ _) ?_ _ <;> (simp; omega)
    clear K1 HB HNK K6 K7 x6 y6 z6 x7 y7 z7 x1 y1 z1
    rintro V ⟨h1, hnk, hbv⟩
    refine (RefTrim11_node sv.n Ak ck Bk ek V hnk (by have := HSZ.out; have := HVM.out; omega) HVA.out).mono ?_
    rintro e V2 ⟨v, rfl, ⟨At, ct, Bt, et, hit, rfl, hht, hot⟩, hbt⟩
    have B1 := h1.below hbt
    have HB := Lib.hid (hbv.trans (hbt.mono hbv.size))
    have K1 := Lib.hid B1
    have hl1 := h1.lt
    have HOT := Lib.hid hot
    clear h1 hnk hbv hbt hot
    obtain ⟨x1, y1, z1⟩ := B1
    go_wp2_with fail
    refine abs_post (F := fun U => Blk U (w.heap.size + 1) #[.int .i64 (trimN sv.n).k, .int .i64 (trimN sv.n).e, .int .i64 (trimN sv.n).n, .slice At (trimN sv.n).d.length ct, .slice Bt (trimN sv.n).ks.length et] ∧ NodF V.heap.size (trimN sv.n) (.agg #[.int .i64 (trimN sv.n).k, .int .i64 (trimN sv.n).e, .int .i64 (trimN sv.n).n, .slice At (trimN sv.n).d.length ct, .slice Bt (trimN sv.n).ks.length et]) U ∧ Below w.heap.size w U) ⟨?_, ?_, ?_⟩ ?_
    · exact ((((K1.out.set 0 (by simp) _).set 1 (by simp) _).set 2 (by simp) _).set 3 (by simp) _).set 4 (by simp) _
    · refine ⟨At, ct, Bt, et, hit, rfl, by simpa [World.setCell] using hht, HOT.out.to fun g h1 h2 => ?_⟩
      rw [Below.heap_setCell _ _ _ _ (by simp; omega), Below.heap_setCell _ _ _ _ (by simp; omega), Below.heap_setCell _ _ _ _ (by simp; omega), Below.heap_setCell _ _ _ _ (by simp; omega), Below.heap_setCell _ _ _ _ (by simp; omega)]
    · refine Below.setCell (Below.setCell (Below.setCell (Below.setCell (Below.setCell HB.out ?_ _) ?_ _) ?_ _) ?_ _) ?_ _ <;> (simp)
    rintro U ⟨B6, hnt, hbw⟩
    exact bodyPost_ret (v := .tuple #[.agg #[.int .i64 (trimN sv.n).k, .int .i64 (trimN sv.n).e, .int .i64 (trimN sv.n).n, .slice At (trimN sv.n).d.length ct, .slice Bt (trimN sv.n).ks.length et], .int .i64 0]) (by simp [results, Tryz.results7, go_sem, B6.cell]) rfl ⟨_, by rw [HMS.out], by rw [HMS.out]; exact hnt.lower (by omega), hbw⟩
  · have t3 : (sv.e != 0) = true := bne_iff_ne.2 he
    rw [if_pos he] at HMS
    clear he
    go_wp2_with fail
    refine ⟨rfl, ?_⟩
    go_wp2_with fail
    refine abs_post (F := fun U => Blk U (w.heap.size + 1) #[.int .i64 0, .int .i64 0, .int .i64 0, .slice none 0 0, .slice none 0 0] ∧ Below w.heap.size w U) ⟨?_, ?_⟩ ?_
    · have h := (((((K1.out.other (p := ⟨b6, 0, none⟩) (by simp; omega) (.int .i64 sv.n.k)).other (p := ⟨b6, 1, none⟩) (by simp; omega) (.int .i64 sv.n.e)).other (p := ⟨b6, 2, none⟩) (by simp; omega) (.int .i64 sv.n.n)).other (p := ⟨b6, 3, none⟩) (by simp; omega) (.slice Ak sv.n.d.length ck)).other (p := ⟨b6, 4, none⟩) (by simp; omega) (.slice Bk sv.n.ks.length ek)).other (p := ⟨b7, 0, none⟩) (by simp; omega) (.int .i64 sv.m)
      exact ((((h.set 0 (by simp) _).set 1 (by simp) _).set 2 (by simp) _).set 3 (by simp) _).set 4 (by simp) _
    · refine Below.setCell (Below.setCell (Below.setCell (Below.setCell (Below.setCell (Below.setCell (Below.setCell (Below.setCell (Below.setCell (Below.setCell (Below.setCell HB.out ?_ _) ?_ _) ?_ _) ?_ _) ?_ _) ?_ _) ?_ _) ?_ _) ?_ _) ?_ _) ?_ _ <;> (simp; try omega)
    rintro U ⟨B6, hbw⟩
    exact bodyPost_ret (v := .tuple #[.agg #[.int .i64 0, .int .i64 0, .int .i64 0, .slice none 0 0, .slice none 0 0], .int .i64 sv.e]) (by simp [results, Tryz.results7, go_sem, B6.cell]) rfl ⟨_, by rw [HMS.out], by rw [HMS.out]; exact nod_zero _ _, hbw⟩
set_option maxHeartbeats 8000000 in
set_option maxRecDepth 100000 in
theorem RefMessage12_none (A : Option Addr) (c : Nat) (ls : List (List Int)) (D X O : Int) (hw : Wd2 ls) (hm : ls.length ≤ 40) (hf : ∀ j, (seg ls j).length ≤ 20000000) (hD : D ≤ 900) (hX : X ≤ 1000000) (w : World) (hs : Sg w A ls) (hl : ls.length = 0) :
    Calls Tryz.prog 7 #[.slice A ls.length c, .agg #[.int .i64 D, .int .i64 X, .int .i64 O]] w fun e w' => ∃ v, e = .returned (.tuple #[v, .int .i64 (msgV ls D X).2]) ∧ NodF w.heap.size (msgV ls D X).1 v w' ∧ Below w.heap.size w w' := by
  have hx0 : 0 ≤ startI X ∧ startI X ≤ 1000000 := by unfold startI; split <;> omega
  have Hs := Lib.hid hs
  have HVC := Lib.hid (fun w' hs' => RefValue12 A c ls D X O hw hm hf hD D.toNat (startI X) 0 0 1 w' hs' hx0.1 (by omega) (by omega) (by omega) (by congr 1; omega))
  have HSZ := Lib.hid (valV_size hw hm hf D.toNat (startI X) 0 0)
  have HVA := Lib.hid (valV_valid hw hm hf D.toNat (startI X) 0 0)
  have HVM := Lib.hid (valV_m hw hm hf D.toNat (startI X) 0 0 hx0.1)
  have HMS : Hid (msgV ls D X = if (valV ls D.toNat (startI X) 0 0).e ≠ 0 then (nd0, (valV ls D.toNat (startI X) 0 0).e) else (trimN (valV ls D.toNat (startI X) 0 0).n, 0)) := Lib.hid (by unfold msgV; rw [if_neg (by omega)])
  generalize valV ls D.toNat (startI X) 0 0 = sv at *
  generalize msgV ls D X = mv at *
  have t1 : ¬ ((0 : Int) < ls.length) := by omega
  clear hs hw hf hl
  go_enter Tryz.func7, Tryz.ntmps7
  go_wp2_with fail
  refine abs_code10 (F := fun W => Blk W w.heap.size #[.int .i64 D, .int .i64 X, .int .i64 O] ∧ Blk W (w.heap.size + 1) #[.int .i64 0, .int .i64 0, .int .i64 0, .slice none 0 0, .slice none 0 0] ∧ Below w.heap.size w W) ⟨?_, ?_, ?_⟩ ?_
  · exact (Blk.fresh _ _ _).alloc _
  · exact Blk.new (by simp)
  · exact ((Below.refl _ _).alloc (Nat.le_refl _) _).alloc (by simp) _
  rintro W ⟨h0, h1, hb⟩
  have K1 := Lib.hid h1
  have hz1 := h1.lt
  obtain ⟨x0, y0, z0⟩ := h0
  refine wp_region_u11_3 [7, 8] (by kernel_rfl) (by kernel_rfl) ?_
  refine u_val (u := ?_) [0] (by kernel_rfl) rfl (by kernel_rfl) (fun _ => trivial) (fun av ρ wc hbc hcn hq => ?_) ?_; rotate_left
  · obtain ⟨hcn, -⟩ := hcn
    simp at hq
    obtain ⟨hcc, -⟩ := bcell hbc
    simp at hcc
    go_simp
    rfl
  refine u_val (u := ?_) [3] (by kernel_rfl) rfl (by kernel_rfl) (fun _ => trivial) (fun av ρ wc hbc hcn hq => ?_) ?_; rotate_left
  · obtain ⟨hcn, -⟩ := hcn
    simp at hq
    obtain ⟨hcc, -⟩ := bcell hbc
    simp at hcc
    go_simp
    rfl
  refine u_val (u := ?_) [3] (by kernel_rfl) rfl (by kernel_rfl) (fun _ => trivial) (fun av ρ wc hbc hcn hq => ?_) ?_; rotate_left
  · obtain ⟨hcn, -⟩ := hcn
    simp at hq
    obtain ⟨hcc, -⟩ := bcell hbc
    simp at hcc
    go_simp
    rfl
  refine u_call (T := fun _ => Is (.agg #[.int .i64 (startI X)])) (Is (.agg #[.int .i64 (startI X)])) 20 [23] (by kernel_rfl) rfl (by kernel_rfl) (fun _ => trivial) (stableU_of (stable_is _)) (free_is _) (fun _ _ _ h => h) (fun av ρ wc hav hbc hcn hq => ?_) ?_
  · obtain ⟨hcn, hfn⟩ := hcn
    simp at hq
    refine ⟨_, by go_simp; rfl, ?_⟩
    refine (RefStart_any D X O _).mono ?_
    rintro e w' ⟨rfl, hbq⟩
    exact ⟨_, rfl, rfl, hbq⟩
  refine u_call (T := Tup3Av W.heap.size sv.n (.agg #[.int .i64 sv.m]) (.int .i64 sv.e)) (Tup3W (.agg #[.int .i64 sv.m]) (.int .i64 sv.e)) 19 [21, 22, 24] (by kernel_rfl) rfl (by kernel_rfl) (fun _ => trivial) (stable_tup3Av _ _ _ _) (free_tup3W _ _) (fun _ _ _ h => h.w) (fun av ρ wc hav hbc hcn hq => ?_) ?_
  · obtain ⟨hcn, hfn⟩ := hcn
    simp at hq
    refine ⟨_, by go_simp; rfl, ?_⟩
    refine (HVC.out wc (Hs.out.below (bel_on (bel_drew hb) hbc) (Nat.le_refl _))).mono ?_
    rintro e w' ⟨v, rfl, hn, hbq⟩
    exact ⟨_, rfl, ⟨v, rfl, NodAv.of hn hav hbc.size⟩, hbq⟩
  refine u_new (T := Tup3Av W.heap.size sv.n (.agg #[.int .i64 sv.m]) (.int .i64 sv.e)) (Tup3W (.agg #[.int .i64 sv.m]) (.int .i64 sv.e)) [25] (by kernel_rfl) rfl (by kernel_rfl) (fun _ => trivial) (stable_tup3Av _ _ _ _) (free_tup3W _ _) (fun _ _ _ h => h.w) (fun av ρ wc hav hbc hcn hq => ?_) ?_
  · obtain ⟨hcn, hfn⟩ := hcn
    simp at hq
    exact ⟨ρ (.tmp 25), wc, by go_simp, hq, Below.refl _ _⟩
  refine u_new (T := NodAv W.heap.size sv.n) Any [20] (by kernel_rfl) rfl (by kernel_rfl) (fun _ => trivial) (stable_nodAv _ _) free_any (fun _ _ _ _ => trivial) (fun av ρ wc hav hbc hcn hq => ?_) ?_
  · obtain ⟨hcn, hfn⟩ := hcn
    simp at hq
    obtain ⟨x, hx, hn⟩ := hq
    exact ⟨x, wc, by go_simp, hn, Below.refl _ _⟩
  refine u_pure (u := .agg #[.int .i64 sv.m]) [20] (by kernel_rfl) rfl (by kernel_rfl) rfl (fun ρ wc hcn hq => ?_) ?_
  · obtain ⟨hcn, hfn⟩ := hcn
    simp at hq
    obtain ⟨x, hx⟩ := hq
    go_simp
  refine u_pure (u := .int .i64 sv.e) [20] (by kernel_rfl) rfl (by kernel_rfl) rfl (fun ρ wc hcn hq => ?_) ?_
  · obtain ⟨hcn, hfn⟩ := hcn
    simp at hq
    obtain ⟨x, hx⟩ := hq
    go_simp
  refine u_alloc (T := VarAv W.heap.size #[.int .i64 0, .int .i64 0, .int .i64 0, .slice none 0 0, .slice none 0 0]) Any [] (by kernel_rfl) rfl (by kernel_rfl) (fun _ => trivial) (stable_varAv _ _) free_any (fun _ _ _ _ => trivial) (fun av ρ wc hav hbc hcn hq => ?_) ?_
  · obtain ⟨hcn, -⟩ := hcn
    exact ⟨.pointer (some ⟨wc.heap.size, 0, none⟩), wc.alloc (.cells #[.int .i64 0, .int .i64 0, .int .i64 0, .slice none 0 0, .slice none 0 0] 30), by go_simp, ⟨_, List.mem_cons_self .., rfl, hbc.size, Blk.fresh _ _ _⟩, (Below.refl _ _).alloc (Nat.le_refl _) _, by simp⟩
  refine u_alloc (T := VarAv W.heap.size #[.int .i64 0]) Any [] (by kernel_rfl) rfl (by kernel_rfl) (fun _ => trivial) (stable_varAv _ _) free_any (fun _ _ _ _ => trivial) (fun av ρ wc hav hbc hcn hq => ?_) ?_
  · obtain ⟨hcn, -⟩ := hcn
    exact ⟨.pointer (some ⟨wc.heap.size, 0, none⟩), wc.alloc (.cells #[.int .i64 0] 55), by go_simp, ⟨_, List.mem_cons_self .., rfl, hbc.size, Blk.fresh _ _ _⟩, (Below.refl _ _).alloc (Nat.le_refl _) _, by simp⟩
  refine u_end_lit 35 rfl (fun av ff w4 hav hb7 hq => ?_)
  have h26 : NodAv W.heap.size sv.n av (ff 26) w4 := allN_atF hq 26 (by decide) (by decide)
  have h6 : VarAv W.heap.size #[.int .i64 0, .int .i64 0, .int .i64 0, .slice none 0 0, .slice none 0 0] av (ff 6) w4 := allN_atF hq 6 (by decide) (by decide)
  have h7 : VarAv W.heap.size #[.int .i64 0] av (ff 7) w4 := allN_atF hq 7 (by decide) (by decide)
  have hb4 : Below W.heap.size W w4 := ⟨hb7.os, hb7.tape, hb7.output, hb7.size, hb7.block⟩
  simp [AllN] at hq
  simp only [frameL, hq, Nat.zero_add, Nat.reduceAdd]
  clear hq hb7 x0 y0 z0
  obtain ⟨Ak, ck, Bk, ek, lok, hik, e26, hlk, hhk, hok, hapart⟩ := h26
  obtain ⟨b6, m6, e6, hb6, hv6⟩ := h6
  obtain ⟨b7, m7, e7, hb7, hv7⟩ := h7
  have a6 := hapart b6 m6
  have a7 := hapart b7 m7
  generalize ff 20 = u20
  generalize ff 25 = u25
  generalize ff 26 = u26 at *
  generalize ff 6 = u6 at *
  generalize ff 7 = u7 at *
  subst e26 e6 e7
  have n1 : b6 ≠ b7 := by
    rintro rfl
    have h1 := hv6.cell 1
    rw [hv7.cell 1] at h1
    simp at h1
  have n2 : b7 ≠ b6 := fun h => n1 h.symm
  have k1 := h1.below hb4
  have K1 := Lib.hid k1
  have HB := Lib.hid (bel_on hb hb4)
  have hsz4 := hb4.size
  have HNK := Lib.hid hok
  have K6 := Lib.hid hv6
  have K7 := Lib.hid hv7
  clear h1 hb hb4 hok hapart m6 m7 hav
  obtain ⟨x6, y6, z6⟩ := hv6
  obtain ⟨x7, y7, z7⟩ := hv7
  obtain ⟨x1, y1, z1⟩ := k1
  have n3 : b6 ≠ w.heap.size + 1 := by omega
  have n4 : b7 ≠ w.heap.size + 1 := by omega
  by_cases he : sv.e = 0
  · have HE := Lib.hid he
    have t3 : (sv.e != 0) = false := by rw [he]; rfl
    rw [if_neg (by rw [he]; simp)] at HMS
    clear he
    go_wp2_with fail
    refine ⟨rfl, ?_⟩
    go_wp2_with fail
    refine abs_world (F := fun V => Blk V (w.heap.size + 1) #[.int .i64 0, .int .i64 0, .int .i64 0, .slice none 0 0, .slice none 0 0] ∧ NdR V Ak ck Bk ek sv.n ∧ Below w.heap.size w V) ⟨?_, ?_, ?_⟩ ?_
    · exact (((((K1.out.other (by simp; omega) _).other (by simp; omega) _).other (by simp; omega) _).other (by simp; omega) _).other (by simp; omega) _).other (by simp; omega) _
    · refine (HNK.out.to fun g h1 h2 => ?_).nd
      rw [Below.heap_setCell _ _ _ _ (by simp; omega), Below.heap_setCell _ _ _ _ (by simp; omega), Below.heap_setCell _ _ _ _ (by simp; omega), Below.heap_setCell _ _ _ _ (by simp; omega), Below.heap_setCell _ _ _ _ (by simp; omega), Below.heap_setCell _ _ _ _ (by simp; omega)]
    · refine Below.setCell (Below.setCell (Below.setCell (Below.setCell (Below.setCell (Below.setCell HB.out ?_ _) ?_ _) ?_ _) ?_ _) ?_ _) ?_ _ <;> (simp; omega)
    clear K1 HB HNK K6 K7 x6 y6 z6 x7 y7 z7 x1 y1 z1
    rintro V ⟨h1, hnk, hbv⟩
    refine (RefTrim11_node sv.n Ak ck Bk ek V hnk (by have := HSZ.out; have := HVM.out; omega) HVA.out).mono ?_
    rintro e V2 ⟨v, rfl, ⟨At, ct, Bt, et, hit, rfl, hht, hot⟩, hbt⟩
    have B1 := h1.below hbt
    have HB := Lib.hid (hbv.trans (hbt.mono hbv.size))
    have K1 := Lib.hid B1
    have hl1 := h1.lt
    have HOT := Lib.hid hot
    clear h1 hnk hbv hbt hot
    obtain ⟨x1, y1, z1⟩ := B1
    go_wp2_with fail
    refine abs_post (F := fun U => Blk U (w.heap.size + 1) #[.int .i64 (trimN sv.n).k, .int .i64 (trimN sv.n).e, .int .i64 (trimN sv.n).n, .slice At (trimN sv.n).d.length ct, .slice Bt (trimN sv.n).ks.length et] ∧ NodF V.heap.size (trimN sv.n) (.agg #[.int .i64 (trimN sv.n).k, .int .i64 (trimN sv.n).e, .int .i64 (trimN sv.n).n, .slice At (trimN sv.n).d.length ct, .slice Bt (trimN sv.n).ks.length et]) U ∧ Below w.heap.size w U) ⟨?_, ?_, ?_⟩ ?_
    · exact ((((K1.out.set 0 (by simp) _).set 1 (by simp) _).set 2 (by simp) _).set 3 (by simp) _).set 4 (by simp) _
    · refine ⟨At, ct, Bt, et, hit, rfl, by simpa [World.setCell] using hht, HOT.out.to fun g h1 h2 => ?_⟩
      rw [Below.heap_setCell _ _ _ _ (by simp; omega), Below.heap_setCell _ _ _ _ (by simp; omega), Below.heap_setCell _ _ _ _ (by simp; omega), Below.heap_setCell _ _ _ _ (by simp; omega), Below.heap_setCell _ _ _ _ (by simp; omega)]
    · refine Below.setCell (Below.setCell (Below.setCell (Below.setCell (Below.setCell HB.out ?_ _) ?_ _) ?_ _) ?_ _) ?_ _ <;> (simp)
    rintro U ⟨B6, hnt, hbw⟩
    exact bodyPost_ret (v := .tuple #[.agg #[.int .i64 (trimN sv.n).k, .int .i64 (trimN sv.n).e, .int .i64 (trimN sv.n).n, .slice At (trimN sv.n).d.length ct, .slice Bt (trimN sv.n).ks.length et], .int .i64 0]) (by simp [results, Tryz.results7, go_sem, B6.cell]) rfl ⟨_, by rw [HMS.out], by rw [HMS.out]; exact hnt.lower (by omega), hbw⟩
  · have t3 : (sv.e != 0) = true := bne_iff_ne.2 he
    rw [if_pos he] at HMS
    clear he
    go_wp2_with fail
    refine ⟨rfl, ?_⟩
    go_wp2_with fail
    refine abs_post (F := fun U => Blk U (w.heap.size + 1) #[.int .i64 0, .int .i64 0, .int .i64 0, .slice none 0 0, .slice none 0 0] ∧ Below w.heap.size w U) ⟨?_, ?_⟩ ?_
    · have h := (((((K1.out.other (p := ⟨b6, 0, none⟩) (by simp; omega) (.int .i64 sv.n.k)).other (p := ⟨b6, 1, none⟩) (by simp; omega) (.int .i64 sv.n.e)).other (p := ⟨b6, 2, none⟩) (by simp; omega) (.int .i64 sv.n.n)).other (p := ⟨b6, 3, none⟩) (by simp; omega) (.slice Ak sv.n.d.length ck)).other (p := ⟨b6, 4, none⟩) (by simp; omega) (.slice Bk sv.n.ks.length ek)).other (p := ⟨b7, 0, none⟩) (by simp; omega) (.int .i64 sv.m)
      exact ((((h.set 0 (by simp) _).set 1 (by simp) _).set 2 (by simp) _).set 3 (by simp) _).set 4 (by simp) _
    · refine Below.setCell (Below.setCell (Below.setCell (Below.setCell (Below.setCell (Below.setCell (Below.setCell (Below.setCell (Below.setCell (Below.setCell (Below.setCell HB.out ?_ _) ?_ _) ?_ _) ?_ _) ?_ _) ?_ _) ?_ _) ?_ _) ?_ _) ?_ _) ?_ _ <;> (simp; try omega)
    rintro U ⟨B6, hbw⟩
    exact bodyPost_ret (v := .tuple #[.agg #[.int .i64 0, .int .i64 0, .int .i64 0, .slice none 0 0, .slice none 0 0], .int .i64 sv.e]) (by simp [results, Tryz.results7, go_sem, B6.cell]) rfl ⟨_, by rw [HMS.out], by rw [HMS.out]; exact nod_zero _ _, hbw⟩
set_option maxRecDepth 100000 in
set_option maxHeartbeats 1000000 in
theorem RefMessage12_nul (A : Option Addr) (c : Nat) (ls : List (List Int)) (D X O : Int) (w : World) (hs : Sg w A ls) (hz : (seg ls 0).length = 0) (hl : 0 < ls.length) :
    Calls Tryz.prog 7 #[.slice A ls.length c, .agg #[.int .i64 D, .int .i64 X, .int .i64 O]] w fun e w' => ∃ v, e = .returned (.tuple #[v, .int .i64 (msgV ls D X).2]) ∧ NodF w.heap.size (msgV ls D X).1 v w' ∧ Below w.heap.size w w' := by
  have HMS : Hid (msgV ls D X = (nd0, 0)) := Lib.hid (by unfold msgV; rw [if_pos ⟨hl, hz⟩])
  generalize msgV ls D X = mv at *
  obtain ⟨b, off, A', c', rfl, hc, -, -, -, -⟩ := (((hs.below ((Below.refl _ _).alloc (Nat.le_refl _) (.cells #[.int .i64 D, .int .i64 X, .int .i64 O] 24)) (Nat.le_refl _)).below ((Below.refl _ _).alloc (Nat.le_refl _) (.cells #[.int .i64 0, .int .i64 0, .int .i64 0, .slice none 0 0, .slice none 0 0] 30)) (Nat.le_refl _))).one hl
  simp only [Nat.add_zero] at hc
  have t1 : decide ((0 : Int) < ls.length) = true := decide_eq_true (by omega)
  rw [hz] at hc
  clear hs hz
  go_enter Tryz.func7, Tryz.ntmps7
  go_wp2_with fail
  refine abs_post (F := fun U => Blk U (w.heap.size + 1) #[.int .i64 0, .int .i64 0, .int .i64 0, .slice none 0 0, .slice none 0 0] ∧ Below w.heap.size w U) ⟨?_, ?_⟩ ?_
  · exact Blk.new (by simp)
  · exact ((Below.refl _ _).alloc (Nat.le_refl _) _).alloc (by simp) _
  rintro U ⟨B6, hbw⟩
  exact bodyPost_ret (v := .tuple #[.agg #[.int .i64 0, .int .i64 0, .int .i64 0, .slice none 0 0, .slice none 0 0], .int .i64 0]) (by simp [results, Tryz.results7, go_sem, B6.cell]) rfl ⟨_, by rw [HMS.out], by rw [HMS.out]; exact nod_zero _ _, hbw⟩
theorem RefMessage12 (A : Option Addr) (c : Nat) (ls : List (List Int)) (D X O : Int) (w : World) (hs : Sg w A ls) (hw : Wd2 ls) (hm : ls.length ≤ 40) (hf : ∀ j, (seg ls j).length ≤ 20000000) (hD : D ≤ 900) (hX : X ≤ 1000000) :
    Calls Tryz.prog 7 #[.slice A ls.length c, .agg #[.int .i64 D, .int .i64 X, .int .i64 O]] w fun e w' => ∃ v, e = .returned (.tuple #[v, .int .i64 (msgV ls D X).2]) ∧ NodF w.heap.size (msgV ls D X).1 v w' ∧ Below w.heap.size w w' := by
  by_cases hl : ls.length = 0
  · exact RefMessage12_none A c ls D X O hw hm hf hD hX w hs hl
  · by_cases hz : (seg ls 0).length = 0
    · exact RefMessage12_nul A c ls D X O w hs hz (by omega)
    · exact RefMessage12_some A c ls D X O hw hm hf hD hX w hs hz (by omega)
end Go.Proofs.YtnmanhediiooaaaGreatDoor

/- The reference's Measure. -/
namespace Go.Proofs.YtnmanhediiooaaaGreatDoor
open Go.ChangeShapes Go.WideShapes Go.ChangeAt Go.RowKit
set_option linter.unusedVariables false
set_option linter.unusedSimpArgs false
set_option maxRecDepth 100000
/-- what was charged, and the error -/
def measV (ls : List (List Int)) (D X : Int) : Int × Int := if 0 < ls.length ∧ (seg ls 0).length = 0 then (0, 0) else if (valV ls D.toNat (startI X) 0 0).e ≠ 0 then (0, (valV ls D.toNat (startI X) 0 0).e) else (startI X - (valV ls D.toNat (startI X) 0 0).m, 0)

set_option maxHeartbeats 2000000 in
set_option maxRecDepth 100000 in
theorem RefMeasure12_some (A : Option Addr) (c : Nat) (ls : List (List Int)) (D X O : Int) (hw : Wd2 ls) (hm : ls.length ≤ 40) (hf : ∀ j, (seg ls j).length ≤ 20000000) (hD : D ≤ 900) (hX : X ≤ 1000000) (w : World) (hs : Sg w A ls) (hz : ¬ (seg ls 0).length = 0) (hl : 0 < ls.length) :
    Calls Tryz.prog 9 #[.slice A ls.length c, .agg #[.int .i64 D, .int .i64 X, .int .i64 O]] w fun e w' => e = .returned (.tuple #[.int .i64 (measV ls D X).1, .int .i64 (measV ls D X).2]) ∧ Below w.heap.size w w' := by
  have hx0 : 0 ≤ startI X ∧ startI X ≤ 1000000 := by unfold startI; split <;> omega
  have Hs := Lib.hid hs
  have HVC := Lib.hid (fun w' hs' => RefValue12 A c ls D X O hw hm hf hD D.toNat (startI X) 0 0 1 w' hs' hx0.1 (by omega) (by omega) (by omega) (by congr 1; omega))
  have HVM := Lib.hid (valV_m hw hm hf D.toNat (startI X) 0 0 hx0.1)
  have HMS : Hid (measV ls D X = if (valV ls D.toNat (startI X) 0 0).e ≠ 0 then (0, (valV ls D.toNat (startI X) 0 0).e) else (startI X - (valV ls D.toNat (startI X) 0 0).m, 0)) := Lib.hid (by unfold measV; rw [if_neg (by omega)])
  generalize valV ls D.toNat (startI X) 0 0 = sv at *
  generalize measV ls D X = mv at *
  obtain ⟨b, off, A', c', rfl, hc, -, -, -, -⟩ := ((Hs.out.below ((Below.refl _ _).alloc (Nat.le_refl _) (.cells #[.int .i64 D, .int .i64 X, .int .i64 O] 24)) (Nat.le_refl _))).one hl
  simp only [Nat.add_zero] at hc
  have t1 : decide ((0 : Int) < ls.length) = true := decide_eq_true (by omega)
  have t2 : (((seg ls 0).length : Int) == 0) = false := beq_eq_false_iff_ne.2 (by omega)
  clear hs hw hf
  generalize (seg ls 0).length = l0 at *
  go_enter Tryz.func9, Tryz.ntmps9
  go_wp2_with fail
  refine (RefStart_any D X O _).mono ?_
  rintro e w1 ⟨rfl, hb⟩
  have B0 := (Blk.fresh w #[.int .i64 D, .int .i64 X, .int .i64 O] 24).below hb
  have HB : Hid (Below w.heap.size w w1) := Lib.hid (((Below.refl _ _).alloc (Nat.le_refl _) _).trans (hb.mono (by simp)))
  clear hb
  have H0 := Lib.hid B0
  obtain ⟨x0, y0, z0⟩ := B0
  go_wp2_with fail
  refine (HVC.out _ ((Hs.out.below HB.out (Nat.le_refl _)).alloc _)).mono ?_
  rintro e w2 ⟨v, rfl, ⟨Ak, ck, Bk, ek, hik, rfl, -, -⟩, hb⟩
  have B6 := (Blk.fresh w1 #[.int .i64 (startI X)] 55).below hb
  have hz1 := HB.out.size
  have HB : Hid (Below w.heap.size w w2) := Lib.hid ((HB.out.alloc hz1 _).trans (hb.mono (by simp; omega)))
  clear hb x0 y0 z0 H0
  obtain ⟨x6, y6, z6⟩ := B6
  have hvm := HVM.out
  by_cases he : sv.e = 0
  · have t3 : (sv.e != 0) = false := by rw [he]; rfl
    rw [if_neg (by rw [he]; simp)] at HMS
    clear he
    go_wp2_with fail
    go_ret2
    refine ⟨by rw [HMS.out]; rfl, ?_⟩
    repeat (with_reducible first | exact HB.out | refine bel_drewN ?_ _ | refine bel_drew ?_ | refine Below.alloc ?_ (by have := HB.out.size; simp [World.setCell]; try omega) _ | refine Below.setCell ?_ (by have := HB.out.size; first | (simp; done) | (simp; omega)) _)
  · have t3 : (sv.e != 0) = true := bne_iff_ne.2 he
    rw [if_pos he] at HMS
    clear he
    go_wp2_with fail
    go_ret2
    refine ⟨by rw [HMS.out]; rfl, ?_⟩
    repeat (with_reducible first | exact HB.out | refine bel_drewN ?_ _ | refine bel_drew ?_ | refine Below.alloc ?_ (by have := HB.out.size; simp [World.setCell]; try omega) _ | refine Below.setCell ?_ (by have := HB.out.size; first | (simp; done) | (simp; omega)) _)

set_option maxHeartbeats 2000000 in
set_option maxRecDepth 100000 in
theorem RefMeasure12_none (A : Option Addr) (c : Nat) (ls : List (List Int)) (D X O : Int) (hw : Wd2 ls) (hm : ls.length ≤ 40) (hf : ∀ j, (seg ls j).length ≤ 20000000) (hD : D ≤ 900) (hX : X ≤ 1000000) (w : World) (hs : Sg w A ls) (hl : ls.length = 0) :
    Calls Tryz.prog 9 #[.slice A ls.length c, .agg #[.int .i64 D, .int .i64 X, .int .i64 O]] w fun e w' => e = .returned (.tuple #[.int .i64 (measV ls D X).1, .int .i64 (measV ls D X).2]) ∧ Below w.heap.size w w' := by
  have hx0 : 0 ≤ startI X ∧ startI X ≤ 1000000 := by unfold startI; split <;> omega
  have Hs := Lib.hid hs
  have HVC := Lib.hid (fun w' hs' => RefValue12 A c ls D X O hw hm hf hD D.toNat (startI X) 0 0 1 w' hs' hx0.1 (by omega) (by omega) (by omega) (by congr 1; omega))
  have HVM := Lib.hid (valV_m hw hm hf D.toNat (startI X) 0 0 hx0.1)
  have HMS : Hid (measV ls D X = if (valV ls D.toNat (startI X) 0 0).e ≠ 0 then (0, (valV ls D.toNat (startI X) 0 0).e) else (startI X - (valV ls D.toNat (startI X) 0 0).m, 0)) := Lib.hid (by unfold measV; rw [if_neg (by omega)])
  generalize valV ls D.toNat (startI X) 0 0 = sv at *
  generalize measV ls D X = mv at *
  have t1 : ¬ ((0 : Int) < ls.length) := by omega
  clear hs hw hf hl
  go_enter Tryz.func9, Tryz.ntmps9
  go_wp2_with fail
  refine (RefStart_any D X O _).mono ?_
  rintro e w1 ⟨rfl, hb⟩
  have B0 := (Blk.fresh w #[.int .i64 D, .int .i64 X, .int .i64 O] 24).below hb
  have HB : Hid (Below w.heap.size w w1) := Lib.hid (((Below.refl _ _).alloc (Nat.le_refl _) _).trans (hb.mono (by simp)))
  clear hb
  have H0 := Lib.hid B0
  obtain ⟨x0, y0, z0⟩ := B0
  go_wp2_with fail
  refine (HVC.out _ ((Hs.out.below HB.out (Nat.le_refl _)).alloc _)).mono ?_
  rintro e w2 ⟨v, rfl, ⟨Ak, ck, Bk, ek, hik, rfl, -, -⟩, hb⟩
  have B6 := (Blk.fresh w1 #[.int .i64 (startI X)] 55).below hb
  have hz1 := HB.out.size
  have HB : Hid (Below w.heap.size w w2) := Lib.hid ((HB.out.alloc hz1 _).trans (hb.mono (by simp; omega)))
  clear hb x0 y0 z0 H0
  obtain ⟨x6, y6, z6⟩ := B6
  have hvm := HVM.out
  by_cases he : sv.e = 0
  · have t3 : (sv.e != 0) = false := by rw [he]; rfl
    rw [if_neg (by rw [he]; simp)] at HMS
    clear he
    go_wp2_with fail
    go_ret2
    refine ⟨by rw [HMS.out]; rfl, ?_⟩
    repeat (with_reducible first | exact HB.out | refine bel_drewN ?_ _ | refine bel_drew ?_ | refine Below.alloc ?_ (by have := HB.out.size; simp [World.setCell]; try omega) _ | refine Below.setCell ?_ (by have := HB.out.size; first | (simp; done) | (simp; omega)) _)
  · have t3 : (sv.e != 0) = true := bne_iff_ne.2 he
    rw [if_pos he] at HMS
    clear he
    go_wp2_with fail
    go_ret2
    refine ⟨by rw [HMS.out]; rfl, ?_⟩
    repeat (with_reducible first | exact HB.out | refine bel_drewN ?_ _ | refine bel_drew ?_ | refine Below.alloc ?_ (by have := HB.out.size; simp [World.setCell]; try omega) _ | refine Below.setCell ?_ (by have := HB.out.size; first | (simp; done) | (simp; omega)) _)

set_option maxRecDepth 100000 in
theorem RefMeasure12_nul (A : Option Addr) (c : Nat) (ls : List (List Int)) (D X O : Int) (w : World) (hs : Sg w A ls) (hz : (seg ls 0).length = 0) (hl : 0 < ls.length) :
    Calls Tryz.prog 9 #[.slice A ls.length c, .agg #[.int .i64 D, .int .i64 X, .int .i64 O]] w fun e w' => e = .returned (.tuple #[.int .i64 (measV ls D X).1, .int .i64 (measV ls D X).2]) ∧ Below w.heap.size w w' := by
  have HMS : Hid (measV ls D X = (0, 0)) := Lib.hid (by unfold measV; rw [if_pos ⟨hl, hz⟩])
  generalize measV ls D X = mv at *
  obtain ⟨b, off, A', c', rfl, hc, -, -, -, -⟩ := ((hs.below ((Below.refl _ _).alloc (Nat.le_refl _) (.cells #[.int .i64 D, .int .i64 X, .int .i64 O] 24)) (Nat.le_refl _))).one hl
  simp only [Nat.add_zero] at hc
  have t1 : decide ((0 : Int) < ls.length) = true := decide_eq_true (by omega)
  rw [hz] at hc
  clear hs hz
  go_enter Tryz.func9, Tryz.ntmps9
  go_wp2_with fail
  go_ret2
  exact ⟨by rw [HMS.out]; rfl, (Below.refl _ _).alloc (Nat.le_refl _) _⟩

theorem RefMeasure12 (A : Option Addr) (c : Nat) (ls : List (List Int)) (D X O : Int) (w : World) (hs : Sg w A ls) (hw : Wd2 ls) (hm : ls.length ≤ 40) (hf : ∀ j, (seg ls j).length ≤ 20000000) (hD : D ≤ 900) (hX : X ≤ 1000000) :
    Calls Tryz.prog 9 #[.slice A ls.length c, .agg #[.int .i64 D, .int .i64 X, .int .i64 O]] w fun e w' => e = .returned (.tuple #[.int .i64 (measV ls D X).1, .int .i64 (measV ls D X).2]) ∧ Below w.heap.size w w' := by
  by_cases hl : ls.length = 0
  · exact RefMeasure12_none A c ls D X O hw hm hf hD hX w hs hl
  · by_cases hz : (seg ls 0).length = 0
    · exact RefMeasure12_nul A c ls D X O w hs hz (by omega)
    · exact RefMeasure12_some A c ls D X O hw hm hf hD hX w hs hz (by omega)
end Go.Proofs.YtnmanhediiooaaaGreatDoor

/- The traversal as a function: depth, errors, other limits, longer messages. -/
namespace Go.Proofs.YtnmanhediiooaaaGreatDoor
open Go.ChangeShapes Go.WideShapes Go.ChangeAt Go.RowKit
set_option linter.unusedVariables false
set_option linter.unusedSimpArgs false
set_option maxRecDepth 100000

/-! ## Depth -/
/-! ## Errors -/
/-! ## Another budget, a greater depth, a longer message: what succeeds there -/
/-- all that is in bounds of ls is there in ls', too -/
structure ExtM (ls ls' : List (List Int)) : Prop where
  has : ∀ s a, hasB ls s a = true → hasB ls' s a = true
  word : ∀ s a, hasB ls s a = true → wordV ls' s a = wordV ls s a
  inb : ∀ s a n, inB ls s a n = true → inB ls' s a n = true
  dat : ∀ s a n, inB ls s a n = true → sliceL ls' s a n = sliceL ls s a n
theorem ExtM.refl (ls : List (List Int)) : ExtM ls ls := ⟨fun _ _ h => h, fun _ _ _ => rfl, fun _ _ _ h => h, fun _ _ _ _ => rfl⟩
theorem ExtM.datW {ls ls' : List (List Int)} (h : ExtM ls ls') (s a n : Int) (hi : inB ls s a n = true) : datW ls' s a n = datW ls s a n := by
  unfold Proofs.YtnmanhediiooaaaGreatDoor.datW
  rw [if_pos hi, if_pos (h.inb s a n hi), h.dat s a n hi]
/-! ## One word too few -/
end Go.Proofs.YtnmanhediiooaaaGreatDoor

/- The traversal as the landed code goes about it: an object is located, then its contents are read (numbers alone). -/
namespace Go.Proofs.YtnmanhediiooaaaGreatDoor
open Go.ChangeShapes Go.WideShapes Go.ChangeAt Go.RowKit
set_option linter.unusedVariables false
set_option linter.unusedSimpArgs false
set_option maxRecDepth 100000

/-- what is found of a pointer: its object, the meter, the error (q: its descriptor, r: its object) -/
structure Loc where
  o : Ob
  m : Int
  e : Int
def locQ (q : Fol) (r : Ob × Int) (D m dep : Int) : Loc :=
  if q.e ≠ 0 ∨ q.w = 0 then ⟨ob0, m, q.e⟩ else if D < dep then ⟨ob0, m, 7⟩ else if r.2 ≠ 0 then ⟨ob0, m, r.2⟩ else if m < r.1.cost then ⟨ob0, m, 8⟩ else ⟨r.1, m - r.1.cost, 0⟩
def locD (ls : List (List Int)) (D m s a dep : Int) : Loc := locQ (followF ls s a) (objF ls s a) D m dep
def datO (ls : List (List Int)) (o : Ob) : List Int :=
  if o.k = 1 then bytesOf (datW ls o.sg o.at' o.d) else if o.k = 2 ∧ o.el ≠ 6 then trimL (bytesOf (datW ls o.sg o.at' (wordsI o.el o.n))) o.el o.n else []
/-- the values of the pointers of an object -/
def kidR (val : Int → Int → Int → Val) (o : Ob) (m : Int) : Vls := runK (fun m i => val m o.sg ((ptrO o).1 + i)) m (ptrO o).2.toNat
/-- the value of an object that is no composite list -/
def contK (val : Int → Int → Int → Val) (ls : List (List Int)) (m : Int) (o : Ob) : Val :=
  if (kidR val o m).e ≠ 0 then errV (kidR val o m).m (kidR val o m).e else ⟨.mk o.k o.el o.n (datO ls o) (kidR val o m).ks, (kidR val o m).m, 0⟩
/-- the values of the elements of a composite list -/
def elsR (val : Int → Int → Int → Val) (ls : List (List Int)) (o : Ob) (m : Int) : Vls := runK (fun m i => contK val ls m (eleO o i)) m o.n.toNat
def bodyK (val : Int → Int → Int → Val) (ls : List (List Int)) (m : Int) (o : Ob) : Val :=
  if o.el = 7 then (if (elsR val ls o m).e ≠ 0 then errV (elsR val ls o m).m (elsR val ls o m).e else ⟨.mk o.k o.el o.n [] (elsR val ls o m).ks, (elsR val ls o m).m, 0⟩) else contK val ls m o

theorem runK_congr {f g : Int → Nat → Val} {m : Int} : ∀ n, (∀ m i, i < n → f m i = g m i) → runK f m n = runK g m n
  | 0, _ => rfl
  | n + 1, h => by
    have ih := runK_congr (f := f) (g := g) (m := m) n (fun m i hi => h m i (by omega))
    unfold runK
    rw [ih, h _ n (by omega)]
theorem contK_struct (val : Int → Int → Int → Val) (ls : List (List Int)) (m : Int) (o : Ob) (hk : o.k = 1) (he : o.el = 0) (hn : o.n = 0) (hp : 0 ≤ o.p) : contK val ls m o = structV val ls m o := by
  have hR : kidR val o m = runK (fun m i => val m o.sg (o.at' + o.d + i)) m o.p.toNat := by
    unfold kidR ptrO
    by_cases h : 0 < o.p
    · rw [if_pos ⟨hk, h⟩]
    · have h0 : o.p.toNat = 0 := by omega
      rw [if_neg (by omega), if_neg (by omega), h0]
      rfl
  unfold contK structV
  rw [hR, hk, he, hn]
  have hd : datO ls o = bytesOf (datW ls o.sg o.at' o.d) := by unfold datO; rw [if_pos hk]
  rw [hd]
theorem contK_list (val : Int → Int → Int → Val) (ls : List (List Int)) (m : Int) (o : Ob) (hk : o.k = 2) (he0 : 0 ≤ o.el) (he : o.el < 6) (hc : o.cost = wordsI o.el o.n) :
    contK val ls m o = ⟨.mk 2 o.el o.n (trimL (bytesOf (datW ls o.sg o.at' o.cost)) o.el o.n) [], m, 0⟩ := by
  have hR : kidR val o m = ⟨[], m, 0⟩ := by
    unfold kidR ptrO
    rw [if_neg (by omega), if_neg (by omega)]
    rfl
  unfold contK
  rw [hR, if_neg (by simp), hk, hc]
  have hd : datO ls o = trimL (bytesOf (datW ls o.sg o.at' (wordsI o.el o.n))) o.el o.n := by unfold datO; rw [if_neg (by omega), if_pos ⟨hk, by omega⟩]
  rw [hd]
theorem contK_ptrs (val : Int → Int → Int → Val) (ls : List (List Int)) (m : Int) (o : Ob) (hk : o.k = 2) (he : o.el = 6) (hn : 0 ≤ o.n) : contK val ls m o = listV val ls m o := by
  have hR : kidR val o m = runK (elemV val ls o) m o.n.toNat := by
    unfold kidR ptrO
    by_cases h : 0 < o.n
    · rw [if_neg (by omega), if_pos ⟨hk, he, h⟩]
      refine runK_congr _ (fun m i _ => ?_)
      unfold elemV
      rw [if_pos he]
    · have h0 : o.n.toNat = 0 := by omega
      rw [if_neg (by omega), if_neg (by omega), h0]
      rfl
  unfold contK listV
  rw [hR, hk]
  have hd : datO ls o = [] := by unfold datO; rw [if_neg (by omega), if_neg (by omega)]
  rw [hd]
theorem elsR_list (val : Int → Int → Int → Val) (ls : List (List Int)) (m : Int) (o : Ob) (he : o.el = 7) (hp : 0 ≤ o.p) : elsR val ls o m = runK (elemV val ls o) m o.n.toNat := by
  unfold elsR
  refine runK_congr _ (fun m i _ => ?_)
  unfold elemV
  rw [if_neg (by omega)]
  exact contK_struct val ls m (eleO o i) rfl rfl rfl hp
theorem compF_k (ls : List (List Int)) (s st c cost : Int) (h : (compF ls s st c cost).2 = 0) : (compF ls s st c cost).1.k ≠ 0 := by
  unfold compF at h ⊢
  split at h
  · exact absurd h (by decide)
  · rename_i h1
    rw [if_neg h1]
    show (2 : Int) ≠ 0
    decide
/-- a descriptor that is no null pointer has an object or an error -/
theorem objF_some (ls : List (List Int)) (s a : Int) (h1 : (followF ls s a).e = 0) (h2 : (followF ls s a).w ≠ 0) (h3 : (objF ls s a).2 = 0) : (objF ls s a).1.k ≠ 0 := by
  unfold objF at h3 ⊢
  rw [if_neg (by simp [h1, h2])] at h3 ⊢
  unfold objP at h3 ⊢
  repeat' split at h3
  all_goals try (exfalso; revert h3; simp; done)
  all_goals first | (simp_all; done) | (have h4 := compF_k _ _ _ _ _ h3; simp_all)
/-- the value of a pointer, by its object -/
theorem valV_loc {ls : List (List Int)} (hw : Wd2 ls) (hm : ls.length ≤ 40) (hf : ∀ j, (seg ls j).length ≤ 20000000) (D m s a dep : Int) (r : Nat) (hr : (D - dep + 1).toNat = r) :
    valV ls r m s a = if (locD ls D m s a dep).e ≠ 0 then errV (locD ls D m s a dep).m (locD ls D m s a dep).e else bodyK (valV ls (r - 1)) ls (locD ls D m s a dep).m (locD ls D m s a dep).o := by
  have hC := objF_cases hw (by omega) (fun j => by have := hf j; omega) s a
  have hS := objF_some ls s a
  have hnull : ∀ r m, errV m 0 = bodyK (valV ls r) ls m ob0 := fun r m => rfl
  unfold locD
  generalize hq0 : followF ls s a = q0 at *
  by_cases h1 : q0.e ≠ 0 ∨ q0.w = 0
  · have hL : locQ q0 (objF ls s a) D m dep = ⟨ob0, m, q0.e⟩ := by unfold locQ; rw [if_pos h1]
    have hV : valV ls r m s a = errV m q0.e := by
      cases r <;> (unfold valV; rw [hq0, if_pos h1])
    rw [hL, hV]
    by_cases h2 : q0.e = 0
    · rw [h2, if_neg (by simp)]
      exact hnull _ _
    · rw [if_pos h2]
  cases r with
  | zero =>
    have hL : locQ q0 (objF ls s a) D m dep = ⟨ob0, m, 7⟩ := by unfold locQ; rw [if_neg h1, if_pos (by clear hC; omega)]
    rw [hL]
    unfold valV
    rw [hq0, if_neg h1]
    rfl
  | succ r =>
    unfold valV
    rw [hq0, if_neg h1]
    unfold bodyV
    generalize objF ls s a = q at *
    have hD : ¬ D < dep := by clear hC hS; omega
    by_cases h2 : q.2 ≠ 0
    · have hL : locQ q0 q D m dep = ⟨ob0, m, q.2⟩ := by unfold locQ; rw [if_neg h1, if_neg hD, if_pos h2]
      rw [hL, if_pos h2, if_pos h2]
    · rw [if_neg h2]
      by_cases h3 : m < q.1.cost
      · have hL : locQ q0 q D m dep = ⟨ob0, m, 8⟩ := by unfold locQ; rw [if_neg h1, if_neg hD, if_neg h2, if_pos h3]
        rw [hL, if_pos h3]
        rfl
      have hL : locQ q0 q D m dep = ⟨q.1, m - q.1.cost, 0⟩ := by unfold locQ; rw [if_neg h1, if_neg hD, if_neg h2, if_neg h3]
      rw [hL, if_neg h3, if_neg (show ¬ (Loc.e ⟨q.1, m - q.1.cost, 0⟩ ≠ 0) from fun h => h rfl)]
      have hk0 := hS (Classical.byContradiction fun h => h1 (.inl h)) (fun h => h1 (.inr h)) (Classical.byContradiction fun h => h2 h)
      show _ = bodyK (valV ls r) ls (m - q.1.cost) q.1
      rcases hC with ⟨h4, -⟩ | ⟨-, h4, h5, h6, -, -, h7, -⟩ | ⟨-, h4, h5, h6, h7, -, -, -, h8, -⟩ | ⟨-, h4, h5, h6, -, -, -, h7, -⟩
      · rw [h4] at hk0; exact absurd rfl hk0
      · rw [if_pos h4]
        unfold bodyK
        rw [if_neg (by omega)]
        exact (contK_struct _ _ _ _ h4 h5 h6 h7).symm
      · rw [if_neg (show ¬ q.1.k = 1 by omega)]
        unfold bodyK
        rw [if_neg (show ¬ q.1.el = 7 by omega)]
        by_cases h9 : q.1.el < 6
        · rw [if_pos h9]
          exact (contK_list _ _ _ _ h4 h5 h9 h8).symm
        · rw [if_neg h9]
          exact (contK_ptrs _ _ _ _ h4 (by omega) h7).symm
      · rw [if_neg (show ¬ q.1.k = 1 by omega), if_neg (show ¬ q.1.el < 6 by omega)]
        unfold bodyK listV
        rw [if_pos h5, elsR_list _ _ _ _ h5 h7, h4]
end Go.Proofs.YtnmanhediiooaaaGreatDoor

/- What the functions of package budget do, each by a contract (by the code at fb21aa3). -/
namespace Go.Proofs.YtnmanhediiooaaaGreatDoor
open Go.ChangeShapes Go.WideShapes Go.ChangeAt Go.RowKit
set_option linter.unusedVariables false
set_option linter.unusedSimpArgs false
set_option maxRecDepth 100000
attribute [local simp] AllK KnowsV look Is

set_option maxRecDepth 100000 in
theorem BStart_any (d x o : Int) (w : World) : Calls Tryz.prog 32 #[.agg #[.int .i64 d, .int .i64 x, .int .i64 o]] w fun e w' => e = .returned (.agg #[.int .i64 (startI x)]) ∧ Below w.heap.size w w' := by
  by_cases h : x < 0
  · have HS : Hid (startI x = 0) := Lib.hid (by simp [startI, h])
    go_enter Tryz.func32, Tryz.ntmps32
    go_wp2
    all_goals first
      | (exfalso; omega)
      | (refine bodyPost_ret (v := .agg #[.int .i64 0]) (by simp [results, Tryz.results32, go_sem]) rfl ⟨by rw [HS.out], ?_⟩
         exact ((Below.refl _ _).alloc (Nat.le_refl _) _).alloc (by simp) _)
  · have HS : Hid (startI x = x) := Lib.hid (by simp [startI, h])
    go_enter Tryz.func32, Tryz.ntmps32
    go_wp2
    all_goals first
      | (exfalso; omega)
      | (have h0 : x = 0 := by omega
         subst h0
         refine bodyPost_ret (v := .agg #[.int .i64 0]) (by simp [results, Tryz.results32, go_sem]) rfl ⟨by rw [HS.out], ?_⟩
         exact ((Below.refl _ _).alloc (Nat.le_refl _) _).alloc (by simp) _)
      | (refine bodyPost_ret (v := .agg #[.int .i64 x]) (by simp [results, Tryz.results32, go_sem]) rfl ⟨by rw [HS.out], ?_⟩
         exact ((Below.refl _ _).alloc (Nat.le_refl _) _).alloc (by simp) _)

set_option maxRecDepth 100000 in
theorem BEnter_any (dep x o d : Int) (w : World) : Calls Tryz.prog 54 #[.agg #[.int .i64 dep, .int .i64 x, .int .i64 o], .int .i64 d] w fun e w' => e = .returned (.int .i64 (enterI dep d)) ∧ Below w.heap.size w w' := by
  by_cases h : d ≤ dep
  · have HS : Hid (enterI dep d = 0) := Lib.hid (by simp [enterI, h])
    go_enter Tryz.func54, Tryz.ntmps54
    go_wp2
    go_ret
    exact ⟨by rw [HS.out]; rfl, (Below.refl _ _).alloc (Nat.le_refl _) _⟩
  · have HS : Hid (enterI dep d = 7) := Lib.hid (by simp [enterI, h])
    go_enter Tryz.func54, Tryz.ntmps54
    go_wp2
    go_ret
    exact ⟨by rw [HS.out]; rfl, (Below.refl _ _).alloc (Nat.le_refl _) _⟩

set_option maxRecDepth 100000 in
theorem BTake_no (b : Nat) (m c : Int) (w : World) (hb : Blk w b #[.int .i64 m]) (h : m < c) :
    Calls Tryz.prog 71 #[.pointer (some ⟨b, 0, none⟩), .int .i64 c] w fun e w' => e = .returned (.bool false) ∧ w = w' := by
  have hc := hb.cell
  have hf := hb.free
  go_enter Tryz.func71, Tryz.ntmps71
  go_wp2
  go_ret
  exact ⟨rfl, rfl⟩

set_option maxRecDepth 100000 in
theorem BTake_yes (b : Nat) (m c : Int) (w : World) (hb : Blk w b #[.int .i64 m]) (h : ¬ m < c) (hm1 : m ≤ 9223372036854775807) (hc0 : 0 ≤ c) (hm0 : -9223372036854775808 ≤ m) :
    Calls Tryz.prog 71 #[.pointer (some ⟨b, 0, none⟩), .int .i64 c] w fun e w' => e = .returned (.bool true) ∧ w' = w.setCell ⟨b, 0, none⟩ (.int .i64 (m - c)) := by
  have hc := hb.cell
  have hf := hb.free
  go_enter Tryz.func71, Tryz.ntmps71
  go_wp2
  go_ret
  exact ⟨rfl, rfl⟩

set_option maxRecDepth 100000 in
theorem BCharge_any (m c : Int) (w : World) (hm0 : -9223372036854775808 ≤ m) (hm1 : m ≤ 9223372036854775807) (hc : 0 ≤ c) :
    Calls Tryz.prog 56 #[.agg #[.int .i64 m], .int .i64 c] w fun e w' => e = .returned (.tuple #[.agg #[.int .i64 (chargeI m c)], .int .i64 (chargeE m c)]) ∧ Below w.heap.size w w' := by
  by_cases h : m < c
  · have HS : Hid (chargeI m c = m) := Lib.hid (by simp [chargeI, h])
    have HE : Hid (chargeE m c = 8) := Lib.hid (by simp [chargeE, h])
    go_enter Tryz.func56, Tryz.ntmps56
    go_wp2_with fail
    refine (BTake_no _ m c _ (Blk.new (by simp)) h).mono ?_
    rintro e w' ⟨rfl, rfl⟩
    go_wp2
    refine bodyPost_ret (v := .tuple #[.agg #[.int .i64 m], .int .i64 8]) (by simp [results, Tryz.results56, go_sem]) rfl ⟨by rw [HS.out, HE.out], ?_⟩
    exact (((Below.refl _ _).alloc (Nat.le_refl _) _).alloc (by simp) _).alloc (by simp; omega) _
  · have HS : Hid (chargeI m c = m - c) := Lib.hid (by simp [chargeI, h])
    have HE : Hid (chargeE m c = 0) := Lib.hid (by simp [chargeE, h])
    go_enter Tryz.func56, Tryz.ntmps56
    go_wp2_with fail
    refine (BTake_yes _ m c _ (Blk.new (by simp)) (by omega) hm1 hc hm0).mono ?_
    rintro e w' ⟨rfl, rfl⟩
    go_wp2
    refine bodyPost_ret (v := .tuple #[.agg #[.int .i64 (m - c)], .int .i64 0]) (by simp [results, Tryz.results56, go_sem]) rfl ⟨by rw [HS.out, HE.out], ?_⟩
    exact (((Below.refl _ _).alloc (Nat.le_refl _) _).alloc (by simp) _).alloc (by simp; omega) _

end Go.Proofs.YtnmanhediiooaaaGreatDoor

/- A statement whose order of evaluation is open, one of whose operations (number m) is a call that may change blocks of a set S that were there, and that may panic (then the statement is left there), while the others only make memory; its last operation (a store, behind all others) is walked on its own. What the others make outside S is known behind number m, too. -/
namespace Go.Proofs.YtnmanhediiooaaaGreatDoor
open Go.RowKit
set_option linter.unusedVariables false
set_option linter.unusedSimpArgs false
set_option maxRecDepth 100000

theorem exits_ok (b : Bool) (Q : Exit → Act → World → Prop) : ∀ e a w, (if b = true then Q else NoWay) e a w → Q e a w := by
  intro e a w h
  cases b with
  | true => exact h
  | false => exact h.elim
theorem wpOp_exits {P : Program} {ops : Array Oper} {Q R : Exit → Act → World → Prop} {i : Nat} {o : Oper} {a : Act} {w : World} {K K' : Act → World → Prop} (hi : ops[i]? = some o)
    (hR : ∀ e a w, R e a w → Q e a w) (hk : ∀ a' w', K a' w' → K' a' w')
    (h : if Region.wanted o (yielded ops a.tmps) then o.wp P a w K R else K (a.put o.dst undef) w) : wpOp P ops Q i K' a w := by
  unfold wpOp
  rw [hi]
  simp only
  by_cases hw : Region.wanted o (yielded ops a.tmps) = true
  · rw [if_pos hw] at h ⊢
    left
    unfold Oper.wp at *
    generalize (execOp a.eval o).run P w = r at *
    cases r with
    | ok n w' =>
      cases n <;> simp only [Oper.upon] at h ⊢ <;>
        first
          | exact hk _ _ h
          | exact Calls.mono h (fun e w'' he => by
              cases e with
              | returned v => exact hk _ _ he
              | panicked c => exact hR _ _ _ he
              | outgrown => obtain ⟨a1, w1, h'⟩ := he; exact ⟨a1, w1, hR _ _ _ h'⟩)
          | exact Rows.mono h (fun _ _ he => hk _ _ he)
    | halt x w' =>
      cases x <;> simp only [Oper.upon] at h ⊢ <;>
        first
          | exact h.elim
          | exact hR _ _ _ h
  · rw [if_neg hw] at h ⊢
    exact hk _ _ h

def StepP (P : Program) (ops : Array Oper) (l : List Oper) (m : Nat) (S : Nat → Prop) (Q : Exit → Act → World → Prop) (F G : List (Tmp × Fact)) (a0 : Act) (w0 : World) (i : Nat) (o : Oper) (T : Fact) : Prop :=
  ∀ a w, a.defers = a0.defers → Keeps S w0 w → (before l i m = true → Below w0.heap.size w0 w) → (∀ s ∈ o.looksAt ops, Knows (if before l i m = true then F else G) a0 a w s) →
    if Region.wanted o (yielded ops a.tmps) then o.wp P a w (AfterA S (i == m) T a o.dst w) (if (i == m) = true then Q else NoWay) else (T undef w ∧ i ≠ m)

def ChainP (P : Program) (ops : Array Oper) (l : List Oper) (t : Oper) (m : Nat) (S : Nat → Prop) (a0 : Act) (w0 : World) (Q : Exit → Act → World → Prop) : List Oper → Nat → List (Tmp × Fact) → List (Tmp × Fact) → Prop
  | [], _, _, G => ∀ a w, Keeps S w0 w → a.defers = a0.defers → a.tmps.size = a0.tmps.size → (∀ s, s < a0.tmps.size → Knows G a0 a w s) → wpList P ops Q [t] a w
  | o :: r, i, F, G => ∃ d T U, o.dst = some d ∧ stable T ∧ stable U ∧ (i ≠ m → stableK S U) ∧ (∀ v w, T v w → U v w) ∧ StepP P ops l m S Q F G a0 w0 i o T ∧ ChainP P ops l t m S a0 w0 Q r (i + 1) ((d, T) :: F) ((d, U) :: G)

structure FactsP (P : Program) (l : List Oper) (t : Oper) (m : Nat) (S : Nat → Prop) (Q : Exit → Act → World → Prop) (a0 : Act) (w0 : World) (Ts Us : List Fact) (i : Nat) : Prop where
  len : Ts.length = i
  len2 : Us.length = i
  st : ∀ (j : Nat) (T : Fact), Ts[j]? = some T → stable T
  su : ∀ (j : Nat) (U : Fact), Us[j]? = some U → stable U
  sk : ∀ (j : Nat) (U : Fact), Us[j]? = some U → j ≠ m → stableK S U
  weak : ∀ (j : Nat) (T U : Fact), Ts[j]? = some T → Us[j]? = some U → ∀ v w, T v w → U v w
  step : ∀ (j : Nat) (o : Oper) (T : Fact), l[j]? = some o → Ts[j]? = some T → StepP P (l ++ [t]).toArray l m S Q (factsTo l Ts j) (factsTo l Us j) a0 w0 j o T

theorem chainP_facts {P : Program} {a0 : Act} {w0 : World} {Q : Exit → Act → World → Prop} {l : List Oper} {t : Oper} {m : Nat} {S : Nat → Prop} :
    ∀ (r : List Oper) (i : Nat) (Ts Us : List Fact), l.drop i = r → i ≤ l.length → ChainP P (l ++ [t]).toArray l t m S a0 w0 Q r i (factsTo l Ts i) (factsTo l Us i) → FactsP P l t m S Q a0 w0 Ts Us i →
      ∃ Ts Us : List Fact, FactsP P l t m S Q a0 w0 Ts Us l.length ∧ ChainP P (l ++ [t]).toArray l t m S a0 w0 Q [] l.length (factsTo l Ts l.length) (factsTo l Us l.length) := by
  intro r
  induction r with
  | nil =>
    intro i Ts Us hd hi hc hF
    have : i = l.length := by
      have := congrArg List.length hd
      simp at this
      omega
    subst this
    exact ⟨Ts, Us, hF, hc⟩
  | cons o r ih =>
    intro i Ts Us hd hi hc hF
    obtain ⟨d, T, U, hdst, hs1, hs2, hs3, hw, hstep, hrest⟩ := hc
    have hlt : i < l.length := by
      have := congrArg List.length hd
      simp at this
      omega
    have hli : l[i]? = some o := by
      have := congrArg (fun x => x[0]?) hd
      simpa using this
    have hdi : dstAt l i = some d := by simp [dstAt, hli, hdst]
    have fT := factsTo_app (l := l) (T := T) hF.len
    have fU := factsTo_app (l := l) (T := U) hF.len2
    have gT : (Ts ++ [T])[i]? = some T := by rw [List.getElem?_append_right (by have := hF.len; omega)]; simp [hF.len]
    have gU : (Us ++ [U])[i]? = some U := by rw [List.getElem?_append_right (by have := hF.len2; omega)]; simp [hF.len2]
    refine ih (i + 1) (Ts ++ [T]) (Us ++ [U]) (by rw [← List.drop_drop, hd]; rfl) (by omega) ?_ ⟨by simp [hF.len], by simp [hF.len2], ?_, ?_, ?_, ?_, ?_⟩
    · have e1 : factsTo l (Ts ++ [T]) (i + 1) = (d, T) :: factsTo l Ts i := by rw [factsTo, hdi, gT, fT i (Nat.le_refl _)]
      have e2 : factsTo l (Us ++ [U]) (i + 1) = (d, U) :: factsTo l Us i := by rw [factsTo, hdi, gU, fU i (Nat.le_refl _)]
      rw [e1, e2]
      exact hrest
    · intro j V hV
      rcases get_app hF.len hV with ⟨_, h⟩ | ⟨_, rfl⟩
      · exact hF.st j V h
      · exact hs1
    · intro j V hV
      rcases get_app hF.len2 hV with ⟨_, h⟩ | ⟨_, rfl⟩
      · exact hF.su j V h
      · exact hs2
    · intro j V hV hm
      rcases get_app hF.len2 hV with ⟨_, h⟩ | ⟨rfl, rfl⟩
      · exact hF.sk j V h hm
      · exact hs3 hm
    · intro j V V' hV hV'
      rcases get_app hF.len hV with ⟨h0, h⟩ | ⟨rfl, rfl⟩
      · rcases get_app hF.len2 hV' with ⟨_, h'⟩ | ⟨h1, _⟩
        · exact hF.weak j V V' h h'
        · omega
      · rcases get_app hF.len2 hV' with ⟨h1, _⟩ | ⟨_, rfl⟩
        · omega
        · exact hw
    · intro j o' V ho' hV
      rcases get_app hF.len hV with ⟨h0, h⟩ | ⟨rfl, rfl⟩
      · rw [fT j (by omega), fU j (by omega)]
        exact hF.step j o' V ho' h
      · rw [hli] at ho'
        injection ho' with ho'
        subst ho'
        rw [fT j (Nat.le_refl _), fU j (Nat.le_refl _)]
        exact hstep

structure InvP (l : List Oper) (m : Nat) (S : Nat → Prop) (Ts Us : List Fact) (a0 : Act) (w0 : World) (listed : Array Bool) (a : Act) (w : World) : Prop where
  keep : Keeps S w0 w
  early : listed.getD m false = false → Below w0.heap.size w0 w
  defers : a.defers = a0.defers
  size : a.tmps.size = a0.tmps.size
  done : ∀ (j : Nat) (d : Tmp) (T : Fact), listed.getD j false = true → listed.getD m false = false → dstAt l j = some d → Ts[j]? = some T → T (a.tmps.getD d undef) w
  weak : ∀ (j : Nat) (d : Tmp) (U : Fact), listed.getD j false = true → dstAt l j = some d → Us[j]? = some U → U (a.tmps.getD d undef) w
  rest : ∀ s : Tmp, (∀ j, listed.getD j false = true → dstAt l j ≠ some s) → a.tmps.getD s undef = a0.tmps.getD s undef
  closed : listed.getD m false = true → ∀ o, l[m]? = some o → ∀ e ∈ o.after, Region.binds .any e = true → listed.getD e.on false = true

theorem invp_any {P : Program} {l : List Oper} {t : Oper} {m : Nat} {S : Nat → Prop} {Ts Us : List Fact} {a0 : Act} {w0 : World} {Q : Exit → Act → World → Prop} (hB : chainAB a0.tmps.size l t = true)
    (hF : FactsP P l t m S Q a0 w0 Ts Us l.length) (hend : ChainP P (l ++ [t]).toArray l t m S a0 w0 Q [] l.length (factsTo l Ts l.length) (factsTo l Us l.length)) :
    ∀ (fuel : Nat) (listed : Array Bool) (a : Act) (w : World), listed.size = l.length + 1 → listed.getD l.length true = false → (∃ n, n ≤ fuel ∧ n = (List.range (l.length + 1)).countP (fun j => !listed.getD j true)) → InvP l m S Ts Us a0 w0 listed a w → wpAny P .any (l ++ [t]).toArray Q fuel listed a w := by
  have hget : ∀ j, j < l.length → (l ++ [t]).toArray[j]? = l[j]? := fun j hj => by
    rw [List.getElem?_toArray, List.getElem?_append_left hj]
  have hgetn : (l ++ [t]).toArray[l.length]? = some t := by
    rw [List.getElem?_toArray, List.getElem?_append_right (Nat.le_refl _)]; simp
  obtain ⟨htail, htail2⟩ := chainAB_tail hB
  -- while the last operation is open, one is ready
  have hsome : ∀ (listed : Array Bool), listed.size = l.length + 1 → listed.getD l.length true = false → Region.ready .any (l ++ [t]).toArray listed ≠ [] := by
    intro listed hsz hn hr
    have hall : ∀ j, j < l.length → listed.getD j false = true := by
      intro j
      induction j using Nat.strongRecOn with
      | _ j ih =>
        intro hj
        cases hb : listed.getD j false with
        | true => rfl
        | false =>
          exfalso
          have hj' : l[j]? = some l[j] := List.getElem?_eq_getElem hj
          have hc := chainAB_at hB hj'
          have hm : j ∈ Region.ready .any (l ++ [t]).toArray listed := by
            rw [mem_ready]
            refine ⟨?_, l[j], by rw [hget j hj, hj'], fun e he hbi => ih e.on (hc.2.2.1 e he hbi) (Nat.lt_trans (hc.2.2.1 e he hbi) hj)⟩
            have : j < listed.size := by omega
            simp only [Array.getD_eq_getD_getElem?, Array.getElem?_eq_getElem this, Option.getD_some] at hb ⊢
            exact hb
          rw [hr] at hm
          cases hm
    have hm : l.length ∈ Region.ready .any (l ++ [t]).toArray listed := by
      rw [mem_ready]
      exact ⟨hn, t, hgetn, fun e he hb => hall _ (htail2 e he hb)⟩
    rw [hr] at hm
    cases hm
  intro fuel
  induction fuel with
  | zero =>
    intro listed a w hsz hln hn hI
    exfalso
    obtain ⟨n, hn0, hn⟩ := hn
    have : 0 < (List.range (l.length + 1)).countP (fun j => !listed.getD j true) := List.countP_pos_iff.2 ⟨l.length, List.mem_range.2 (by omega), by simp [hln]⟩
    omega
  | succ fuel ih =>
    intro listed a w hsz hln hn hI
    refine ⟨fun hr => absurd hr (hsome listed hsz hln), fun i hi => ?_⟩
    obtain ⟨hu, o, ho, hedges⟩ := mem_ready.1 hi
    have hisz : i < l.length + 1 := by
      rcases Nat.lt_or_ge i (l.length + 1) with h1 | h1
      · exact h1
      · rw [List.getElem?_toArray, List.getElem?_eq_none (by simp; omega)] at ho; cases ho
    by_cases hil : i < l.length
    · -- an operation of the chain
      have hol : l[i]? = some o := by rw [← hget i hil]; exact ho
      obtain ⟨⟨d, hd, hdm⟩, hdis, hbe, hlook⟩ := chainAB_at hB hol
      have hdi : dstAt l i = some d := by simp [dstAt, hol, hd]
      have hl1 := hF.len
      have hl2 := hF.len2
      have hTi : Ts[i]? = some (Ts[i]'(by omega)) := List.getElem?_eq_getElem (by omega)
      have hUi : Us[i]? = some (Us[i]'(by omega)) := List.getElem?_eq_getElem (by omega)
      have hearly : before l i m = true → listed.getD m false = false := by
        intro hb
        cases hm : listed.getD m false with
        | false => rfl
        | true =>
          exfalso
          have hui := getD_ff hu
          unfold before at hb
          rw [Bool.or_eq_true, beq_iff_eq] at hb
          rcases hb with hb | hb
          · subst hb
            rw [hm] at hui
            cases hui
          · cases hom : l[m]? with
            | none => rw [hom] at hb; cases hb
            | some om =>
              rw [hom] at hb
              simp only [Array.any_eq_true', Bool.and_eq_true, beq_iff_eq] at hb
              obtain ⟨e, he, hbi, hon⟩ := hb
              have := hI.closed hm om hom e he hbi
              rw [hon, hui] at this
              cases this
      have hK : ∀ (F : List Fact), F.length = l.length → (∀ (j : Nat) (d : Tmp) (V : Fact), listed.getD j false = true → dstAt l j = some d → F[j]? = some V → V (a.tmps.getD d undef) w) → ∀ s ∈ o.looksAt (l ++ [t]).toArray, Knows (factsTo l F i) a0 a w s := by
        intro F hlF hdone s hs
        unfold Knows
        cases hl : look (factsTo l F i) s with
        | some V =>
          obtain ⟨j, hj, hdj, hVj⟩ := mem_factsTo (look_some hl)
          obtain ⟨e, he, hb, rfl⟩ := (hlook s hs).2 j (by omega) hdj
          exact hdone _ s V (hedges e he hb) hdj hVj
        | none =>
          refine hI.rest s fun j hj hdj => ?_
          have hjl := dst_lt hdj
          obtain ⟨e, he, hb, rfl⟩ := (hlook s hs).2 j hjl hdj
          have hlt := hbe e he hb
          have hV : F[e.on]? = some (F[e.on]'(by omega)) := List.getElem?_eq_getElem (by omega)
          obtain ⟨V, hV'⟩ := look_mem ⟨_, factsTo_mem (i := i) hlt hdj hV, rfl⟩
          rw [hV'] at hl
          cases hl
      have hS := hF.step i o _ hol hTi a w hI.defers hI.keep (fun hb => hI.early (hearly hb)) (by
        by_cases hb : before l i m = true
        · rw [if_pos hb]
          exact hK Ts hl1 fun j d V h1 h2 h3 => hI.done j d V h1 (hearly hb) h2 h3
        · rw [if_neg hb]
          exact hK Us hl2 hI.weak)
      refine wpOp_exits ho (K := AfterA S (i == m) (Ts[i]'(by omega)) a o.dst w) (R := if (i == m) = true then Q else NoWay) ?_ ?_ ?_
      · exact exits_ok (i == m) Q
      · rintro a' w' ⟨v, rfl, hT, hrel⟩
        have hds : d < a.tmps.size := by rw [hI.size]; exact hdm
        have hkeep : Keeps S w w' := by
          cases hsp : i == m with
          | true => rw [hsp, if_pos rfl] at hrel; exact hrel
          | false => rw [hsp, if_neg (by simp)] at hrel; exact keeps_of hrel
        have hsame : ∀ j, j < l.length → (listed.setIfInBounds i true).getD j false = true → j = i ∨ listed.getD j false = true := fun j _ h => getD_set_cases h
        refine ih _ _ _ (by simpa using hsz) (by rw [getD_set_ne true (by omega)]; exact hln) ?_ ⟨hI.keep.trans hkeep, ?_, ?_, ?_, ?_, ?_, ?_, ?_⟩
        · obtain ⟨n, hn0, hn⟩ := hn
          refine ⟨_, ?_, rfl⟩
          have hlt : (List.range (l.length + 1)).countP (fun j => !(listed.setIfInBounds i true).getD j true) < (List.range (l.length + 1)).countP (fun j => !listed.getD j true) := by
            refine countP_lt (i := i) (fun x _ hx => ?_) (List.mem_range.2 hisz) (by simp [hu]) ?_
            · by_cases e : i = x
              · subst e; simp [hu]
              · rw [getD_set_ne true e] at hx; exact hx
            · have : i < listed.size := by omega
              simp [this]
          omega
        · intro hm
          by_cases e : i = m
          · subst e
            have : i < listed.size := by omega
            simp [this] at hm
          · rw [getD_set_ne false e] at hm
            have hsp : (i == m) = false := by simpa using e
            rw [hsp, if_neg (by simp)] at hrel
            exact (hI.early hm).trans (hrel.mono (hI.early hm).size)
        · rw [hd]; exact hI.defers
        · rw [hd]; simp [Act.put, hI.size]
        · intro j d' T hj hm hdj hTj
          rw [hd]
          by_cases e : i = m
          · subst e
            have : i < listed.size := by omega
            simp [this] at hm
          · rw [getD_set_ne false e] at hm
            have hsp : (i == m) = false := by simpa using e
            rw [hsp, if_neg (by simp)] at hrel
            rcases getD_set_cases hj with rfl | hj2
            · rw [hdi] at hdj
              injection hdj with hdj
              subst hdj
              rw [hTi] at hTj
              injection hTj with hTj
              subst hTj
              rw [getD_put_same hds]
              exact hT
            · have hne : d ≠ d' := by
                rintro rfl
                have hji : j ≠ i := by
                  rintro rfl
                  rw [getD_ff hu] at hj2
                  cases hj2
                exact hdis j (dst_lt hdj) hji (by rw [hdj, hd])
              rw [getD_put_ne hne]
              exact hF.st j T hTj _ _ _ (hI.done j d' T hj2 hm hdj hTj) hrel
        · intro j d' U hj hdj hUj
          rw [hd]
          rcases getD_set_cases hj with rfl | hj2
          · rw [hdi] at hdj
            injection hdj with hdj
            subst hdj
            rw [getD_put_same hds]
            exact hF.weak j _ U hTi hUj _ _ hT
          · have hji : j ≠ i := by
              rintro rfl
              rw [getD_ff hu] at hj2
              cases hj2
            have hne : d ≠ d' := by
              rintro rfl
              exact hdis j (dst_lt hdj) hji (by rw [hdj, hd])
            rw [getD_put_ne hne]
            have hold := hI.weak j d' U hj2 hdj hUj
            by_cases e : i = m
            · exact hF.sk j U hUj (by omega) _ _ _ hold hkeep
            · have hsp : (i == m) = false := by simpa using e
              rw [hsp, if_neg (by simp)] at hrel
              exact hF.su j U hUj _ _ _ hold hrel
        · intro s hs
          have hne : d ≠ s := by
            rintro rfl
            refine hs i ?_ hdi
            have : i < listed.size := by omega
            simp [this]
          rw [hd, getD_put_ne hne]
          refine hI.rest s fun j hj hdj => hs j (getD_set_true hj) hdj
        · intro hm om hom e he hbi
          rcases getD_set_cases hm with rfl | hm2
          · rw [hol] at hom
            injection hom with hom
            subst hom
            exact getD_set_true (hedges e he hbi)
          · exact getD_set_true (hI.closed hm2 om hom e he hbi)
      · by_cases hw : Region.wanted o (yielded (l ++ [t]).toArray a.tmps) = true
        · rw [if_pos hw] at hS ⊢
          exact hS
        · rw [if_neg hw] at hS ⊢
          refine ⟨undef, rfl, hS.1, ?_⟩
          have hsp : (i == m) = false := by simpa using hS.2
          rw [hsp, if_neg (by simp)]
          exact Below.refl _ _
    · -- the last one
      obtain rfl : i = l.length := by omega
      rw [hgetn] at ho
      injection ho with ho
      subst ho
      have hall : ∀ j, j < l.length → listed.getD j false = true := fun j hj => by
        obtain ⟨e, he, hb, rfl⟩ := htail j hj
        exact hedges e he hb
      have hE := hend a w hI.keep hI.defers hI.size fun s hs => by
        unfold Knows
        cases hl : look (factsTo l Us l.length) s with
        | some U =>
          obtain ⟨j, hj, hd, hU⟩ := mem_factsTo (look_some hl)
          exact hI.weak j s U (hall j hj) hd hU
        | none =>
          refine hI.rest s fun j hj hd => ?_
          have hjl := dst_lt hd
          have hU : Us[j]? = some (Us[j]'(by have := hF.len2; omega)) := List.getElem?_eq_getElem (by have := hF.len2; omega)
          obtain ⟨U, hU'⟩ := look_mem ⟨_, factsTo_mem (i := l.length) hjl hd hU, rfl⟩
          rw [hU'] at hl
          cases hl
      have hE2 : wpOp P (l ++ [t]).toArray Q l.length (fun a w => Q .normal a w) a w := by
        unfold wpOp
        rw [hgetn]
        exact hE
      refine wpOp_mono (fun a' w' hQ => ?_) hE2
      have hnone : Region.ready .any (l ++ [t]).toArray (listed.setIfInBounds l.length true) = [] := by
        rw [List.eq_nil_iff_forall_not_mem]
        intro j hj
        obtain ⟨hu', o', ho', _⟩ := mem_ready.1 hj
        have hjl : j < l.length + 1 := by
          rcases Nat.lt_or_ge j (l.length + 1) with h1 | h1
          · exact h1
          · rw [List.getElem?_toArray, List.getElem?_eq_none (by simp; omega)] at ho'; cases ho'
        by_cases e : l.length = j
        · subst e
          have : l.length < listed.size := by omega
          simp [this] at hu'
        · rw [getD_set_ne true e] at hu'
          have := getD_ff hu'
          rw [hall j (by omega)] at this
          cases this
      cases fuel with
      | zero => exact ⟨hnone, hQ⟩
      | succ f => exact ⟨fun _ => hQ, fun i hi => by rw [hnone] at hi; cases hi⟩

/-- the rule: l = the operations but the last, t the last, m the number of the one that may change S -/
theorem wp_region_p {P : Program} {id : Nat} {ops : Array Oper} (l : List Oper) (t : Oper) (m : Nat) (S : Nat → Prop) {Q : Exit → Act → World → Prop} {a : Act} {w : World} (hops : ops = (l ++ [t]).toArray) (hm : P.follows .mixedOrders = true) (hB : chainAB a.tmps.size l t = true)
    (h : ChainP P (l ++ [t]).toArray l t m S a w.drew Q l 0 [] []) : (Code.region id ops true).wp P Q a w := by
  subst hops
  obtain ⟨Ts, Us, hF, hend⟩ := chainP_facts (l := l) l 0 [] [] rfl (Nat.zero_le _) h ⟨rfl, rfl, fun j T hT => by simp at hT, fun j T hT => by simp at hT, fun j T hT => by simp at hT, fun j T U hT => by simp at hT, fun j o T _ hT => by simp at hT⟩
  refine wp_region_any hm ?_
  have hff : ∀ j, (Array.replicate (l ++ [t]).toArray.size false).getD j false = false := by
    intro j
    by_cases hlt : j < l.length + 1 <;> simp [hlt]
  refine invp_any hB hF hend _ _ _ _ (by simp) (by simp) ⟨_, ?_, rfl⟩ ⟨Keeps.refl _ _, fun _ => Below.refl _ _, rfl, rfl, ?_, ?_, fun s _ => rfl, ?_⟩
  · refine Nat.le_trans List.countP_le_length ?_
    simp
  · intro j d T hj
    rw [hff] at hj; cases hj
  · intro j d U hj
    rw [hff] at hj; cases hj
  · intro hj
    rw [hff] at hj; cases hj


/-! ## The steps -/
section
variable {P : Program} {ops : Array Oper} {l : List Oper} {t : Oper} {m : Nat} {S : Nat → Prop} {a0 : Act} {w0 : World} {Q : Exit → Act → World → Prop} {o : Oper} {r : List Oper} {i : Nat} {F G : List (Tmp × Fact)} {d : Tmp}

/-- an operation ahead of number m that leaves a known value -/
theorem p_val {u : Value} (L : List Tmp) (hE : before l i m = true) (hm : (i == m) = false) (hd : o.dst = some d) (hL : (L.all fun s => (o.looksAt ops).contains s) = true) (hg : GuardOK ops F a0 o)
    (h : ∀ ρ w, Below w0.heap.size w0 w → Plain ρ → AllK F a0 w ρ L → (execOp ρ o).run P w = .ok (.value u) w) (hr : ChainP P ops l t m S a0 w0 Q r (i + 1) ((d, Is u) :: F) ((d, Is u) :: G)) : ChainP P ops l t m S a0 w0 Q (o :: r) i F G := by
  refine ⟨d, Is u, Is u, hd, stable_is u, stable_is u, fun _ => stableK_is S u, fun _ _ h => h, fun a w _ hK hb hk => ?_, hr⟩
  rw [if_pos hE] at hk
  rw [if_pos (wanted_of hg hk)]
  unfold Oper.wp
  rw [h a.eval w (hb hE) (plain_eval a) (allK_of hk hL)]
  exact ⟨u, rfl, rfl, by rw [hm, if_neg (by simp)]; exact Below.refl _ _⟩

/-- one that may come behind number m, too -/
theorem p_val_l {u : Value} (L : List Tmp) (hE : before l i m = false) (hd : o.dst = some d) (hL : (L.all fun s => (o.looksAt ops).contains s) = true) (hg : GuardOK ops G a0 o)
    (h : ∀ ρ w, Keeps S w0 w → Plain ρ → AllK G a0 w ρ L → (execOp ρ o).run P w = .ok (.value u) w) (hr : ChainP P ops l t m S a0 w0 Q r (i + 1) ((d, Is u) :: F) ((d, Is u) :: G)) : ChainP P ops l t m S a0 w0 Q (o :: r) i F G := by
  refine ⟨d, Is u, Is u, hd, stable_is u, stable_is u, fun _ => stableK_is S u, fun _ _ h => h, fun a w _ hK hb hk => ?_, hr⟩
  rw [if_neg (by rw [hE]; simp)] at hk
  rw [if_pos (wanted_of hg hk)]
  have hm : (i == m) = false := by
    unfold before at hE
    rw [Bool.or_eq_false_iff] at hE
    exact hE.1
  unfold Oper.wp
  rw [h a.eval w hK (plain_eval a) (allK_of hk hL)]
  exact ⟨u, rfl, rfl, by rw [hm, if_neg (by simp)]; exact Below.refl _ _⟩

/-- a call ahead of number m; what it makes lasts -/
theorem p_call {T : Fact} (f : FuncId) (L : List Tmp) (hE : before l i m = true) (hm : (i == m) = false) (hd : o.dst = some d) (hL : (L.all fun s => (o.looksAt ops).contains s) = true) (hg : GuardOK ops F a0 o) (hs : stable T) (hs2 : stableK S T)
    (h : ∀ ρ w, Below w0.heap.size w0 w → Plain ρ → AllK F a0 w ρ L → ∃ args, (execOp ρ o).run P w = .ok (.enter f args) w ∧ Calls P f args w fun e w' => ∃ v, e = .returned v ∧ T v w' ∧ Below w.heap.size w w') (hr : ChainP P ops l t m S a0 w0 Q r (i + 1) ((d, T) :: F) ((d, T) :: G)) : ChainP P ops l t m S a0 w0 Q (o :: r) i F G := by
  refine ⟨d, T, T, hd, hs, hs, fun _ => hs2, fun _ _ h => h, fun a w _ hK hb hk => ?_, hr⟩
  rw [if_pos hE] at hk
  rw [if_pos (wanted_of hg hk)]
  obtain ⟨args, h1, h2⟩ := h a.eval w (hb hE) (plain_eval a) (allK_of hk hL)
  unfold Oper.wp
  rw [h1]
  refine h2.mono fun e w' ⟨v, he, hT, hbel⟩ => ?_
  subst he
  exact ⟨v, rfl, hT, by rw [hm, if_neg (by simp)]; exact hbel⟩

/-- one that may come behind number m, whose value is known by a fact -/
theorem p_new_l {T : Fact} (L : List Tmp) (hE : before l i m = false) (hd : o.dst = some d) (hL : (L.all fun s => (o.looksAt ops).contains s) = true) (hg : GuardOK ops G a0 o) (hs : stable T) (hs2 : stableK S T)
    (h : ∀ ρ w, Keeps S w0 w → Plain ρ → AllK G a0 w ρ L → ∃ v w', (execOp ρ o).run P w = .ok (.value v) w' ∧ T v w' ∧ Below w.heap.size w w') (hr : ChainP P ops l t m S a0 w0 Q r (i + 1) ((d, T) :: F) ((d, T) :: G)) : ChainP P ops l t m S a0 w0 Q (o :: r) i F G := by
  have hm : (i == m) = false := by
    unfold before at hE
    rw [Bool.or_eq_false_iff] at hE
    exact hE.1
  refine ⟨d, T, T, hd, hs, hs, fun _ => hs2, fun _ _ h => h, fun a w _ hK hb hk => ?_, hr⟩
  rw [if_neg (by rw [hE]; simp)] at hk
  rw [if_pos (wanted_of hg hk)]
  obtain ⟨v, w', h1, h2, h3⟩ := h a.eval w hK (plain_eval a) (allK_of hk hL)
  unfold Oper.wp
  rw [h1]
  exact ⟨v, rfl, h2, by rw [hm, if_neg (by simp)]; exact h3⟩

/-- number m itself: it returns, or it panics -/
theorem p_sp {T : Fact} (f : FuncId) (L : List Tmp) (hm : (i == m) = true) (hd : o.dst = some d) (hL : (L.all fun s => (o.looksAt ops).contains s) = true) (hg : GuardOK ops F a0 o) (hs : stable T)
    (h : ∀ ρ w, Below w0.heap.size w0 w → Plain ρ → AllK F a0 w ρ L → ∃ args, (execOp ρ o).run P w = .ok (.enter f args) w ∧ Calls P f args w fun e w' => (∃ v, e = .returned v ∧ T v w' ∧ Keeps S w w') ∨ ∃ c, e = .panicked c ∧ ∀ a, a.defers = a0.defers → Q (.panic c) a w')
    (hr : ChainP P ops l t m S a0 w0 Q r (i + 1) ((d, T) :: F) ((d, T) :: G)) : ChainP P ops l t m S a0 w0 Q (o :: r) i F G := by
  have hE : before l i m = true := by unfold before; rw [hm]; rfl
  refine ⟨d, T, T, hd, hs, hs, fun hne => absurd (by simpa using hm) hne, fun _ _ h => h, fun a w had hK hb hk => ?_, hr⟩
  rw [if_pos hE] at hk
  rw [if_pos (wanted_of hg hk), hm, if_pos rfl]
  obtain ⟨args, h1, h2⟩ := h a.eval w (hb hE) (plain_eval a) (allK_of hk hL)
  unfold Oper.wp
  rw [h1]
  refine h2.mono ?_
  rintro e w' (⟨v, rfl, hT, hk⟩ | ⟨c, rfl, hp⟩)
  · exact ⟨v, rfl, hT, by rw [if_pos rfl]; exact hk⟩
  · exact hp a had

/-- the end: the frame slot by slot, and the last operation -/
theorem p_end_lit (n : Nat) (hn : a0.tmps.size = n)
    (h : ∀ (f : Tmp → Value) (w : World), Keeps S w0 w → AllN (fun s => KnowsV G a0 w s (f s)) n 0 → wpList P ops Q [t] { tmps := (frameL f n 0).toArray, defers := a0.defers } w) : ChainP P ops l t m S a0 w0 Q [] i F G := by
  intro a w hb hd hs hk
  have e : a = { tmps := (frameL (fun s => a.tmps.getD s undef) n 0).toArray, defers := a0.defers } := by
    obtain ⟨tm, df⟩ := a
    simp only at hd hs
    subst hd
    congr 1
    apply Array.ext'
    apply List.ext_getElem?
    intro j
    by_cases hj : j < n
    · rw [show ((frameL (fun s => tm.getD s undef) n 0).toArray.toList) = frameL (fun s => tm.getD s undef) n 0 from rfl, frameL_get _ _ _ _ hj]
      have : j < tm.size := by omega
      simp [this]
    · rw [show ((frameL (fun s => tm.getD s undef) n 0).toArray.toList) = frameL (fun s => tm.getD s undef) n 0 from rfl]
      rw [List.getElem?_eq_none (by simp; omega), List.getElem?_eq_none (by rw [frameL_length]; omega)]
  rw [e]
  exact h _ w hb (allN_of n 0 fun j _ hj => hk j (by rw [hn]; omega))
end

theorem wp_region_p11 {P : Program} {id : Nat} {o0 o1 o2 o3 o4 o5 o6 o7 o8 o9 o10 t : Oper} (m : Nat) (S : Nat → Prop) {Q : Exit → Act → World → Prop} {a : Act} {w : World} (hm : P.follows .mixedOrders = true) (hB : chainAB a.tmps.size [o0, o1, o2, o3, o4, o5, o6, o7, o8, o9, o10] t = true)
    (h : ChainP P #[o0, o1, o2, o3, o4, o5, o6, o7, o8, o9, o10, t] [o0, o1, o2, o3, o4, o5, o6, o7, o8, o9, o10] t m S a w.drew Q [o0, o1, o2, o3, o4, o5, o6, o7, o8, o9, o10] 0 [] []) : (Code.region id #[o0, o1, o2, o3, o4, o5, o6, o7, o8, o9, o10, t] true).wp P Q a w :=
  wp_region_p [o0, o1, o2, o3, o4, o5, o6, o7, o8, o9, o10] t m S rfl hm hB h

theorem wp_region_p14 {P : Program} {id : Nat} {o0 o1 o2 o3 o4 o5 o6 o7 o8 o9 o10 o11 o12 o13 t : Oper} (m : Nat) (S : Nat → Prop) {Q : Exit → Act → World → Prop} {a : Act} {w : World} (hm : P.follows .mixedOrders = true) (hB : chainAB a.tmps.size [o0, o1, o2, o3, o4, o5, o6, o7, o8, o9, o10, o11, o12, o13] t = true)
    (h : ChainP P #[o0, o1, o2, o3, o4, o5, o6, o7, o8, o9, o10, o11, o12, o13, t] [o0, o1, o2, o3, o4, o5, o6, o7, o8, o9, o10, o11, o12, o13] t m S a w.drew Q [o0, o1, o2, o3, o4, o5, o6, o7, o8, o9, o10, o11, o12, o13] 0 [] []) : (Code.region id #[o0, o1, o2, o3, o4, o5, o6, o7, o8, o9, o10, o11, o12, o13, t] true).wp P Q a w :=
  wp_region_p [o0, o1, o2, o3, o4, o5, o6, o7, o8, o9, o10, o11, o12, o13] t m S rfl hm hB h
end Go.Proofs.YtnmanhediiooaaaGreatDoor

/- A result that may be written into: the blocks of a node that a call gave (within its range, not frozen); bytes and rows that kids may share, under stores. -/
namespace Go.Proofs.YtnmanhediiooaaaGreatDoor
open Go.ChangeShapes Go.WideShapes Go.ChangeAt Go.RowKit
set_option linter.unusedVariables false
set_option linter.unusedSimpArgs false
set_option maxRecDepth 100000

/-- the block at A may be written into -/
def Unf (w : World) (A : Option Addr) : Prop := ∀ b off, A = some ⟨b, off, none⟩ → ∀ o, w.frozen? ⟨b, o, none⟩ = false
/-- v is the node x, of the call's own, and may be written into (its data, its row of kids, their data) -/
def NodU (lo : Nat) (x : Nd) (v : Value) (w : World) : Prop := ∃ A c B c2 hi, v = .agg #[.int .i64 x.k, .int .i64 x.e, .int .i64 x.n, .slice A x.d.length c, .slice B x.ks.length c2] ∧ hi ≤ w.heap.size ∧ NdO lo hi w A c B c2 x ∧ Unf w A ∧ Unf w B ∧
  ∀ b off j A' l' c', B = some ⟨b, off, none⟩ → j < x.ks.length → w.cell? ⟨b, off + j * 5 + 3, none⟩ = some (.slice A' l' c') → Unf w A'
theorem NodU.nod {lo : Nat} {x : Nd} {v : Value} {w : World} (h : NodU lo x v w) : NodF lo x v w := by
  obtain ⟨A, c, B, c2, hi, h1, h2, h3, -⟩ := h
  exact ⟨A, c, B, c2, hi, h1, h2, h3⟩

/-- a world whose block b is gone -/
def gone (w : World) (b : Nat) : World := { w with heap := w.heap.setIfInBounds b (.cells #[] 0) }
theorem gone_heap (w : World) (b k : Nat) (h : k ≠ b) : (gone w b).heap[k]? = w.heap[k]? := by
  unfold gone
  rw [Array.getElem?_setIfInBounds_ne (by omega)]
theorem gone_cell (w : World) (b o : Nat) : (gone w b).cell? ⟨b, o, none⟩ = none := by
  unfold gone World.cell?
  by_cases h : b < w.heap.size
  · simp [h]
  · simp [Array.getElem?_eq_none (Nat.le_of_not_lt h), h]
theorem NdO.data {lo hi : Nat} {w : World} {A : Option Addr} {c : Nat} {B : Option Addr} {c2 : Nat} {x : Nd} (h : NdO lo hi w A c B c2 x) (h0 : 0 < x.d.length) : ∃ b off, A = some ⟨b, off, none⟩ ∧ lo ≤ b ∧ b < hi := by
  obtain ⟨k, e, n, d, ks⟩ := x
  obtain ⟨b, off, hA, hc⟩ := h.nd.open.2.2.2.1.at (i := 0) h0
  refine ⟨b, off, hA, Classical.byContradiction fun hn => ?_⟩
  have h1 := h (gone w b) (fun k hk1 hk2 => gone_heap w b k (fun e => hn (e ▸ ⟨hk1, hk2⟩)))
  obtain ⟨b', off', hA', hc'⟩ := h1.open.2.2.2.1.at (i := 0) h0
  rw [hA] at hA'
  injection hA' with e
  injection e with e1 e2
  subst e1
  have := hc' 0 h0
  rw [gone_cell] at this
  cases this
theorem NdO.row {lo hi : Nat} {w : World} {A : Option Addr} {c : Nat} {B : Option Addr} {c2 : Nat} {x : Nd} (h : NdO lo hi w A c B c2 x) {j : Nat} (hj : j < x.ks.length) : ∃ b off, B = some ⟨b, off, none⟩ ∧ lo ≤ b ∧ b < hi := by
  obtain ⟨b, off, A', c', B', c2', hB, h0, -⟩ := h.nd.kidsX.1.at hj
  refine ⟨b, off, hB, Classical.byContradiction fun hn => ?_⟩
  have h1 := h (gone w b) (fun k hk1 hk2 => gone_heap w b k (fun e => hn (e ▸ ⟨hk1, hk2⟩)))
  obtain ⟨b', off', _, _, _, _, hB', h0', -⟩ := h1.kidsX.1.at hj
  rw [hB] at hB'
  injection hB' with e
  injection e with e1 e2
  subst e1
  rw [gone_cell] at h0'
  cases h0'
/-- n bytes at A, in a block from base to top that may be written into -/
def Byt (w : World) (base top : Nat) (A : Option Addr) (n : Nat) : Prop := n = 0 ∨ ∃ b off, A = some ⟨b, off, none⟩ ∧ base ≤ b ∧ b < top ∧ (∀ o, w.frozen? ⟨b, o, none⟩ = false) ∧ ∀ j, j < n → ∃ z : Int, 0 ≤ z ∧ z < 256 ∧ w.cell? ⟨b, off + j, none⟩ = some (.int .u8 z)
/-- the rows of the kids from i on: their slices of bytes are FA, FL, FC -/
def Rws (w : World) (base top b off : Nat) (FA : Nat → Option Addr) (FL FC : Nat → Nat) (i kl : Nat) : Prop := base ≤ b ∧ b < top ∧ (∀ o, w.frozen? ⟨b, o, none⟩ = false) ∧ ∀ j, i ≤ j → j < kl → (∃ k e n : Int, ∃ B l c, w.cell? ⟨b, off + j * 5, none⟩ = some (.int .i64 k) ∧ w.cell? ⟨b, off + j * 5 + 1, none⟩ = some (.int .i64 e) ∧ w.cell? ⟨b, off + j * 5 + 2, none⟩ = some (.int .i64 n) ∧
  w.cell? ⟨b, off + j * 5 + 3, none⟩ = some (.slice (FA j) (FL j) (FC j)) ∧ w.cell? ⟨b, off + j * 5 + 4, none⟩ = some (.slice B l c)) ∧ FL j ≤ FC j ∧ FC j ≤ 9223372036854775807 ∧ Byt w base top (FA j) (FL j)

theorem cell_same {w : World} {p : Addr} {u v : Value} (h : w.cell? p = some u) : (w.setCell p v).cell? p = some v := World.cell?_setCell_same' _ _ _ (by rw [h]; rfl)
theorem cell_diff {w : World} {p q : Addr} {v : Value} (h : p ≠ q) : (w.setCell p v).cell? q = w.cell? q := World.cell?_setCell_other w p q v h

theorem Byt.put {w : World} {base top n : Nat} {A : Option Addr} (h : Byt w base top A n) {p : Addr} {z z' : Int} (hp : w.cell? p = some (.int .u8 z)) (h0 : 0 ≤ z') (h1 : z' < 256) : Byt (w.setCell p (.int .u8 z')) base top A n := by
  rcases h with h | ⟨b, off, hA, hb, ht, hf, hc⟩
  · exact .inl h
  · refine .inr ⟨b, off, hA, hb, ht, fun o => by rw [World.frozen?_setCell]; exact hf o, fun j hj => ?_⟩
    by_cases e : p = ⟨b, off + j, none⟩
    · subst e
      exact ⟨z', h0, h1, cell_same hp⟩
    · obtain ⟨y, h2, h3, h4⟩ := hc j hj
      exact ⟨y, h2, h3, by rw [cell_diff e]; exact h4⟩
theorem Byt.far {w : World} {base top n : Nat} {A : Option Addr} (h : Byt w base top A n) {p : Addr} {u v : Value} (hp : w.cell? p = some u) (hu : ∀ z, u ≠ .int .u8 z) : Byt (w.setCell p v) base top A n := by
  rcases h with h | ⟨b, off, hA, hb, ht, hf, hc⟩
  · exact .inl h
  · refine .inr ⟨b, off, hA, hb, ht, fun o => by rw [World.frozen?_setCell]; exact hf o, fun j hj => ?_⟩
    obtain ⟨y, h2, h3, h4⟩ := hc j hj
    have e : p ≠ ⟨b, off + j, none⟩ := by
      intro e
      subst e
      rw [h4] at hp
      injection hp with hp
      exact hu _ hp.symm
    exact ⟨y, h2, h3, by rw [cell_diff e]; exact h4⟩
theorem Rws.put {w : World} {base top b off i kl : Nat} {FA : Nat → Option Addr} {FL FC : Nat → Nat} (h : Rws w base top b off FA FL FC i kl) {p : Addr} {z z' : Int} (hp : w.cell? p = some (.int .u8 z)) (h0 : 0 ≤ z') (h1 : z' < 256) : Rws (w.setCell p (.int .u8 z')) base top b off FA FL FC i kl := by
  obtain ⟨g1, g2, g3, g4⟩ := h
  refine ⟨g1, g2, fun o => by rw [World.frozen?_setCell]; exact g3 o, fun j hi hj => ?_⟩
  obtain ⟨⟨k, e, n, B, l, c, k0, k1, k2, k3, k4⟩, l1, l2, hb⟩ := g4 j hi hj
  have hd : ∀ q u, w.cell? q = some u → (∀ z, u ≠ .int .u8 z) → (w.setCell p (.int .u8 z')).cell? q = some u := by
    intro q u hq hu
    rw [cell_diff (fun e => by subst e; rw [hp] at hq; injection hq with hq; exact hu _ hq.symm), hq]
  exact ⟨⟨k, e, n, B, l, c, hd _ _ k0 (fun z h => by cases h), hd _ _ k1 (fun z h => by cases h), hd _ _ k2 (fun z h => by cases h), hd _ _ k3 (fun z h => by cases h), hd _ _ k4 (fun z h => by cases h)⟩, l1, l2, hb.put hp h0 h1⟩
/-- a store into a cell of row i that holds no byte -/
theorem Rws.cell {w : World} {base top b off i kl o : Nat} {FA : Nat → Option Addr} {FL FC : Nat → Nat} (h : Rws w base top b off FA FL FC (i + 1) kl) (ho : o < 5) {u v : Value} (hp : w.cell? ⟨b, off + i * 5 + o, none⟩ = some u) (hu : ∀ z, u ≠ .int .u8 z) : Rws (w.setCell ⟨b, off + i * 5 + o, none⟩ v) base top b off FA FL FC (i + 1) kl := by
  obtain ⟨g1, g2, g3, g4⟩ := h
  refine ⟨g1, g2, fun o => by rw [World.frozen?_setCell]; exact g3 o, fun j hi hj => ?_⟩
  obtain ⟨⟨k, e, n, B, l, c, k0, k1, k2, k3, k4⟩, l1, l2, hb⟩ := g4 j hi hj
  have hd : ∀ q, off + i * 5 + o < q → (w.setCell ⟨b, off + i * 5 + o, none⟩ v).cell? ⟨b, q, none⟩ = w.cell? ⟨b, q, none⟩ := by
    intro q hq
    exact cell_diff (fun e => by injection e with e1 e2; omega)
  exact ⟨⟨k, e, n, B, l, c, by rw [hd _ (by omega)]; exact k0, by rw [hd _ (by omega)]; exact k1, by rw [hd _ (by omega)]; exact k2, by rw [hd _ (by omega)]; exact k3, by rw [hd _ (by omega)]; exact k4⟩, l1, l2, hb.far hp hu⟩
/-- row i is written anew -/
theorem Rws.next {w : World} {base top b off i kl : Nat} {FA : Nat → Option Addr} {FL FC : Nat → Nat} (h : Rws w base top b off FA FL FC i kl) (hi : i < kl) (v0 v1 v2 : Int) (A3 : Option Addr) (l3 c3 : Nat) (v4 : Value) :
    Rws (((((w.setCell ⟨b, off + i * 5, none⟩ (.int .i64 v0)).setCell ⟨b, off + i * 5 + 1, none⟩ (.int .i64 v1)).setCell ⟨b, off + i * 5 + 2, none⟩ (.int .i64 v2)).setCell ⟨b, off + i * 5 + 3, none⟩ (.slice A3 l3 c3)).setCell ⟨b, off + i * 5 + 4, none⟩ v4) base top b off FA FL FC (i + 1) kl := by
  obtain ⟨⟨k, e, n, B, l, c, k0, k1, k2, k3, k4⟩, -, -, -⟩ := h.2.2.2 i (Nat.le_refl _) hi
  have h1 : Rws w base top b off FA FL FC (i + 1) kl := ⟨h.1, h.2.1, h.2.2.1, fun j hj => h.2.2.2 j (by omega)⟩
  have d : ∀ (w : World) (p q : Nat) v, p ≠ q → (w.setCell ⟨b, p, none⟩ v).cell? ⟨b, q, none⟩ = w.cell? ⟨b, q, none⟩ := fun w p q v hpq => cell_diff (fun e => by injection e with e1 e2; exact hpq e2)
  refine (((((h1.cell (o := 0) (by omega) k0 (fun z h => by cases h)).cell (o := 1) (u := .int .i64 e) (by omega) ?_ (fun z h => by cases h)).cell (o := 2) (u := .int .i64 n) (by omega) ?_ (fun z h => by cases h)).cell (o := 3) (u := .slice (FA i) (FL i) (FC i)) (by omega) ?_ (fun z h => by cases h)).cell (o := 4) (u := .slice B l c) (by omega) ?_ (fun z h => by cases h))
  · rw [d _ _ _ _ (by omega)]; exact k1
  · rw [d _ _ _ _ (by omega), d _ _ _ _ (by omega)]; exact k2
  · rw [d _ _ _ _ (by omega), d _ _ _ _ (by omega), d _ _ _ _ (by omega)]; exact k3
  · rw [d _ _ _ _ (by omega), d _ _ _ _ (by omega), d _ _ _ _ (by omega), d _ _ _ _ (by omega)]; exact k4
theorem Byt.below {w w' : World} {base top n N : Nat} {A : Option Addr} (h : Byt w base top A n) (hb : Below N w w') (hN : top ≤ N) : Byt w' base top A n := by
  rcases h with h | ⟨b, off, hA, h1, h2, hf, hc⟩
  · exact .inl h
  · refine .inr ⟨b, off, hA, h1, h2, fun o => ?_, fun j hj => ?_⟩
    · rw [hb.frozen (p := ⟨b, o, none⟩) (by show b < N; omega)]; exact hf o
    · obtain ⟨z, z0, z1, hz⟩ := hc j hj
      exact ⟨z, z0, z1, by rw [hb.cell (p := ⟨b, off + j, none⟩) (by show b < N; omega)]; exact hz⟩
theorem Rws.below {w w' : World} {base top b off i kl N : Nat} {FA : Nat → Option Addr} {FL FC : Nat → Nat} (h : Rws w base top b off FA FL FC i kl) (hb : Below N w w') (hN : top ≤ N) : Rws w' base top b off FA FL FC i kl := by
  obtain ⟨g1, g2, g3, g4⟩ := h
  refine ⟨g1, g2, fun o => by rw [hb.frozen (p := ⟨b, o, none⟩) (by show b < N; omega)]; exact g3 o, fun j hi hj => ?_⟩
  obtain ⟨⟨k, e, n, B, l, c, k0, k1, k2, k3, k4⟩, l1, l2, hbt⟩ := g4 j hi hj
  have hc := fun o => hb.cell (p := ⟨b, o, none⟩) (by show b < N; omega)
  exact ⟨⟨k, e, n, B, l, c, (hc _).trans k0, (hc _).trans k1, (hc _).trans k2, (hc _).trans k3, (hc _).trans k4⟩, l1, l2, hbt.below hb hN⟩
end Go.Proofs.YtnmanhediiooaaaGreatDoor

/- A row of nodes that is filled place by place while another block is written, too. -/
namespace Go.Proofs.YtnmanhediiooaaaGreatDoor
open Go.ChangeShapes Go.WideShapes Go.ChangeAt Go.RowKit
set_option linter.unusedVariables false
set_option linter.unusedSimpArgs false
set_option maxRecDepth 100000

/-- all blocks but b -/
def KB (b : Nat) : Nat → Prop := fun k => k = b
theorem bel_keeps {b : Nat} {w w' : World} (h : Keeps (KB b) w w') (hb : b ≤ w.heap.size) : Below b w w' := h.below hb (fun k hk => by unfold KB at hk; omega)
theorem keeps_alloc {b : Nat} {w w' : World} (h : Keeps (KB b) w w') (o : Obj) : Keeps (KB b) w (w'.alloc o) := h.trans (keeps_of ((Below.refl _ _).alloc (Nat.le_refl _) o))
theorem keeps_set {b : Nat} {w w' : World} (h : Keeps (KB b) w w') {p : Addr} (hp : p.block = b ∨ w.heap.size ≤ p.block) (v : Value) : Keeps (KB b) w (w'.setCell p v) := by
  refine ⟨h.os, h.tape, h.output, by simpa using h.size, fun k hk hS => ?_⟩
  rw [Below.heap_setCell _ _ _ _ (by rcases hp with e | e; · intro e2; exact hS (e2.trans e)
                                     · omega)]
  exact h.block k hk hS
theorem keeps_on {b : Nat} {w w1 w2 : World} (h : Keeps (KB b) w w1) (hb : Below w1.heap.size w1 w2) : Keeps (KB b) w w2 := h.trans (keeps_of hb)
theorem NodF.keeps {b lo : Nat} {x : Nd} {v : Value} {w w' : World} (h : NodF lo x v w) (hk : Keeps (KB b) w w') (hb : b < lo) : NodF lo x v w' := by
  obtain ⟨A, c, B, c2, hi, h1, h2, h3⟩ := h
  exact ⟨A, c, B, c2, hi, h1, Nat.le_trans h2 hk.size, h3.to fun k k1 k2 => hk.block k (by omega) (by unfold KB; omega)⟩
theorem got_keeps {b : Nat} {w w' : World} {base : Nat} {E : TypeId} {k : IntKind} {v : Value} {zs : List Int} (h : Got w base E k v zs) (hk : Keeps (KB b) w w') (hb : b < base) : Got w' base E k v zs :=
  got_agree h fun q h1 h2 => hk.block q h2 (by unfold KB; omega)

/-- a row of n nodes in the block q; the first hold the nodes of ts, whose parts lie behind q -/
structure RowG (q n : Nat) (ts : List Nd) (W : World) : Prop where
  cell : ∀ o, o < n * 5 → ∃ u, W.cell? ⟨q, o, none⟩ = some u
  free : ∀ o, W.frozen? ⟨q, o, none⟩ = false
  lt : q < W.heap.size
  done : ∀ j (hj : j < ts.length), ∃ A' c' B' c2' lo hi, q < lo ∧ hi ≤ W.heap.size ∧ NdO lo hi W A' c' B' c2' (ts[j]) ∧ ∀ o, o < 5 → W.cell? ⟨q, j * 5 + o, none⟩ = (fiveC (ts[j]) A' c' B' c2')[o]?
theorem RowG.agree {q n : Nat} {ts : List Nd} {W W' : World} (h : RowG q n ts W) (hs : W.heap.size ≤ W'.heap.size) (hw : ∀ k, q ≤ k → k < W.heap.size → W'.heap[k]? = W.heap[k]?) : RowG q n ts W' := by
  have hlt := h.lt
  have hc : ∀ o, W'.cell? ⟨q, o, none⟩ = W.cell? ⟨q, o, none⟩ := fun o => World.cell?_of_block (hw q (Nat.le_refl _) hlt)
  refine ⟨fun o ho => ?_, fun o => ?_, Nat.lt_of_lt_of_le hlt hs, fun j hj => ?_⟩
  · obtain ⟨u, hu⟩ := h.cell o ho
    exact ⟨u, (hc o).trans hu⟩
  · have := h.free o
    unfold World.frozen? at this ⊢
    rw [show W'.heap[(⟨q, o, none⟩ : Addr).block]? = W.heap[(⟨q, o, none⟩ : Addr).block]? from hw q (Nat.le_refl _) hlt]
    exact this
  · obtain ⟨A', c', B', c2', lo, hi', h1, h2, h3, h5⟩ := h.done j hj
    exact ⟨A', c', B', c2', lo, hi', h1, Nat.le_trans h2 hs, h3.to fun k k1 k2 => hw k (by omega) (by omega), fun o ho => (hc _).trans (h5 o ho)⟩
theorem RowG.below {q n : Nat} {ts : List Nd} {W W' : World} (h : RowG q n ts W) (hb : Below W.heap.size W W') : RowG q n ts W' := h.agree hb.size fun k _ h2 => hb.block k h2
theorem RowG.keeps {b q n : Nat} {ts : List Nd} {W W' : World} (h : RowG q n ts W) (hk : Keeps (KB b) W W') (hb : b < q) : RowG q n ts W' := h.agree hk.size fun k h1 h2 => hk.block k h2 (by unfold KB; omega)
theorem RowG.alloc {q n : Nat} {ts : List Nd} {W : World} (h : RowG q n ts W) (o : Obj) : RowG q n ts (W.alloc o) := h.below ((Below.refl _ _).alloc (Nat.le_refl _) o)
/-- a store into another block that none of its parts lies in -/
theorem RowG.other {q n : Nat} {ts : List Nd} {W : World} (h : RowG q n ts W) {p : Addr} (hp : p.block < q) (v : Value) : RowG q n ts (W.setCell p v) :=
  h.agree (by simp) fun k h1 _ => Below.heap_setCell _ _ _ _ (by omega)
theorem RowG.set {q n : Nat} {ts : List Nd} {W : World} (h : RowG q n ts W) {p : Nat} (hp : ts.length * 5 ≤ p) (v : Value) : RowG q n ts (W.setCell ⟨q, p, none⟩ v) := by
  have hd : ∀ o, p ≠ o → (W.setCell ⟨q, p, none⟩ v).cell? ⟨q, o, none⟩ = W.cell? ⟨q, o, none⟩ := fun o ho => cell_diff (fun e => by injection e with e1 e2; exact ho e2)
  refine ⟨fun o ho => ?_, fun o => by rw [World.frozen?_setCell]; exact h.free o, by simpa using h.lt, fun j hj => ?_⟩
  · obtain ⟨u, hu⟩ := h.cell o ho
    by_cases e : p = o
    · subst e
      exact ⟨v, cell_same hu⟩
    · exact ⟨u, (hd o e).trans hu⟩
  · obtain ⟨A', c', B', c2', lo, hi', h1, h2, h3, h5⟩ := h.done j hj
    exact ⟨A', c', B', c2', lo, hi', h1, by simpa using h2, h3.to fun k k1 _ => Below.heap_setCell _ _ _ _ (by show k ≠ q; omega), fun o ho => (hd _ (by omega)).trans (h5 o ho)⟩
/-- one place more -/
theorem RowG.next {q n i : Nat} {ts : List Nd} {W : World} {x : Nd} (h : RowG q n ts W) (hi : ts.length = i) (hn : i < n) {A' : Option Addr} {c' : Nat} {B' : Option Addr} {c2' lo hi' : Nat} (h1 : q < lo) (h2 : hi' ≤ W.heap.size) (h3 : NdO lo hi' W A' c' B' c2' x) :
    RowG q n (ts ++ [x]) (((((W.setCell ⟨q, i * 5, none⟩ (.int .i64 x.k)).setCell ⟨q, i * 5 + 1, none⟩ (.int .i64 x.e)).setCell ⟨q, i * 5 + 2, none⟩ (.int .i64 x.n)).setCell ⟨q, i * 5 + 3, none⟩ (.slice A' x.d.length c')).setCell ⟨q, i * 5 + 4, none⟩ (.slice B' x.ks.length c2')) := by
  subst hi
  have hr := ((((h.set (p := ts.length * 5) (by omega) (.int .i64 x.k)).set (p := ts.length * 5 + 1) (by omega) (.int .i64 x.e)).set (p := ts.length * 5 + 2) (by omega) (.int .i64 x.n)).set (p := ts.length * 5 + 3) (by omega) (.slice A' x.d.length c')).set (p := ts.length * 5 + 4) (by omega) (.slice B' x.ks.length c2')
  refine ⟨hr.cell, hr.free, hr.lt, fun j hj => ?_⟩
  by_cases e : j < ts.length
  · have := hr.done j e
    rw [List.getElem_append_left e]
    exact this
  have hjl : j = ts.length := by rw [List.length_append, List.length_singleton] at hj; omega
  subst hjl
  have hx : (ts ++ [x])[ts.length]'hj = x := by rw [List.getElem_append_right (Nat.le_refl _)]; simp
  rw [hx]
  have hg : ∀ (w : World) k p v, lo ≤ k → (w.setCell ⟨q, p, none⟩ v).heap[k]? = w.heap[k]? := fun w k p v hk => Below.heap_setCell _ _ _ _ (by show k ≠ q; omega)
  refine ⟨A', c', B', c2', lo, hi', h1, by simpa using h2, h3.to fun k k1 _ => by rw [hg _ _ _ _ k1, hg _ _ _ _ k1, hg _ _ _ _ k1, hg _ _ _ _ k1, hg _ _ _ _ k1], fun o ho => ?_⟩
  have d : ∀ (w : World) (p r : Nat) v, p ≠ r → (w.setCell ⟨q, p, none⟩ v).cell? ⟨q, r, none⟩ = w.cell? ⟨q, r, none⟩ := fun w p r v hpr => cell_diff (fun e => by injection e with e1 e2; exact hpr e2)
  have c0 := fun o (ho : o < 5) => h.cell (ts.length * 5 + o) (by omega)
  have : o = 0 ∨ o = 1 ∨ o = 2 ∨ o = 3 ∨ o = 4 := by omega
  rcases this with rfl | rfl | rfl | rfl | rfl
  · obtain ⟨u, hu⟩ := c0 0 (by omega)
    rw [d _ _ _ _ (by omega), d _ _ _ _ (by omega), d _ _ _ _ (by omega), d _ _ _ _ (by omega)]
    exact cell_same hu
  · obtain ⟨u, hu⟩ := c0 1 (by omega)
    rw [d _ _ _ _ (by omega), d _ _ _ _ (by omega), d _ _ _ _ (by omega)]
    exact cell_same (u := u) (by rw [d _ _ _ _ (by omega)]; exact hu)
  · obtain ⟨u, hu⟩ := c0 2 (by omega)
    rw [d _ _ _ _ (by omega), d _ _ _ _ (by omega)]
    exact cell_same (u := u) (by rw [d _ _ _ _ (by omega), d _ _ _ _ (by omega)]; exact hu)
  · obtain ⟨u, hu⟩ := c0 3 (by omega)
    rw [d _ _ _ _ (by omega)]
    exact cell_same (u := u) (by rw [d _ _ _ _ (by omega), d _ _ _ _ (by omega), d _ _ _ _ (by omega)]; exact hu)
  · obtain ⟨u, hu⟩ := c0 4 (by omega)
    exact cell_same (u := u) (by rw [d _ _ _ _ (by omega), d _ _ _ _ (by omega), d _ _ _ _ (by omega), d _ _ _ _ (by omega)]; exact hu)
/-- a new row -/
theorem RowG.made {q n base : Nat} {W : World} {vs : List Value} (h : W.ownsRow base 30 5 (.slice (some ⟨q, 0, none⟩) n n) n vs) : RowG q n [] W := by
  refine ⟨fun o ho => ?_, fun o => World.ownsRow.frozenAt h o, (h.lt q rfl).2, fun j hj => by simp at hj⟩
  have hl : o < vs.length := by rw [h.1]; exact ho
  exact ⟨vs[o], by rw [World.ownsRow.cellAt h o ho, List.getElem?_eq_getElem hl]⟩
/-- a node whose kids are such a row -/
theorem RowG.nod {q n base lo : Nat} {ts : List Nd} {W : World} (h : RowG q n ts W) (hlo : lo ≤ base) (hq : base ≤ q) (hl : ts.length = n) (hm : n ≤ maxLen) {k e m : Int} {d : List Int} {A : Option Addr} {c : Nat}
    (hk : -9223372036854775808 ≤ k ∧ k ≤ 9223372036854775807) (he : -9223372036854775808 ≤ e ∧ e ≤ 9223372036854775807) (hn : -9223372036854775808 ≤ m ∧ m ≤ 9223372036854775807)
    (hd : Got W base 5 .u8 (.slice A d.length c) d) (hby : Bts d) : NodF lo (.mk k e m d ts) (.agg #[.int .i64 k, .int .i64 e, .int .i64 m, .slice A d.length c, .slice (some ⟨q, 0, none⟩) n n]) W := by
  refine ⟨A, c, some ⟨q, 0, none⟩, n, W.heap.size, by rw [← hl]; rfl, Nat.le_refl _, NdO.wide (lo := base) (hi := W.heap.size) ?_ hlo (Nat.le_refl _)⟩
  intro V hV
  have hdV : Got V base 5 .u8 (.slice A d.length c) d := got_agree hd fun g h1 h2 => hV g h1 h2
  obtain ⟨A0, c0, he0, hc0, hm0, hri, hnil⟩ := hdV.full
  injection he0 with e1 e2 e3
  subst e1 e3
  have hcell : ∀ o, V.cell? ⟨q, o, none⟩ = W.cell? ⟨q, o, none⟩ := fun o => World.cell?_of_block (w := W) (hV q hq h.lt)
  have hkid : ∀ j (hj : j < ts.length), ∃ A' c' B' c2', NdR V A' c' B' c2' (ts[j]) ∧ ∀ o, o < 5 → V.cell? ⟨q, j * 5 + o, none⟩ = (fiveC (ts[j]) A' c' B' c2')[o]? := by
    intro j hj
    obtain ⟨A', c', B', c2', lo, hi, k1, k2, k3, k5⟩ := h.done j hj
    exact ⟨A', c', B', c2', k3 V fun g g1 g2 => hV g (by omega) (by omega), fun o ho => (hcell _).trans (k5 o ho)⟩
  refine .mk k e m d ts A c _ n (fun j => if h : j < ts.length then Classical.choose (hkid j h) else none)
    (fun j => if h : j < ts.length then Classical.choose (Classical.choose_spec (hkid j h)) else 0)
    (fun j => if h : j < ts.length then Classical.choose (Classical.choose_spec (Classical.choose_spec (hkid j h))) else none)
    (fun j => if h : j < ts.length then Classical.choose (Classical.choose_spec (Classical.choose_spec (Classical.choose_spec (hkid j h)))) else 0)
    hk he hn hri hby hc0 hm0 hnil (by omega) hm (fun h => by cases h) ?_ ?_
  · refine .inr ⟨q, 0, rfl, fun j x hj => ?_⟩
    have hjl : j < ts.length := (List.getElem?_eq_some_iff.1 hj).1
    obtain rfl : ts[j] = x := (List.getElem?_eq_some_iff.1 hj).2
    have hspec := Classical.choose_spec (Classical.choose_spec (Classical.choose_spec (Classical.choose_spec (hkid j hjl))))
    simp only [dif_pos hjl, Nat.zero_add]
    exact ⟨hspec.2 0 (by omega), hspec.2 1 (by omega), hspec.2 2 (by omega), hspec.2 3 (by omega), hspec.2 4 (by omega)⟩
  · intro j x hj
    have hjl : j < ts.length := (List.getElem?_eq_some_iff.1 hj).1
    obtain rfl : ts[j] = x := (List.getElem?_eq_some_iff.1 hj).2
    have hspec := Classical.choose_spec (Classical.choose_spec (Classical.choose_spec (Classical.choose_spec (hkid j hjl))))
    simp only [dif_pos hjl]
    exact hspec.1
end Go.Proofs.YtnmanhediiooaaaGreatDoor

/- Package denote: how an error ends the traversal; entering, locating and charging an object. -/
namespace Go.Proofs.YtnmanhediiooaaaGreatDoor
open Go.ChangeShapes Go.WideShapes Go.ChangeAt Go.RowKit
set_option linter.unusedVariables false
set_option linter.unusedSimpArgs false
set_option maxRecDepth 100000
attribute [local simp] AllK KnowsV look Is

/-- the traversal ends with the error e -/
def failE (e : Int) : Ending := .panicked [{ v := .iface 66 (.agg #[.int .i64 e]), recovered := false }]

theorem requireD (e : Int) (w : World) : Calls Tryz.prog 52 #[.int .i64 e] w fun r w' => ((e = 0 ∧ r = .returned (.tuple #[])) ∨ (e ≠ 0 ∧ r = failE e)) ∧ w = w' := by
  by_cases h : e = 0
  · subst h
    go_enter Tryz.func52, Tryz.ntmps52
    go_wp2
    go_end0
    exact ⟨by simp, rfl⟩
  · have t1 : (e != 0) = true := by simpa using h
    go_enter Tryz.func52, Tryz.ntmps52
    go_wp2
    exact ⟨rfl, .inr ⟨h, rfl⟩, rfl⟩

theorem bel_undrew {w wc : World} (h : Below w.drew.heap.size w.drew wc) : Below w.heap.size w wc := ⟨h.os, h.tape, h.output, h.size, h.block⟩
/-- a message that lies there since before the traversal's block b was made -/
structure EnvD (b : Nat) (A : Option Addr) (ls : List (List Int)) (w0 : World) : Prop where
  sg : Sg w0 A ls
  tab : TabOK w0
  b0 : w0.heap.size ≤ b
  wd : Wd2 ls
  m : ls.length ≤ 40
  f : ∀ j, (seg ls j).length ≤ 20000000
theorem EnvD.sgAt {b : Nat} {A : Option Addr} {ls : List (List Int)} {w0 w : World} (E : EnvD b A ls w0) (hb : Below b w0 w) : Sg w A ls := E.sg.below hb E.b0
theorem EnvD.tabAt {b : Nat} {A : Option Addr} {ls : List (List Int)} {w0 w : World} (E : EnvD b A ls w0) (hb : Below b w0 w) : TabOK w := E.tab.below hb E.b0
theorem EnvD.m2 {b : Nat} {A : Option Addr} {ls : List (List Int)} {w0 : World} (E : EnvD b A ls w0) : ls.length ≤ 140737488355328 := by have := E.m; omega
theorem EnvD.f2 {b : Nat} {A : Option Addr} {ls : List (List Int)} {w0 : World} (E : EnvD b A ls w0) : ∀ j, (seg ls j).length ≤ 140737488355328 := fun j => by have := E.f j; omega

def obV (o : Ob) : Value := .agg #[.int .i64 o.k, .int .i64 o.sg, .int .i64 o.at', .int .i64 o.d, .int .i64 o.p, .int .i64 o.el, .int .i64 o.n, .int .i64 o.cost]

set_option maxHeartbeats 4000000 in
theorem object_walk (b : Nat) (A : Option Addr) (n c : Nat) (D X O m s a dep : Int) (q : Fol) (r : Ob × Int) (w0 w : World) (hb : Below b w0 w) (hk : Blk w b #[.slice A n c, .int .i64 D, .int .i64 X, .int .i64 O, .int .i64 m])
    (HFOL : Hid (∀ w2, Below b w0 w2 → Calls Tryz.prog 51 #[.slice A n c, .int .i64 s, .int .i64 a] w2 fun e w' => e = .returned (.tuple #[.int .u64 q.w, .int .i64 q.s, .int .i64 q.b, .int .i64 q.e]) ∧ Below w2.heap.size w2 w'))
    (HOBJ : Hid (∀ w2, Below b w0 w2 → Calls Tryz.prog 55 #[.slice A n c, .int .i64 s, .int .i64 a] w2 fun e w' => e = .returned (.tuple #[.agg #[.int .i64 r.1.k, .int .i64 r.1.sg, .int .i64 r.1.at', .int .i64 r.1.d, .int .i64 r.1.p, .int .i64 r.1.el, .int .i64 r.1.n, .int .i64 r.1.cost], .int .i64 r.2]) ∧ Below w2.heap.size w2 w'))
    (HCH0 : Hid (∀ w2, Calls Tryz.prog 56 #[.agg #[.int .i64 m], .int .i64 r.1.cost] w2 fun e w' => e = .returned (.tuple #[.agg #[.int .i64 (chargeI m r.1.cost)], .int .i64 (chargeE m r.1.cost)]) ∧ Below w2.heap.size w2 w')) :
    Calls Tryz.prog 33 #[.pointer (some ⟨b, 0, none⟩), .int .i64 s, .int .i64 a, .int .i64 dep] w fun e w' => Keeps (KB b) w w' ∧ Blk w' b #[.slice A n c, .int .i64 D, .int .i64 X, .int .i64 O, .int .i64 (locQ q r D m dep).m] ∧
      (((locQ q r D m dep).e = 0 ∧ e = .returned (obV (locQ q r D m dep).o)) ∨ ((locQ q r D m dep).e ≠ 0 ∧ e = failE (locQ q r D m dep).e)) := by
  have hlt := hk.lt
  have HB := Lib.hid (fun (w2 : World) (h : Below w.heap.size w w2) => hb.trans (h.mono (Nat.le_of_lt hlt)))
  have HL : Hid (b < w.heap.size) := Lib.hid hlt
  have H1 := hk.alloc (.cells #[.int .i64 0, .int .i64 0, .int .i64 0, .int .i64 0, .int .i64 0, .int .i64 0, .int .i64 0, .int .i64 0] 74)
  have O1 := Lib.hid (Blk.fresh w #[.int .i64 0, .int .i64 0, .int .i64 0, .int .i64 0, .int .i64 0, .int .i64 0, .int .i64 0, .int .i64 0] 74)
  have B1 := Lib.hid ((Below.refl w.heap.size w).alloc (Nat.le_refl _) (.cells #[.int .i64 0, .int .i64 0, .int .i64 0, .int .i64 0, .int .i64 0, .int .i64 0, .int .i64 0, .int .i64 0] 74))
  have T1 := Lib.hid H1
  obtain ⟨x1, y1, z1⟩ := H1
  clear hb hk hlt
  go_enter Tryz.func33, Tryz.ntmps33
  go_wp2_with fail
  refine (HFOL.out _ (HB.out _ B1.out)).mono ?_
  rintro e w1 ⟨rfl, hb1⟩
  have T2 := Lib.hid (T1.out.below hb1)
  have O2 := Lib.hid (O1.out.below hb1)
  have B2 : Hid (Below w.heap.size w w1) := Lib.hid (bel_on B1.out hb1)
  clear T1 O1 B1 hb1 x1 y1 z1
  go_wp2_with fail
  refine (requireD _ _).mono ?_
  rintro e w' ⟨⟨he, rfl⟩ | ⟨he, rfl⟩, rfl⟩
  rotate_left
  · unfold failE
    go_wp2
    have hL : locQ q r D m dep = ⟨ob0, m, q.e⟩ := by unfold locQ; rw [if_pos (.inl he)]
    rw [hL]
    exact ⟨rfl, keeps_of B2.out, T2.out, .inr ⟨he, rfl⟩⟩
  go_wp2_with fail
  refine (IsNull_any _ _).mono ?_
  rintro e w' ⟨rfl, rfl⟩
  by_cases hw0 : q.w = 0
  · have t2 : (q.w == 0) = true := by simpa using hw0
    have hL : locQ q r D m dep = ⟨ob0, m, 0⟩ := by unfold locQ; rw [if_pos (.inr hw0), he]
    have HLQ := Lib.hid hL
    clear hw0 he hL
    obtain ⟨xo, yo, zo⟩ := O2.out
    go_wp2_with fail
    refine abs_post (F := fun W => Blk W w.heap.size #[.int .i64 0, .int .i64 0, .int .i64 0, .int .i64 0, .int .i64 0, .int .i64 0, .int .i64 0, .int .i64 0] ∧ Keeps (KB b) w W ∧ Blk W b #[.slice A n c, .int .i64 D, .int .i64 X, .int .i64 O, .int .i64 m]) ⟨?_, ?_, ?_⟩ ?_
    · exact ((((((((O2.out.set 0 (by simp) _).set 1 (by simp) _).set 2 (by simp) _).set 3 (by simp) _).set 4 (by simp) _).set 5 (by simp) _).set 6 (by simp) _).set 7 (by simp) _)
    · refine keeps_set (keeps_set (keeps_set (keeps_set (keeps_set (keeps_set (keeps_set (keeps_set (keeps_of B2.out) ?_ _) ?_ _) ?_ _) ?_ _) ?_ _) ?_ _) ?_ _) ?_ _ <;> exact .inr (Nat.le_refl _)
    · have hne : w.heap.size ≠ b := by have := HL.out; omega
      exact ((((((((T2.out.other (p := ⟨w.heap.size, 0, none⟩) hne _).other (p := ⟨w.heap.size, 1, none⟩) hne _).other (p := ⟨w.heap.size, 2, none⟩) hne _).other (p := ⟨w.heap.size, 3, none⟩) hne _).other (p := ⟨w.heap.size, 4, none⟩) hne _).other (p := ⟨w.heap.size, 5, none⟩) hne _).other (p := ⟨w.heap.size, 6, none⟩) hne _).other (p := ⟨w.heap.size, 7, none⟩) hne _)
    rintro V ⟨B6, hbv, ht⟩
    exact bodyPost_ret (v := .agg #[.int .i64 0, .int .i64 0, .int .i64 0, .int .i64 0, .int .i64 0, .int .i64 0, .int .i64 0, .int .i64 0]) (by simp [results, Tryz.results33, go_sem, B6.cell]) rfl ⟨hbv, by rw [HLQ.out]; exact ht, .inl ⟨by rw [HLQ.out], by rw [HLQ.out]; rfl⟩⟩
  have t2 : (q.w == 0) = false := by simpa using hw0
  obtain ⟨x2, y2, z2⟩ := T2.out
  go_wp2_with fail
  refine (BEnter_any _ _ _ _ _).mono ?_
  rintro e w2 ⟨rfl, hb2⟩
  have T3 := Lib.hid (T2.out.below hb2)
  have O3 := Lib.hid (O2.out.below hb2)
  have B3 : Hid (Below w.heap.size w w2) := Lib.hid (bel_on B2.out hb2)
  clear T2 O2 B2 hb2 x2 y2 z2
  go_wp2_with fail
  refine (requireD _ _).mono ?_
  rintro e w' ⟨⟨he2, rfl⟩ | ⟨he2, rfl⟩, rfl⟩
  rotate_left
  · unfold failE
    go_wp2
    have hD : D < dep := by unfold enterI at he2; split at he2 <;> omega
    have hL : locQ q r D m dep = ⟨ob0, m, 7⟩ := by unfold locQ; rw [if_neg (by rw [he]; simp [hw0]), if_pos hD]
    have hE : enterI D dep = 7 := by unfold enterI; rw [if_neg (by omega)]
    rw [hL]
    exact ⟨rfl, keeps_of B3.out, T3.out, .inr ⟨(by decide : (7 : Int) ≠ 0), by rw [hE]; rfl⟩⟩
  have hD : ¬ D < dep := by unfold enterI at he2; split at he2 <;> omega
  have HD := Lib.hid hD
  have HE2 := Lib.hid he2
  have HE := Lib.hid he
  have HW0 := Lib.hid hw0
  clear he2 he hw0 hD t2
  obtain ⟨x2, y2, z2⟩ := T3.out
  go_wp2_with fail
  refine (HOBJ.out _ (HB.out _ B3.out)).mono ?_
  rintro e w3 ⟨rfl, hb3⟩
  have T4 := Lib.hid ((T3.out.below hb3).alloc (.cells (obA r.1) 74))
  have O4 := Lib.hid ((O3.out.below hb3).alloc (.cells (obA r.1) 74))
  have B4 : Hid (Below w.heap.size w (w3.alloc (.cells (obA r.1) 74))) := Lib.hid ((bel_on B3.out hb3).alloc (bel_on B3.out hb3).size _)
  have HSZ : Hid (w.heap.size < w3.heap.size) := Lib.hid (by have := (O3.out.below hb3).lt; omega)
  have R4 : Hid (Blk (w3.alloc (.cells (obA r.1) 74)) w3.heap.size (obA r.1)) := Lib.hid (Blk.fresh _ _ _)
  clear T3 O3 B3 hb3 x2 y2 z2 HOBJ HFOL
  unfold obA at T4 O4 B4 R4
  go_wp2_with fail
  refine (requireD _ _).mono ?_
  rintro e w' ⟨⟨he3, rfl⟩ | ⟨he3, rfl⟩, rfl⟩
  rotate_left
  · unfold failE
    go_wp2
    have hL : locQ q r D m dep = ⟨ob0, m, r.2⟩ := by unfold locQ; rw [if_neg (by rw [HE.out]; simp [HW0.out]), if_neg (by have := HD.out; omega), if_pos he3]
    rw [hL]
    exact ⟨rfl, keeps_of B4.out, T4.out, .inr ⟨he3, rfl⟩⟩
  have HE3 := Lib.hid he3
  clear he3
  go_wp2_with fail
  have HNE : Hid (w.heap.size ≠ w3.heap.size ∧ b ≠ w3.heap.size) := Lib.hid (by have h1 := B4.out.block; have := R4.out.lt; have h3 := HSZ.out; have h4 := HL.out; omega)
  refine abs_code10 (F := fun W => Blk W b #[.slice A n c, .int .i64 D, .int .i64 X, .int .i64 O, .int .i64 m] ∧ Blk W w.heap.size #[.int .i64 0, .int .i64 0, .int .i64 0, .int .i64 0, .int .i64 0, .int .i64 0, .int .i64 0, .int .i64 0] ∧ Below w.heap.size w W ∧ Blk W w3.heap.size #[.int .i64 r.1.k, .int .i64 r.1.sg, .int .i64 r.1.at', .int .i64 r.1.d, .int .i64 r.1.p, .int .i64 r.1.el, .int .i64 r.1.n, .int .i64 r.1.cost]) ⟨T4.out, O4.out, B4.out, R4.out⟩ ?_
  clear T4 O4 B4 R4
  rintro W ⟨h1, h2, h3, h4⟩
  have HT5 := Lib.hid h1
  have HO5 := Lib.hid h2
  have HB5 := Lib.hid h3
  have HR5 := Lib.hid h4
  clear h1 h2 h3 h4
  generalize w3.heap.size = o13 at *
  rename_i KK hKK
  generalize hcm : chargeI m r.1.cost = cm at *
  generalize hce : chargeE m r.1.cost = ce at *
  have HCM := Lib.hid hcm
  have HCE := Lib.hid hce
  have HCH := HCH0
  clear HCH0 hcm hce
  refine wp_region_t13_2 [10, 11] (by kernel_rfl) (by kernel_rfl) ?_
  refine t_val (u := ?_) [0] (by kernel_rfl) rfl (by kernel_rfl) trivial (fun ρ wc hbc hcn hq => ?_) ?_; rotate_left
  · obtain ⟨hcn, hfn⟩ := hcn
    simp at hq
    go_simp
    rfl
  refine t_val (u := ?_) [0] (by kernel_rfl) rfl (by kernel_rfl) trivial (fun ρ wc hbc hcn hq => ?_) ?_; rotate_left
  · obtain ⟨hcn, hfn⟩ := hcn
    simp at hq
    go_simp
    rfl
  refine t_val (u := ?_) [52] (by kernel_rfl) rfl (by kernel_rfl) trivial (fun ρ wc hbc hcn hq => ?_) ?_; rotate_left
  · obtain ⟨hcn, hfn⟩ := hcn
    simp at hq
    go_simp
    rfl
  refine t_val (u := ?_) [53] (by kernel_rfl) rfl (by kernel_rfl) trivial (fun ρ wc hbc hcn hq => ?_) ?_; rotate_left
  · obtain ⟨hcn, hfn⟩ := hcn
    simp at hq
    go_simp
    rfl
  refine t_val (u := ?_) [54] (by kernel_rfl) rfl (by kernel_rfl) trivial (fun ρ wc hbc hcn hq => ?_) ?_; rotate_left
  · obtain ⟨hcn, hfn⟩ := hcn
    simp at hq
    have x1 := (HT5.out.drew.below hbc).cell
    have x2 := (HR5.out.drew.below hbc).cell
    go_simp
    rfl
  refine t_val (u := ?_) [13] (by kernel_rfl) rfl (by kernel_rfl) trivial (fun ρ wc hbc hcn hq => ?_) ?_; rotate_left
  · obtain ⟨hcn, hfn⟩ := hcn
    simp at hq
    go_simp
    rfl
  refine t_val (u := ?_) [56] (by kernel_rfl) rfl (by kernel_rfl) trivial (fun ρ wc hbc hcn hq => ?_) ?_; rotate_left
  · obtain ⟨hcn, hfn⟩ := hcn
    simp at hq
    have x1 := (HT5.out.drew.below hbc).cell
    have x2 := (HR5.out.drew.below hbc).cell
    go_simp
    rfl
  refine t_call (T := Is (.tuple #[.agg #[.int .i64 cm], .int .i64 ce])) (Is (.tuple #[.agg #[.int .i64 cm], .int .i64 ce])) 56 [55, 57] (by kernel_rfl) rfl (by kernel_rfl) trivial (stable_is _) (free_is _) (fun _ _ h => h) (fun ρ wc hbc hcn hq => ?_) ?_
  · obtain ⟨hcn, hfn⟩ := hcn
    simp at hq
    refine ⟨_, by go_simp; rfl, ?_⟩
    refine (HCH.out _).mono ?_
    rintro e w' ⟨rfl, hbq⟩
    exact ⟨_, rfl, rfl, hbq⟩
  refine t_val (u := ?_) [58] (by kernel_rfl) rfl (by kernel_rfl) trivial (fun ρ wc hbc hcn hq => ?_) ?_; rotate_left
  · obtain ⟨hcn, hfn⟩ := hcn
    simp at hq
    go_simp
    rfl
  refine t_val (u := ?_) [50] (by kernel_rfl) rfl (by kernel_rfl) trivial (fun ρ wc hbc hcn hq => ?_) ?_; rotate_left
  · obtain ⟨hcn, hfn⟩ := hcn
    simp at hq
    go_simp
    rfl
  refine t_pure (u := ?_) [50] (by kernel_rfl) rfl (by kernel_rfl) rfl (fun ρ wc hcn hq => ?_) ?_; rotate_left
  · obtain ⟨hcn, hfn⟩ := hcn
    simp at hq
    go_simp
    rfl
  refine t_pure (u := ?_) [51] (by kernel_rfl) rfl (by kernel_rfl) rfl (fun ρ wc hcn hq => ?_) ?_; rotate_left
  · obtain ⟨hcn, hfn⟩ := hcn
    simp at hq
    go_simp
    rfl
  refine t_val (u := ?_) [61] (by kernel_rfl) rfl (by kernel_rfl) trivial (fun ρ wc hbc hcn hq => ?_) ?_; rotate_left
  · obtain ⟨hcn, hfn⟩ := hcn
    simp at hq
    go_simp
    rfl

  refine t_end_lit 66 rfl (fun ff w4 hb7 hq => ?_)
  have hb4 : Below W.heap.size W w4 := ⟨hb7.os, hb7.tape, hb7.output, hb7.size, hb7.block⟩
  have HT6 := Lib.hid (HT5.out.below hb4)
  have HO6 := Lib.hid (HO5.out.below hb4)
  have HR6 := Lib.hid (HR5.out.below hb4)
  have HB6 := Lib.hid (bel_on HB5.out hb4)
  clear hb4 hb7 HT5 HO5 HR5 HB5 HCH
  simp [AllN] at hq
  simp only [frameL, hq, Nat.zero_add, Nat.reduceAdd]
  clear hq
  obtain ⟨x1, y1, z1⟩ := HT6.out
  go_wp2
  refine ⟨rfl, ?_⟩
  refine hKK _ _ ?_
  clear hKK KK x1 y1 z1
  refine abs_code10 (F := fun W => Blk W b #[.slice A n c, .int .i64 D, .int .i64 X, .int .i64 O, .int .i64 cm] ∧ Blk W w.heap.size #[.int .i64 0, .int .i64 0, .int .i64 0, .int .i64 0, .int .i64 0, .int .i64 0, .int .i64 0, .int .i64 0] ∧ Keeps (KB b) w W ∧ Blk W o13 #[.int .i64 r.1.k, .int .i64 r.1.sg, .int .i64 r.1.at', .int .i64 r.1.d, .int .i64 r.1.p, .int .i64 r.1.el, .int .i64 r.1.n, .int .i64 r.1.cost]) ⟨?_, ?_, ?_, ?_⟩ ?_
  · exact HT6.out.set 4 (by simp) _
  · exact HO6.out.other (by have := HL.out; show b ≠ w.heap.size; omega) _
  · exact keeps_set (p := ⟨b, 4, none⟩) (keeps_of HB6.out) (.inl rfl) _
  · exact HR6.out.other HNE.out.2 _
  clear HT6 HO6 HR6 HB6
  rintro V ⟨h1, h2, h3, h4⟩
  have HT7 := Lib.hid h1
  have HO7 := Lib.hid h2
  have HK7 := Lib.hid h3
  have HR7 := Lib.hid h4
  clear h1 h2 h3 h4
  go_wp2_with fail
  refine (requireD _ _).mono ?_
  rintro e w' ⟨⟨he4, rfl⟩ | ⟨he4, rfl⟩, rfl⟩
  rotate_left
  · unfold failE
    go_wp2
    have hmc : m < r.1.cost := by rw [← HCE.out] at he4; unfold chargeE at he4; split at he4 <;> omega
    have hL : locQ q r D m dep = ⟨ob0, m, 8⟩ := by unfold locQ; rw [if_neg (by rw [HE.out]; simp [HW0.out]), if_neg (by have := HD.out; omega), if_neg (by rw [HE3.out]; simp), if_pos hmc]
    have h1 : cm = m := by rw [← HCM.out]; unfold chargeI; rw [if_pos hmc]
    have h2 : ce = 8 := by rw [← HCE.out]; unfold chargeE; rw [if_pos hmc]
    rw [hL, h2]
    rw [h1] at HT7
    exact ⟨rfl, HK7.out, HT7.out, .inr ⟨(by decide : (8 : Int) ≠ 0), rfl⟩⟩
  have hmc : ¬ m < r.1.cost := by rw [← HCE.out] at he4; unfold chargeE at he4; split at he4 <;> omega
  have HLQ : Hid (locQ q r D m dep = ⟨r.1, m - r.1.cost, 0⟩) := Lib.hid (by unfold locQ; rw [if_neg (by rw [HE.out]; simp [HW0.out]), if_neg (by have := HD.out; omega), if_neg (by rw [HE3.out]; simp), if_neg hmc])
  have h1 : cm = m - r.1.cost := by rw [← HCM.out]; unfold chargeI; rw [if_neg hmc]
  have HC1 := Lib.hid h1
  clear h1 hmc he4 HCM HCE HE HE2 HE3 HW0 HD HB
  obtain ⟨x1, y1, z1⟩ := HO7.out
  obtain ⟨x2, y2, z2⟩ := HR7.out
  go_wp2_with fail
  refine abs_post (F := fun W => Blk W w.heap.size #[.int .i64 r.1.k, .int .i64 r.1.sg, .int .i64 r.1.at', .int .i64 r.1.d, .int .i64 r.1.p, .int .i64 r.1.el, .int .i64 r.1.n, .int .i64 r.1.cost] ∧ Keeps (KB b) w W ∧ Blk W b #[.slice A n c, .int .i64 D, .int .i64 X, .int .i64 O, .int .i64 cm]) ⟨?_, ?_, ?_⟩ ?_
  · exact ((((((((HO7.out.set 0 (by simp) _).set 1 (by simp) _).set 2 (by simp) _).set 3 (by simp) _).set 4 (by simp) _).set 5 (by simp) _).set 6 (by simp) _).set 7 (by simp) _)
  · refine keeps_set (keeps_set (keeps_set (keeps_set (keeps_set (keeps_set (keeps_set (keeps_set HK7.out ?_ _) ?_ _) ?_ _) ?_ _) ?_ _) ?_ _) ?_ _) ?_ _ <;> exact .inr (Nat.le_refl _)
  · have hne : w.heap.size ≠ b := by have := HL.out; omega
    exact ((((((((HT7.out.other (p := ⟨w.heap.size, 0, none⟩) hne _).other (p := ⟨w.heap.size, 1, none⟩) hne _).other (p := ⟨w.heap.size, 2, none⟩) hne _).other (p := ⟨w.heap.size, 3, none⟩) hne _).other (p := ⟨w.heap.size, 4, none⟩) hne _).other (p := ⟨w.heap.size, 5, none⟩) hne _).other (p := ⟨w.heap.size, 6, none⟩) hne _).other (p := ⟨w.heap.size, 7, none⟩) hne _)
  rintro V2 ⟨B6, hbv, ht⟩
  rw [HC1.out] at ht
  exact bodyPost_ret (v := .agg #[.int .i64 r.1.k, .int .i64 r.1.sg, .int .i64 r.1.at', .int .i64 r.1.d, .int .i64 r.1.p, .int .i64 r.1.el, .int .i64 r.1.n, .int .i64 r.1.cost]) (by simp [results, Tryz.results33, go_sem, B6.cell]) rfl ⟨hbv, by rw [HLQ.out]; exact ht, .inl ⟨by rw [HLQ.out], by rw [HLQ.out]; rfl⟩⟩
end Go.Proofs.YtnmanhediiooaaaGreatDoor

/- The word of a far pointer as a number. -/
namespace Go.Proofs.YtnmanhediiooaaaGreatDoor
set_option linter.unusedVariables false
set_option linter.unusedSimpArgs false
set_option maxRecDepth 100000

theorem decP_k (x : Int) (h5 : 0 ≤ x) : (decP x).k = x % 4 := by
  unfold decP
  by_cases c0 : x % 4 = 0
  · rw [if_pos c0, c0]
  · by_cases c1 : x % 4 = 1
    · rw [if_neg c0, if_pos c1, c1]
    · by_cases c2 : x % 4 = 2
      · rw [if_neg c0, if_neg c1, if_pos c2, c2]
      · rw [if_neg c0, if_neg c1, if_neg c2]; show 3 = x % 4; omega
end Go.Proofs.YtnmanhediiooaaaGreatDoor

/- A message that the call made: a slice of its own of slices of its own. -/
namespace Go.Proofs.YtnmanhediiooaaaGreatDoor
open Go.RowKit
set_option linter.unusedVariables false
set_option linter.unusedSimpArgs false
set_option maxRecDepth 100000

def GotS (w : World) (base : Nat) (v : Value) (ls : List (List Int)) : Prop :=
  ∃ vs : List Value, w.ownsRow base 46 1 v ls.length vs ∧ ∀ j, j < ls.length → ∃ u, vs[j]? = some u ∧ Got w base 41 .u64 u (seg ls j)

theorem GotS.empty (w : World) (base : Nat) : GotS w base (.slice none 0 0) [] := ⟨[], World.ownsRow_nil w base _ 1, fun j hj => by simp at hj⟩

theorem ownsRow_belowS {w w' : World} {base B n size : Nat} {e : TypeId} {v : Value} {xs : List Value} (h : w.ownsRow base e size v n xs) (hb : Below B w w') (hB : w.heap.size ≤ B) : w'.ownsRow base e size v n xs := by
  obtain ⟨h1, h2⟩ := h
  refine ⟨h1, ?_⟩
  rcases h2 with h2 | ⟨g, cap, cur, hv, hg, hh, r⟩
  · exact .inl h2
  · refine .inr ⟨g, cap, cur, hv, hg, ?_, r⟩
    have hlt : g < w.heap.size := by
      rcases Nat.lt_or_ge g w.heap.size with hlt | hge
      · exact hlt
      · rw [Array.getElem?_eq_none hge] at hh; cases hh
    rw [hb.block g (by omega)]
    exact hh

theorem GotS.below {w w' : World} {base B : Nat} {v : Value} {ls : List (List Int)} (h : GotS w base v ls) (hb : Below B w w') (hB : w.heap.size ≤ B) : GotS w' base v ls := by
  obtain ⟨vs, h1, h2⟩ := h
  refine ⟨vs, ownsRow_belowS h1 hb hB, fun j hj => ?_⟩
  obtain ⟨u, hu, hg⟩ := h2 j hj
  exact ⟨u, hu, hg.below hb hB⟩

theorem GotS.mono {w : World} {base base' : Nat} {v : Value} {ls : List (List Int)} (h : GotS w base v ls) (hb : base' ≤ base) : GotS w base' v ls := by
  obtain ⟨vs, ⟨h0, h1⟩, h2⟩ := h
  refine ⟨vs, ⟨h0, ?_⟩, fun j hj => ?_⟩
  · rcases h1 with h1 | ⟨g, cap, cur, hv, hg, r⟩
    · exact .inl h1
    · exact .inr ⟨g, cap, cur, hv, by omega, r⟩
  · obtain ⟨u, hu, hg⟩ := h2 j hj
    exact ⟨u, hu, hg.mono hb⟩

theorem Got.holds {w : World} {base : Nat} {v : Value} {l : List Int} (h : Got w base 41 .u64 v l) : Holds w v l := by
  rcases h.2 with ⟨rfl, hn⟩ | ⟨g, cap, cur, hv, _⟩
  · have : l = [] := List.eq_nil_of_length_eq_zero hn
    subst this
    exact ⟨none, 0, rfl, Ri.nil _ _ _, fun _ => rfl, Nat.le_refl _, Nat.zero_le _⟩
  · obtain ⟨A, c, h1, h2, h3, h4⟩ := h.slice
    refine ⟨A, c, h1, h4, fun hA => ?_, h2, h3⟩
    subst hA
    rw [h1] at hv
    injection hv with e
    cases e

/-- what the call made reads as a message -/
theorem GotS.slice {w : World} {base : Nat} {v : Value} {ls : List (List Int)} (h : GotS w base v ls) : ∃ A c, v = .slice A ls.length c ∧ ls.length ≤ c ∧ c ≤ maxLen ∧ Sg w A ls := by
  obtain ⟨vs, h1, h2⟩ := h
  have h0 := h1
  rcases h1.2 with ⟨rfl, hn⟩ | ⟨g, cap, cur, rfl, hg, hh, hc, hm, hs, ht⟩
  · have : ls = [] := List.eq_nil_of_length_eq_zero hn
    subst this
    exact ⟨none, 0, rfl, Nat.le_refl _, Nat.zero_le _, .inl rfl⟩
  · refine ⟨some ⟨g, 0, none⟩, cap, rfl, hc, hm, .inr ⟨g, 0, rfl, fun j hj => ?_⟩⟩
    obtain ⟨u, hu, hgu⟩ := h2 j hj
    refine ⟨u, ?_, hgu.holds⟩
    rw [Nat.zero_add, World.ownsRow.cellAt h0 j (by omega)]
    exact hu

end Go.Proofs.YtnmanhediiooaaaGreatDoor

/- What the functions of package arena do, each by a contract (by the code at 3e41864; the laws rest on these statements alone). -/
namespace Go.Proofs.YtnmanhediiooaaaGreatDoor
open Go.ChangeShapes Go.WideShapes Go.ChangeAt Go.RowKit
set_option linter.unusedVariables false
set_option linter.unusedSimpArgs false
set_option maxRecDepth 100000

def sliceX (ls : List (List Int)) (s a n : Int) : List Int := if inB ls s a n then sliceL ls s a n else []

theorem inB_nat {ls : List (List Int)} {s a n : Int} (h : inB ls s a n = true) : ∃ S K N : Nat, s = S ∧ a = K ∧ n = N ∧ S < ls.length ∧ K + N ≤ (seg ls S).length := by
  obtain ⟨h1, h2, h3, h4, h5, h6⟩ := of_decide_eq_true h
  obtain ⟨S, rfl⟩ := Int.eq_ofNat_of_zero_le h1
  obtain ⟨K, rfl⟩ := Int.eq_ofNat_of_zero_le h3
  obtain ⟨N, rfl⟩ := Int.eq_ofNat_of_zero_le h4
  rw [Int.toNat_natCast] at h5 h6
  exact ⟨S, K, N, rfl, rfl, rfl, by omega, by omega⟩

/-- segments of a length that memory can hold -/
def Fits (ls : List (List Int)) : Prop := ∀ j, (seg ls j).length ≤ 17592186044415


/-- a slice of the call's own that fills its block -/
theorem got_block {w : World} {base : Nat} {E : TypeId} {k : IntKind} {g n : Nat} {zs : List Int} (h : Got w base E k (.slice (some ⟨g, 0, none⟩) n n) zs) (hl : zs.length = n) : w.heap[g]? = some (.cells (zs.map (Value.int k)).toArray E (0, 0)) := by
  obtain ⟨h1, h2⟩ := h
  rcases h2 with ⟨h3, _⟩ | ⟨g', cap, cur, h3, h4, h5, h6, h7, h8, h9⟩
  · injection h3 with e; cases e
  · injection h3 with e1 e2 e3
    injection e1 with e1
    injection e1 with e1
    subst e1
    subst e3
    rw [h5, ← h9, List.take_of_length_le (by rw [Array.length_toList]; omega)]

theorem got_of_block {w : World} {base : Nat} {E : TypeId} {k : IntKind} {g n : Nat} {zs : List Int} (h : w.heap[g]? = some (.cells (zs.map (Value.int k)).toArray E (0, 0))) (hb : base ≤ g) (hl : zs.length = n) (hm : n ≤ maxLen) : Got w base E k (.slice (some ⟨g, 0, none⟩) n n) zs := by
  subst hl
  refine ⟨by simp, .inr ⟨g, zs.length, _, rfl, hb, h, Nat.le_refl _, hm, by simp, ?_⟩⟩
  rw [List.take_of_length_le (by simp)]

theorem splice_whole {α : Type} {L cs : List α} (h : cs.length = L.length) : Go.splice L 0 cs = cs := by
  simp [Go.splice, h]

theorem one_cells (k : IntKind) (zs : List Int) : ∀ v ∈ zs.map (Value.int k), v.oneCell' = true := by
  intro v hv
  obtain ⟨z, _, rfl⟩ := List.mem_map.1 hv
  rfl

theorem copy_src {w : World} {k : IntKind} {A : Option Addr} {zs : List Int} {dp : Option Addr} {g : Nat} (h : Ri w k A zs) (hd : dp = some ⟨g, 0, none⟩) : 0 < (zs.map (Value.int k)).length → dp = some ⟨g, 0, none⟩ ∧ ∃ ad, A = some ad ∧ ∀ j v, (zs.map (Value.int k))[j]? = some v → w.cell? (ad.add j) = some v := by
  intro h0
  rw [List.length_map] at h0
  obtain ⟨b, off, rfl, hw⟩ := h.at h0
  refine ⟨hd, _, rfl, fun j v hv => ?_⟩
  rw [List.getElem?_map] at hv
  cases hz : zs[j]? with
  | none => rw [hz] at hv; cases hv
  | some z =>
    rw [hz] at hv
    have hj : j < zs.length := by
      rcases Nat.lt_or_ge j zs.length with hlt | hge
      · exact hlt
      · rw [List.getElem?_eq_none hge] at hz; cases hz
    have e : v = Value.int k z := (Option.some.inj hv).symm
    have := hw j hj
    simp only [zat, List.getD_eq_getElem?_getD, hz, Option.getD_some] at this
    rw [e, ← this]
    unfold Addr.add
    by_cases h1 : j = 0
    · subst h1; rfl
    · rw [if_neg h1]

theorem AWithin_no (A : Option Addr) (c : Nat) (ls : List (List Int)) (s a n : Int) (w : World) (hs : Sg w A ls) (hm : ls.length ≤ 140737488355328)
    (hs0 : -9223372036854775808 ≤ s) (hs1 : s ≤ 9223372036854775807) (ha0 : -9223372036854775808 ≤ a) (ha1 : a ≤ 9223372036854775807) (hn0 : -9223372036854775808 ≤ n) (hn1 : n ≤ 9223372036854775807) (hh : inB ls s a n = false) :
    Calls Tryz.prog 101 #[.slice A ls.length c, .int .i64 s, .int .i64 a, .int .i64 n] w fun e w' => e = .returned (.tuple #[.slice none 0 0, .bool false]) ∧ w = w' := by
  have Hs := Lib.hid hs
  have HH := Lib.hid hh
  clear hs hh
  by_cases h1 : s < 0
  · go_enter Tryz.func101, Tryz.ntmps101
    go_wp2
    go_ret2
    exact ⟨rfl, rfl⟩
  by_cases h2 : (ls.length : Int) ≤ s
  · go_enter Tryz.func101, Tryz.ntmps101
    go_wp2
    go_ret2
    exact ⟨rfl, rfl⟩
  obtain ⟨k, rfl⟩ := Int.eq_ofNat_of_zero_le (by omega : 0 ≤ s)
  obtain ⟨b, off, A', c', rfl, hcell, hri, -, hc1, hc2⟩ := Hs.out.one (i := k) (by omega)
  clear hri
  have hk2 : (k : Int) < (ls.length : Int) := by omega
  by_cases h3 : a < 0
  · go_enter Tryz.func101, Tryz.ntmps101
    go_wp2
    go_ret2
    exact ⟨rfl, rfl⟩
  by_cases h4 : n < 0
  · go_enter Tryz.func101, Tryz.ntmps101
    go_wp2
    go_ret2
    exact ⟨rfl, rfl⟩
  have h5 : ((seg ls k).length : Int) - a < n := by
    have h := HH.out
    unfold inB at h
    rw [decide_eq_false_iff_not, Int.toNat_natCast] at h
    omega
  go_enter Tryz.func101, Tryz.ntmps101
  go_wp2
  go_ret2
  exact ⟨rfl, rfl⟩

theorem AWithin_yes (A : Option Addr) (c : Nat) (ls : List (List Int)) (S K n : Nat) (w : World) (hs : Sg w A ls) (hm : ls.length ≤ 140737488355328) (hS : S < ls.length) (hK : K + n ≤ (seg ls S).length) (hh : inB ls S K n = true) :
    Calls Tryz.prog 101 #[.slice A ls.length c, .int .i64 S, .int .i64 K, .int .i64 n] w fun e w' => ∃ A' c', e = .returned (.tuple #[.slice A' n c', .bool true]) ∧ w = w' ∧ Ri w .u64 A' (sliceL ls S K n) ∧ n ≤ c' ∧ c' ≤ 9223372036854775807 := by
  have HL0 := sliceL_length hh
  have HL : Hid ((sliceL ls S K n).length = n) := Lib.hid (by omega)
  have HZ : Hid (sliceL ls S K n = ((seg ls S).drop K).take n) := Lib.hid (by
    unfold sliceL
    rw [Int.toNat_natCast, Int.toNat_natCast, Int.toNat_natCast])
  have Hs := Lib.hid hs
  clear hs hh HL0
  obtain ⟨b, off, A', c', rfl, hcell, hri, hno, hc1, hc2⟩ := Hs.out.one hS
  have HR := Lib.hid hri
  clear hri
  have hS1 : (S : Int) < (ls.length : Int) := by omega
  have h5 : ¬ ((seg ls S).length : Int) - K < n := by omega
  by_cases h0 : n = 0
  · subst h0
    have H0 : Hid (sliceL ls S K 0 = []) := Lib.hid (List.eq_nil_of_length_eq_zero HL.out)
    clear HZ HL
    by_cases hcap : c' = K
    · clear hno
      go_enter Tryz.func101, Tryz.ntmps101
      go_wp2
      go_ret2
      refine ⟨_, _, rfl, rfl, ?_, by omega⟩
      rw [H0.out]
      exact Ri.nil _ _ _
    · cases A' with
      | none => exact absurd (hno rfl) (by omega)
      | some p =>
        clear hno
        go_enter Tryz.func101, Tryz.ntmps101
        go_wp2
        go_ret2
        refine ⟨_, _, rfl, rfl, ?_, by omega⟩
        rw [H0.out]
        exact Ri.nil _ _ _
  · obtain ⟨g, o, rfl, -⟩ := HR.out.at (i := 0) (by omega)
    clear hno
    have hcap : c' ≠ K := by omega
    go_enter Tryz.func101, Tryz.ntmps101
    go_wp2
    go_ret2
    refine ⟨_, _, rfl, rfl, ?_, by omega, by omega⟩
    rw [HZ.out]
    exact (HR.out.drop rfl).take n
theorem AInF_any (A : Option Addr) (c : Nat) (ls : List (List Int)) (s a n : Int) (w : World) (hs : Sg w A ls) (hm : ls.length ≤ 140737488355328)
    (hs0 : -9223372036854775808 ≤ s) (hs1 : s ≤ 9223372036854775807) (ha0 : -9223372036854775808 ≤ a) (ha1 : a ≤ 9223372036854775807) (hn0 : -9223372036854775808 ≤ n) (hn1 : n ≤ 9223372036854775807) :
    Calls Tryz.prog 114 #[.slice A ls.length c, .int .i64 s, .int .i64 a, .int .i64 n] w fun e w' => e = .returned (.bool (inB ls s a n)) ∧ w = w' := by
  cases hi : inB ls s a n with
  | true =>
    obtain ⟨S, K, N, rfl, rfl, rfl, hS, hK⟩ := inB_nat hi
    have HI := Lib.hid (AWithin_yes A c ls S K N w hs hm hS hK hi)
    clear hs hi
    go_enter Tryz.func114, Tryz.ntmps114
    go_wp2_with fail
    refine HI.out.mono ?_
    rintro e w' ⟨A', c', rfl, rfl, -, -, -⟩
    go_wp2
    go_ret
    exact ⟨rfl, rfl⟩
  | false =>
    have HI := Lib.hid (AWithin_no A c ls s a n w hs hm hs0 hs1 ha0 ha1 hn0 hn1 hi)
    clear hs hi
    go_enter Tryz.func114, Tryz.ntmps114
    go_wp2_with fail
    refine HI.out.mono ?_
    rintro e w' ⟨rfl, rfl⟩
    go_wp2
    go_ret
    exact ⟨rfl, rfl⟩

theorem hasB_inB (ls : List (List Int)) (s a : Int) : hasB ls s a = inB ls s a 1 := by
  unfold hasB inB
  rw [decide_eq_decide]
  constructor <;> intro h <;> omega

theorem AWordF_any (A : Option Addr) (c : Nat) (ls : List (List Int)) (s a : Int) (w : World) (hs : Sg w A ls) (hm : ls.length ≤ 140737488355328)
    (hs0 : -9223372036854775808 ≤ s) (hs1 : s ≤ 9223372036854775807) (ha0 : -9223372036854775808 ≤ a) (ha1 : a ≤ 9223372036854775807) :
    Calls Tryz.prog 95 #[.slice A ls.length c, .int .i64 s, .int .i64 a] w fun e w' => e = .returned (.tuple #[.int .u64 (wordV ls s a), .bool (hasB ls s a)]) ∧ w = w' := by
  cases hi : inB ls s a 1 with
  | true =>
    have hB : hasB ls s a = true := (hasB_inB ls s a).trans hi
    obtain ⟨S, K, N, rfl, rfl, h1, hS, hK⟩ := inB_nat hi
    obtain rfl : N = 1 := by omega
    have HI := Lib.hid (AWithin_yes A c ls S K 1 w hs hm hS hK hi)
    have HV : Hid (wordV ls S K = zat (sliceL ls S K (1 : Nat)) 0) := Lib.hid (by
      unfold wordV sliceL
      rw [if_pos hB, Int.toNat_natCast, Int.toNat_natCast, Int.toNat_natCast, zat_take _ _ _ (by omega), zat_drop]
      rfl)
    have HL : Hid ((sliceL ls S K (1 : Nat)).length = 1) := Lib.hid (by have h := sliceL_length hi; exact Int.ofNat.inj h)
    have HB := Lib.hid hB
    clear hs hi hB h1
    generalize wordV ls S K = x at *
    go_enter Tryz.func95, Tryz.ntmps95
    go_wp2_with fail
    refine HI.out.mono ?_
    rintro e w' ⟨A', c', rfl, rfl, hri, h2, h3⟩
    obtain ⟨g, o, rfl, hw⟩ := hri.at (i := 0) (by rw [HL.out]; omega)
    have hword := hw 0 (by rw [HL.out]; omega)
    rw [← HV.out, Nat.add_zero] at hword
    clear hw hri
    go_wp2
    go_ret2
    exact ⟨by rw [HB.out]; rfl, rfl⟩
  | false =>
    have hB : hasB ls s a = false := (hasB_inB ls s a).trans hi
    have HV : Hid (wordV ls s a = 0) := Lib.hid (by unfold wordV; rw [if_neg (by rw [hB]; exact Bool.false_ne_true)])
    have HB := Lib.hid hB
    have HI := Lib.hid (AWithin_no A c ls s a 1 w hs hm hs0 hs1 ha0 ha1 (by omega) (by omega) hi)
    clear hs hi hB
    go_enter Tryz.func95, Tryz.ntmps95
    go_wp2_with fail
    refine HI.out.mono ?_
    rintro e w' ⟨rfl, rfl⟩
    go_wp2
    go_ret2
    exact ⟨by rw [HV.out, HB.out]; rfl, rfl⟩

set_option maxRecDepth 100000 in
theorem ASlice_any (A : Option Addr) (c : Nat) (ls : List (List Int)) (s a n : Int) (w : World) (hs : Sg w A ls) (hm : ls.length ≤ 140737488355328) (hf : Fits ls)
    (hs0 : -9223372036854775808 ≤ s) (hs1 : s ≤ 9223372036854775807) (ha0 : -9223372036854775808 ≤ a) (ha1 : a ≤ 9223372036854775807) (hn0 : -9223372036854775808 ≤ n) (hn1 : n ≤ 9223372036854775807) :
    Calls Tryz.prog 89 #[.slice A ls.length c, .int .i64 s, .int .i64 a, .int .i64 n] w fun e w' => ∃ v, e = .returned (.tuple #[v, .bool (inB ls s a n)]) ∧ Got w' w.heap.size 41 .u64 v (sliceX ls s a n) ∧ Below w.heap.size w w' := by
  cases hi : inB ls s a n with
  | true =>
    obtain ⟨S, K, N, rfl, rfl, rfl, hS, hK⟩ := inB_nat hi
    obtain ⟨i0, hi0, hz0, hz1, hz2⟩ := info_parts int64_info
    have hN := hf S
    have HI := Lib.hid (AWithin_yes A c ls S K N w hs hm hS hK hi)
    have HX : Hid (sliceX ls S K N = sliceL ls S K N) := Lib.hid (by unfold sliceX; rw [if_pos hi])
    have HL : Hid ((sliceL ls S K N).length = N) := Lib.hid (by have := sliceL_length hi; omega)
    clear hs hi hf
    generalize sliceL ls S K N = xs at *
    go_enter Tryz.func89, Tryz.ntmps89
    go_wp2_with fail
    refine HI.out.mono ?_
    rintro e w' ⟨A', c', rfl, rfl, hri, h2, h3⟩
    have HR := Lib.hid hri
    clear hri
    go_wp2_with (first
      | (at_make; refine wpList_make_full _ rfl _ _ 46 rfl w.heap.size 41 i0 (.int .u64 0) 1 Tryz.underlying46 hi0 hz0 hz1 .i64 .i64 _ _ N rfl rfl (by omega) (by omega) (by rw [hz2]; omega) (by unfold maxLen; omega) (Nat.le_refl _) ?_; intro w0 hown0 hgrow0
         have hb0 : Below w.heap.size w w0 := (Below.refl _ _).grown hgrow0 (Nat.le_refl _) (by simp)
         have HBK := Lib.hid (got_block (got_made hown0) (List.length_replicate ..))
         have HRC := Lib.hid (HR.out.below hb0 (Nat.le_refl _))
         have HB0 := Lib.hid hb0
         clear hown0 hgrow0 hb0)
      | (refine wpList_copy_splice rfl (.tmp 26) (.tmp 27) 46 46 rfl 41 rfl rfl _ _ _ _ _ _ rfl rfl w.heap.size 0 _ _ HBK.out (xs.map (Value.int .u64)) (by rw [List.length_map, HL.out]; exact (Nat.min_self N).symm) (copy_src HRC.out rfl) (by rw [List.length_map, List.length_map, List.length_replicate, HL.out]; omega) (one_cells _ _) w.heap.size w HB0.out (Nat.le_refl _) ?_; intro w2 HG2 hB2))
    go_ret2
    refine ⟨_, rfl, ?_, hB2⟩
    rw [HX.out]
    refine (got_of_block (n := N) ?_ (Nat.le_refl _) HL.out (by unfold maxLen; omega))
    have h := HG2.out
    rw [splice_whole (by rw [List.length_map, List.length_map, List.length_replicate, HL.out])] at h
    exact h
  | false =>
    have HI := Lib.hid (AWithin_no A c ls s a n w hs hm hs0 hs1 ha0 ha1 hn0 hn1 hi)
    have HX : Hid (sliceX ls s a n = []) := Lib.hid (by unfold sliceX; rw [if_neg (by rw [hi]; exact Bool.false_ne_true)])
    clear hs hi hf
    go_enter Tryz.func89, Tryz.ntmps89
    go_wp2_with fail
    refine HI.out.mono ?_
    rintro e w' ⟨rfl, rfl⟩
    go_wp2
    go_ret2
    exact ⟨_, rfl, by rw [HX.out]; exact Got.empty _ _ _ _, Below.refl _ _⟩

end Go.Proofs.YtnmanhediiooaaaGreatDoor
