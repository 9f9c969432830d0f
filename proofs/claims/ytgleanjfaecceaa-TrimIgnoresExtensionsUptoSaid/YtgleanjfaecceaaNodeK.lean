/- Rows of the call's own of nodes that came in: 'append([]Node{}, a...)' as an operation that makes memory, and one node more. -/
import Derived.Test.YtgleanjfaecceaaNodeZ
namespace Go.Proofs.Ytgleanjfaecceaa
open Go.ChangeShapes Go.WideShapes Go.ChangeAt Go.RowKit
set_option linter.unusedVariables false
set_option linter.unusedSimpArgs false

/-- append onto an empty row of the call's own that has no room: what is there stays -/
theorem exec_appK0 {o : Oper} {ρ : Operand → Value} {w W0 : World} (s x : Operand) (t : TypeId) (ho : o.op = .call { callee := .builtin .append, args := #[s, x], argTypes := #[t, t] }) (ht : Try.prog.underlying t = some (.slice 25))
    {base q0 : Nat} {ys : List Nd} {B' : Option Addr} {c' : Nat} (hs : ρ s = .slice (some ⟨q0, 0, none⟩) 0 0) (hq : w.heap[q0]? = some (.cells #[] 25 (0, 0))) (hb : base ≤ q0) (hx : ρ x = .slice B' ys.length c') (hk : KsR W0 B' ys) (hnil : B' = none → c' = 0) (hle : ys.length ≤ c')
    {N0 : Nat} (hW : W0.heap.size ≤ N0) (hbW : Below N0 W0 w) (hn : ys.length ≤ 1099511627776) :
    ∃ v' w', (execOp ρ o).run Try.prog w = .ok (.value v') w' ∧ OwnK W0 w' base v' ys ∧ Below w.heap.size w w' := by
  obtain ⟨i, hi, hz0, hz1, hz2⟩ := info_parts node_info
  have hown : w.ownsRow base 25 5 (.slice (some ⟨q0, 0, none⟩) 0 0) 0 [] := ⟨rfl, .inr ⟨q0, 0, #[], rfl, hb, hq, by omega, by unfold maxLen; omega, rfl, rfl⟩⟩
  have fin : ∀ {v' w'}, (Builtin.append_ #[t, t] o.type #[.slice (some ⟨q0, 0, none⟩) 0 0, .slice B' ys.length c']).run Try.prog w = .ok v' w' → (execOp ρ o).run Try.prog w = .ok (.value v') w' := by
    intro v' w' hr
    unfold execOp
    simp only [ho, resolve, invoke, builtin, Sem.run_bind, Sem.run_pure, Result.andThen_ok, List.map_toArray, List.map_cons, List.map_nil, hs, hx, hr]
  cases B' with
  | none =>
    have hc := hnil rfl
    subst hc
    obtain rfl : ys = [] := List.eq_nil_of_length_eq_zero (by omega)
    have hr := run_append_owned_none (P := Try.prog) (w := w) base t o.type _ i 5 ht hi _ 0 [] hown
    exact ⟨_, _, fin hr, ⟨[], hown, fun j hj => by simp at hj⟩, Below.refl _ _⟩
  | some ad =>
    by_cases h0 : ys = []
    · subst h0
      have hr := run_append_room (P := Try.prog) w t o.type _ i ht hi q0 0 0 #[] hq ad 0 c' [] (by simp) (fun j u hj => by simp at hj) (fun u hu => by cases hu) (by omega) (by simp)
      simp only [List.take_nil, List.drop_nil, List.append_nil, Nat.add_zero] at hr
      refine ⟨_, _, fin hr, ⟨[], ⟨rfl, .inr ⟨q0, 0, #[], rfl, hb, setRow_heap w q0 #[] #[] _ _ hq, by simp, by unfold maxLen; omega, rfl, rfl⟩⟩, fun j hj => by simp at hj⟩, rfl, rfl, rfl, by simp, fun k hk2 => ?_⟩
      by_cases e : k = q0
      · subst e
        rw [setRow_heap w k #[] #[] _ _ hq, hq]
      · exact setRow_other w q0 k _ e
    · have hpos : 0 < ys.length := List.length_pos_iff.2 h0
      -- the cells of the nodes
      have hcell : ∃ b off, ad = ⟨b, off, none⟩ ∧ ∀ j (hj : j < ys.length), ∃ A' c' B' c2', NdR W0 A' c' B' c2' (ys[j]) ∧ ∀ o, o < 5 → w.cell? ⟨b, off + (j * 5 + o), none⟩ = (fiveC (ys[j]) A' c' B' c2')[o]? := by
        rcases hk with hk0 | ⟨b, off, hB, hk1⟩
        · exact absurd hk0 h0
        · injection hB with hB
          subst hB
          refine ⟨b, off, rfl, fun j hj => ?_⟩
          have hk2 : KsR W0 (some ⟨b, off, none⟩) ys := .inr ⟨b, off, rfl, hk1⟩
          obtain ⟨A', c', B', c2', g1, g2⟩ := hk2.cells (o := 0) hj (by omega)
          refine ⟨A', c', B', c2', g1, fun o ho => ?_⟩
          have hsome : W0.cell? ⟨b, off + (j * 5 + 0), none⟩ = some (.int .i64 (ys[j]).k) := g2 0 (by omega)
          have hlt : b < W0.heap.size := World.block_lt_of_cell? W0 ⟨b, off + (j * 5 + 0), none⟩ hsome
          exact (hbW.cell (p := ⟨b, off + (j * 5 + o), none⟩) (by show b < N0; omega)).trans (g2 o ho)
      obtain ⟨b, off, rfl, hcell⟩ := hcell
      have hget : ∀ q, q < ys.length * 5 → ∃ u, w.cell? ⟨b, off + q, none⟩ = some u := by
        intro q hq
        obtain ⟨A', c', B', c2', _, g2⟩ := hcell (q / 5) (by omega)
        have e : q / 5 * 5 + q % 5 = q := by omega
        have g3 := g2 (q % 5) (by omega)
        rw [e] at g3
        have hl5 : q % 5 < (fiveC (ys[q / 5]) A' c' B' c2').length := by unfold fiveC; simp; omega
        rw [List.getElem?_eq_getElem hl5] at g3
        exact ⟨_, g3⟩
      obtain ⟨news, n1, n2, n3⟩ : ∃ news : List Value, news.length = ys.length * 5 ∧ (∀ q u, news[q]? = some u → w.cell? ((⟨b, off, none⟩ : Addr).add q) = some u) ∧ (∀ q, q < ys.length * 5 → news[q]? = w.cell? ⟨b, off + q, none⟩) := by
        refine ⟨(List.range (ys.length * 5)).map (fun q => (w.cell? ⟨b, off + q, none⟩).getD undef), by simp, fun q u hq2 => ?_, fun q hq2 => ?_⟩
        · have hql : q < ys.length * 5 := by
            rcases Nat.lt_or_ge q (ys.length * 5) with h1 | h1
            · exact h1
            · rw [List.getElem?_eq_none (by simpa using h1)] at hq2; cases hq2
          obtain ⟨u', hu'⟩ := hget q hql
          rw [add_plain, hu']
          simp [hql, hu'] at hq2
          rw [hq2]
        · obtain ⟨u', hu'⟩ := hget q hq2
          simp [hq2, hu']
      have hr := run_append_grow (P := Try.prog) w t o.type _ i _ ht hi hz0 ⟨q0, 0, none⟩ 0 0 [] (by simp) (fun j v hj => by simp at hj) ⟨b, off, none⟩ ys.length c' news (by rw [hz1]; exact n1) n2 (by omega) (by omega) (growslice_fits (by omega) (by rw [hz2]; omega))
      obtain ⟨v2, w2, hr2, k2, k3, -⟩ := run_append_own (P := Try.prog) w base t o.type 25 i _ 5 72 ht hi hz0 hz1 hz2 rfl (by decide) _ 0 [] hown ⟨b, off, none⟩ ys.length c' news n1 n2 (by
        intro u hu
        obtain ⟨q, hq2, rfl⟩ := List.getElem_of_mem hu
        have hql : q < ys.length * 5 := by omega
        have e3 := n3 q hql
        rw [List.getElem?_eq_getElem hq2] at e3
        obtain ⟨A', c', B', c2', _, g2⟩ := hcell (q / 5) (by omega)
        have g3 := g2 (q % 5) (by omega)
        rw [show q / 5 * 5 + q % 5 = q by omega, ← e3] at g3
        exact fiveC_one _ _ _ _ _ _ (List.mem_of_getElem? g3.symm)) (by unfold maxLen; omega) (by omega) (Nat.le_of_lt (Nat.lt_of_le_of_lt hb (Array.getElem?_eq_some_iff.1 hq).1))
      rw [hr] at hr2
      injection hr2 with e1 e2
      subst e1
      subst e2
      refine ⟨_, _, fin hr, ⟨[] ++ news, by rw [Nat.zero_add] at k2; simpa using k2, fun j hj => ?_⟩, rfl, rfl, rfl, by simp, fun k hk2 => by rw [Below.heap_alloc _ _ _ (by simpa using hk2)]; rfl⟩
      obtain ⟨A', c', B', c2', g1, g2⟩ := hcell j hj
      refine ⟨A', c', B', c2', g1, fun o ho2 => ?_⟩
      rw [List.nil_append, n3 _ (by omega), g2 o ho2]

/-- one node more (its row stands in a block of its own; what it refers to came in) -/
theorem wpList_appK1 {ops : Array Oper} {rest : List Oper} {o : Oper} {a : Act} {Q : Exit → Act → World → Prop} {w W0 : World} (hgd : o.guard = none) (s x : Operand) (t : TypeId)
    (ho : o.op = .call { callee := .builtin .append, args := #[s, x], argTypes := #[t, t] }) (ht : Try.prog.underlying t = some (.slice 25))
    {base : Nat} {v : Value} {ts : List Nd} (hs : a.eval s = v) (hown : OwnK W0 w base v ts) {q : Nat} (hx : a.eval x = .slice (some ⟨q, 0, none⟩) 1 1) {y : Nd} {A' : Option Addr} {c' : Nat} {B' : Option Addr} {c2' : Nat}
    (hq : ∀ o, o < 5 → w.cell? ⟨q, o, none⟩ = (fiveC y A' c' B' c2')[o]?) (hy : NdR W0 A' c' B' c2' y) (hn : ts.length + 1 ≤ 1099511627776) (hbase : base ≤ w.heap.size)
    (h : ∀ v' w', OwnK W0 w' base v' (ts ++ [y]) → w.grownBy w' v.ownBlock → wpList Try.prog ops Q rest (a.put o.dst v') w') : wpList Try.prog ops Q (o :: rest) a w := by
  obtain ⟨i, hi', hz0, hz1, hz2⟩ := info_parts node_info
  obtain ⟨vs, h1, h2⟩ := hown
  have hlv : vs.length = ts.length * 5 := h1.1
  have hl5 : (fiveC y A' c' B' c2').length = 1 * 5 := rfl
  have hnews : ∀ j u, (fiveC y A' c' B' c2')[j]? = some u → w.cell? ((⟨q, 0, none⟩ : Addr).add j) = some u := by
    intro j u hu
    have hj : j < 5 := by
      rcases Nat.lt_or_ge j 5 with h0 | h0
      · exact h0
      · rw [List.getElem?_eq_none (by rw [hl5]; omega)] at hu; cases hu
    rw [add_plain, Nat.zero_add, hq j hj, hu]
  refine wpList_append_own _ hgd s x t ho base _ i _ 5 72 ht hi' hz0 hz1 hz2 rfl (by decide) v ts.length vs hs h1 ⟨q, 0, none⟩ 1 1 _ hx hl5 hnews (fiveC_one _ _ _ _ _) (by unfold maxLen; omega) (by omega) hbase ?_
  intro v' w' k1 k2 _
  refine h v' w' ⟨vs ++ fiveC y A' c' B' c2', by rw [List.length_append]; exact k1, fun j hj => ?_⟩ k2
  by_cases hjl : j < ts.length
  · obtain ⟨A1, c1, B1, c3, g4, g5⟩ := h2 j hjl
    rw [show (ts ++ [y])[j] = ts[j] from List.getElem_append_left hjl]
    exact ⟨A1, c1, B1, c3, g4, fun o ho => by rw [List.getElem?_append_left (by omega)]; exact g5 o ho⟩
  · rw [List.length_append] at hj
    simp only [List.length_cons, List.length_nil] at hj
    obtain rfl : j = ts.length := by omega
    have e : (ts ++ [y])[ts.length]'(by simp) = y := by simp
    rw [e]
    refine ⟨A', c', B', c2', hy, fun o ho => ?_⟩
    rw [List.getElem?_append_right (by omega), hlv]
    congr 1
    omega

theorem OwnK.below {W0 w w' : World} {base : Nat} {v : Value} {ts : List Nd} (h : OwnK W0 w base v ts) {N : Nat} (hb : Below N w w') (hN : w.heap.size ≤ N) : OwnK W0 w' base v ts := by
  obtain ⟨vs, h1, h2⟩ := h
  exact ⟨vs, ownsRow_below h1 hb hN, h2⟩
theorem OwnK.far {W0 w : World} {base : Nat} {v : Value} {ts : List Nd} (h : OwnK W0 w base v ts) {p : Addr} (hp : p.block < base) (u : Value) : OwnK W0 (w.setCell p u) base v ts := by
  obtain ⟨vs, h1, h2⟩ := h
  exact ⟨vs, ownsRow_setCell_below h1 hp u, h2⟩
def OwnKF (W0 : World) (base : Nat) (ts : List Nd) : Fact := fun v w => OwnK W0 w base v ts
theorem stable_ownKF (W0 : World) (base : Nat) (ts : List Nd) : stable (OwnKF W0 base ts) := fun v w w' h hb => h.below hb (Nat.le_refl _)
/-- v is a new empty row of nodes -/
def EmpF (base : Nat) : Fact := fun v w => ∃ q, v = .slice (some ⟨q, 0, none⟩) 0 0 ∧ base ≤ q ∧ w.heap[q]? = some (.cells #[] 25 (0, 0))
theorem stable_empF (base : Nat) : stable (EmpF base) := by
  rintro v w w' ⟨q, e, h1, h2⟩ hb
  exact ⟨q, e, h1, by rw [hb.block q (Array.getElem?_eq_some_iff.1 h2).1]; exact h2⟩
/-- v is a new row of the one node x at these places -/
def CelF (x : Nd) (A : Option Addr) (c : Nat) (B : Option Addr) (c2 : Nat) : Fact := fun v w => ∃ q, v = .slice (some ⟨q, 0, none⟩) 1 1 ∧ ∀ o, o < 5 → w.cell? ⟨q, o, none⟩ = (fiveC x A c B c2)[o]?
theorem stable_celF (x : Nd) (A : Option Addr) (c : Nat) (B : Option Addr) (c2 : Nat) : stable (CelF x A c B c2) := by
  rintro v w w' ⟨q, e, h1⟩ hb
  refine ⟨q, e, fun o ho => ?_⟩
  have hq : q < w.heap.size := World.block_lt_of_cell? w ⟨q, 0, none⟩ (h1 0 (by decide))
  rw [hb.cell (p := ⟨q, o, none⟩) hq]
  exact h1 o ho
end Go.Proofs.Ytgleanjfaecceaa
