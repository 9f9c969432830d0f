/- The texts NodeO, Ref11 (what is wanted of them), one after the other. -/
import Derived.Test.YtfigoblpkbpenaaDoorMg1
import Derived.Test.YtfigoblpkbpenaaDoorMg2
import Derived.Test.YtfigoblpkbpenaaDoorMg3
import Derived.Test.YtfigoblpkbpenaaDoorMg4
import Derived.Test.YtfigoblpkbpenaaDoorMg5
import Derived.Test.YtfigoblpkbpenaaDoorMg6
import Derived.Test.YtfigoblpkbpenaaDoorMg9
import Derived.Test.YtfigoblpkbpenaaDoorMg10
import Derived.Test.YtfigoblpkbpenaaDoorMg12
/- Nodes of the call's own: a node that lies in a range of blocks, and a row of such nodes. -/
namespace Go.Proofs.YtfigoblpkbpenaaDoor
open Go.ChangeShapes Go.WideShapes Go.ChangeAt Go.RowKit
set_option linter.unusedVariables false
set_option linter.unusedSimpArgs false
set_option maxRecDepth 100000

/-- the node lies there in each world that agrees with w on the blocks from lo on, below hi -/
def NdO (lo hi : Nat) (w : World) (A : Option Addr) (c : Nat) (B : Option Addr) (c2 : Nat) (x : Nd) : Prop := ∀ W : World, (∀ k, lo ≤ k → k < hi → W.heap[k]? = w.heap[k]?) → NdR W A c B c2 x
theorem NdO.nd {lo hi : Nat} {w : World} {A : Option Addr} {c : Nat} {B : Option Addr} {c2 : Nat} {x : Nd} (h : NdO lo hi w A c B c2 x) : NdR w A c B c2 x := h w (fun _ _ _ => rfl)
theorem NdO.to {lo hi : Nat} {w w' : World} {A : Option Addr} {c : Nat} {B : Option Addr} {c2 : Nat} {x : Nd} (h : NdO lo hi w A c B c2 x) (hw : ∀ k, lo ≤ k → k < hi → w'.heap[k]? = w.heap[k]?) : NdO lo hi w' A c B c2 x :=
  fun W hW => h W fun k h1 h2 => (hW k h1 h2).trans (hw k h1 h2)
theorem NdO.wide {lo hi lo' hi' : Nat} {w : World} {A : Option Addr} {c : Nat} {B : Option Addr} {c2 : Nat} {x : Nd} (h : NdO lo hi w A c B c2 x) (h1 : lo' ≤ lo) (h2 : hi ≤ hi') : NdO lo' hi' w A c B c2 x :=
  fun W hW => h W fun k k1 k2 => hW k (by omega) (by omega)
theorem NdO.below {lo hi : Nat} {w w' : World} {A : Option Addr} {c : Nat} {B : Option Addr} {c2 : Nat} {x : Nd} (h : NdO lo hi w A c B c2 x) {N : Nat} (hb : Below N w w') (hN : hi ≤ N) : NdO lo hi w' A c B c2 x := h.to fun k _ h2 => hb.block k (by omega)

/-- v is a row of nodes of the call's own: it and what its nodes refer to lie at base or behind, apart from each other -/
def OwnN (base : Nat) (w : World) (v : Value) (ts : List Nd) : Prop :=
  ∃ vs, w.ownsRow base 25 5 v ts.length vs ∧ ∀ j (hj : j < ts.length), ∃ A' c' B' c2' lo hi, base ≤ lo ∧ hi ≤ w.heap.size ∧ (∀ g, v.ownBlock = some g → g < lo ∨ hi ≤ g) ∧ NdO lo hi w A' c' B' c2' (ts[j]) ∧
    ∀ o, o < 5 → vs[j * 5 + o]? = (fiveC (ts[j]) A' c' B' c2')[o]?
theorem OwnN.empty (base : Nat) (w : World) : OwnN base w (.slice none 0 0) [] := ⟨[], World.ownsRow_nil w base _ 5, fun j hj => by simp at hj⟩
theorem ownsRow_below {w w' : World} {base : Nat} {E : TypeId} {sz n : Nat} {v : Value} {vs : List Value} (h : w.ownsRow base E sz v n vs) {N : Nat} (hb : Below N w w') (hN : w.heap.size ≤ N) : w'.ownsRow base E sz v n vs := by
  have hlt := h.lt
  refine ⟨h.1, ?_⟩
  rcases h.2 with h2 | ⟨g, cap, cur, hv, hg, hh, r⟩
  · exact .inl h2
  · refine .inr ⟨g, cap, cur, hv, hg, ?_, r⟩
    have := (hlt g (by rw [hv]; rfl)).2
    rw [hb.block g (by omega)]
    exact hh
theorem OwnN.below {base : Nat} {w w' : World} {v : Value} {ts : List Nd} (h : OwnN base w v ts) {N : Nat} (hb : Below N w w') (hN : w.heap.size ≤ N) : OwnN base w' v ts := by
  obtain ⟨vs, h1, h2⟩ := h
  refine ⟨vs, ownsRow_below h1 hb hN, fun j hj => ?_⟩
  obtain ⟨A', c', B', c2', lo, hi, k1, k2, k3, k4, k5⟩ := h2 j hj
  exact ⟨A', c', B', c2', lo, hi, k1, Nat.le_trans k2 hb.size, k3, k4.below hb (by omega), k5⟩
/-- the row and its nodes, as they lie there -/
theorem OwnN.slice {base : Nat} {w : World} {v : Value} {ts : List Nd} (h : OwnN base w v ts) : ∃ B c, v = .slice B ts.length c ∧ ts.length ≤ c ∧ c ≤ maxLen ∧ (B = none → c = 0) := by
  obtain ⟨vs, h1, h2⟩ := h
  rcases h1.2 with ⟨rfl, hn⟩ | ⟨g, cap, cur, rfl, hg, hh, hc, hm, hcs, htk⟩
  · exact ⟨none, 0, by rw [hn], by omega, by omega, fun _ => rfl⟩
  · exact ⟨some ⟨g, 0, none⟩, cap, rfl, hc, hm, fun h => by cases h⟩
/-- a node whose kids are such a row -/
theorem OwnN.node {base : Nat} {w : World} {B : Option Addr} {n0 c2 : Nat} {ts : List Nd} (h : OwnN base w (.slice B n0 c2) ts) {k e n : Int} {d : List Int} {A : Option Addr} {c : Nat}
    (hk : -9223372036854775808 ≤ k ∧ k ≤ 9223372036854775807) (he : -9223372036854775808 ≤ e ∧ e ≤ 9223372036854775807) (hn : -9223372036854775808 ≤ n ∧ n ≤ 9223372036854775807)
    (hd : Got w base 5 .u8 (.slice A d.length c) d) (hby : Bts d) : NdO base w.heap.size w A c B c2 (.mk k e n d ts) := by
  intro W hW
  obtain ⟨A0, c0, he0, hc0, hm0, _⟩ := hd.slice
  injection he0 with e1 e2 e3
  subst e1
  subst e3
  obtain ⟨vs, h1, h2⟩ := h
  have hWO : W.ownsRow base 25 5 (.slice B n0 c2) ts.length vs := by
    refine ⟨h1.1, ?_⟩
    rcases h1.2 with h3 | ⟨g, cap, cur, hv, hg, hh, r⟩
    · exact .inl h3
    · exact .inr ⟨g, cap, cur, hv, hg, (hW g hg (Array.getElem?_eq_some_iff.1 hh).1).trans hh, r⟩
  have hdW : Got W base 5 .u8 (.slice A d.length c) d := by
    have hd0 := hd
    refine ⟨hd.1, ?_⟩
    rcases hd.2 with h3 | ⟨g, cap, cur, hv, hg, hh, r⟩
    · exact .inl h3
    · exact .inr ⟨g, cap, cur, hv, hg, (hW g hg (Array.getElem?_eq_some_iff.1 hh).1).trans hh, r⟩
  have hkid : ∀ j (hj : j < ts.length), ∃ A' c' B' c2', NdR W A' c' B' c2' (ts[j]) ∧ ∀ o, o < 5 → vs[j * 5 + o]? = (fiveC (ts[j]) A' c' B' c2')[o]? := by
    intro j hj
    obtain ⟨A', c', B', c2', lo, hi, k1, k2, k3, k4, k5⟩ := h2 j hj
    exact ⟨A', c', B', c2', k4 W fun q q1 q2 => hW q (by omega) (by omega), k5⟩
  have hAnil : A = none → c = 0 := by
    rintro rfl
    rcases hd.2 with ⟨h3, _⟩ | ⟨g, cap, cur, hv, _⟩
    · injection h3
    · injection hv with h4; cases h4
  have hBs : n0 = ts.length ∧ ts.length ≤ c2 ∧ c2 ≤ maxLen ∧ (B = none → c2 = 0) := by
    rcases h1.2 with ⟨hv, hn⟩ | ⟨g, cap, cur, hv, hg, hh, hc, hm, hcs, htk⟩
    · injection hv with e1 e2 e3
      subst e1; subst e2; subst e3
      exact ⟨by omega, by omega, by omega, fun _ => rfl⟩
    · injection hv with e1 e2 e3
      subst e1; subst e2; subst e3
      exact ⟨rfl, hc, hm, fun h => by cases h⟩
  obtain ⟨_, _, _, _, _, hri⟩ := hdW.slice
  have hriA : Ri W .u8 A d := by
    obtain ⟨A1, c1, he1, _, _, hr1⟩ := hdW.slice
    injection he1 with e1 e2 e3
    subst e1
    exact hr1
  refine .mk k e n d ts A c B c2 (fun j => if h : j < ts.length then Classical.choose (hkid j h) else none)
    (fun j => if h : j < ts.length then Classical.choose (Classical.choose_spec (hkid j h)) else 0)
    (fun j => if h : j < ts.length then Classical.choose (Classical.choose_spec (Classical.choose_spec (hkid j h))) else none)
    (fun j => if h : j < ts.length then Classical.choose (Classical.choose_spec (Classical.choose_spec (Classical.choose_spec (hkid j h)))) else 0)
    hk he hn hriA hby hc0 hm0 hAnil hBs.2.1 hBs.2.2.1 hBs.2.2.2 ?_ ?_
  · by_cases hne : ts = []
    · exact .inl hne
    · right
      have hpos : 0 < ts.length := List.length_pos_iff.2 hne
      rcases hWO.2 with ⟨_, hn⟩ | ⟨g, cap, cur, hv, hg, hh, _⟩
      · omega
      · injection hv with e1 e2 e3
        subst e1
        subst e2
        subst e3
        refine ⟨g, 0, rfl, fun j x hj => ?_⟩
        have hjl : j < ts.length := (List.getElem?_eq_some_iff.1 hj).1
        obtain rfl : ts[j] = x := (List.getElem?_eq_some_iff.1 hj).2
        have hspec := Classical.choose_spec (Classical.choose_spec (Classical.choose_spec (Classical.choose_spec (hkid j hjl))))
        have hcell := fun o (ho : o < 5) => (World.ownsRow.cellAt (g := g) (cap := c2) hWO (j * 5 + o) (by omega)).trans (hspec.2 o ho)
        simp only [dif_pos hjl]
        refine ⟨?_, ?_, ?_, ?_, ?_⟩
        · have := hcell 0 (by omega); rw [Nat.zero_add]; exact this
        · have := hcell 1 (by omega); rw [Nat.zero_add]; exact this
        · have := hcell 2 (by omega); rw [Nat.zero_add]; exact this
        · have := hcell 3 (by omega); rw [Nat.zero_add]; simpa [fiveC] using this
        · have := hcell 4 (by omega); rw [Nat.zero_add]; simpa [fiveC] using this
  · intro j x hj
    have hjl : j < ts.length := (List.getElem?_eq_some_iff.1 hj).1
    obtain rfl : ts[j] = x := (List.getElem?_eq_some_iff.1 hj).2
    have hspec := Classical.choose_spec (Classical.choose_spec (Classical.choose_spec (Classical.choose_spec (hkid j hjl))))
    simp only [dif_pos hjl]
    exact hspec.1

/-! ## A node more in such a row -/
/-- where append puts a row: it stays, or it is new -/
theorem append_block {P : Program} {w : World} {base : Nat} {t ty e : TypeId} {i : TypeInfo} {z : Value} (ht : P.underlying t = some (.slice e)) (hi : P.info? e = some i) (hz : i.zero = some z)
    {v : Value} {n : Nat} {xs : List Value} (hown : w.ownsRow base e i.size v n xs) {a : Addr} {m c : Nat} {news : List Value} (hl : news.length = m * i.size) (hnews : ∀ j u, news[j]? = some u → w.cell? (a.add j) = some u)
    (h1 : ∀ u ∈ news, u.oneCell' = true) (hm : 0 < m) (h63 : n + m ≤ maxLen) (hbytes : (n + m) * i.bytes ≤ 140737488355328) {v' : Value} {w' : World}
    (hr : (Builtin.append_ #[t, t] ty #[v, .slice (some a) m c]).run P w = .ok v' w') : v'.ownBlock = v.ownBlock ∨ v'.ownBlock = some w.heap.size := by
  have hsmall : n + m ≤ 9223372036854775807 := by unfold maxLen at h63; omega
  rcases hown.2 with ⟨rfl, rfl⟩ | ⟨g, cap, cur, rfl, hbg, hg, hnc, hcm, hcs, htake⟩
  · rw [Nat.zero_add] at hbytes hsmall
    rw [run_append_nil (P := P) w t ty e i z ht hi hz a m c news hl hnews hm (by omega) (by omega)] at hr
    injection hr with hv hw
    subst hv
    exact .inr rfl
  · by_cases hroom : n + m ≤ cap
    · have hfit : n * i.size + news.length ≤ cur.size := by rw [hl, hcs, ← Nat.add_mul]; exact Nat.mul_le_mul_right _ hroom
      rw [run_append_room (P := P) w t ty e i ht hi g n cap cur hg a m c news hl hnews h1 hroom hfit] at hr
      injection hr with hv hw
      subst hv
      exact .inl rfl
    · rw [run_append_grow (P := P) w t ty e i z ht hi hz ⟨g, 0, none⟩ n cap xs hown.1 (hown.cells (g := g) rfl) a m c news hl hnews (by omega) (by omega) (growslice_fits (by omega) hbytes)] at hr
      injection hr with hv hw
      subst hv
      exact .inr rfl

theorem wpList_appO {ops : Array Oper} {rest : List Oper} {o : Oper} {a : Act} {Q : Exit → Act → World → Prop} {w : World} (hgd : o.guard = none) (s x : Operand) (t : TypeId)
    (ho : o.op = .call { callee := .builtin .append, args := #[s, x], argTypes := #[t, t] }) (ht : Tryd.prog.underlying t = some (.slice 25))
    {base : Nat} {v : Value} {ts : List Nd} (hs : a.eval s = v) (hown : OwnN base w v ts) {q : Nat} (hx : a.eval x = .slice (some ⟨q, 0, none⟩) 1 1) {y : Nd} {A' : Option Addr} {c' : Nat} {B' : Option Addr} {c2' : Nat}
    (hq : ∀ o, o < 5 → w.cell? ⟨q, o, none⟩ = (fiveC y A' c' B' c2')[o]?) {lo hi : Nat} (hlo : base ≤ lo) (hhi : hi ≤ w.heap.size) (hne : ∀ g, v.ownBlock = some g → g < lo) (hy : NdO lo hi w A' c' B' c2' y)
    (hn : ts.length + 1 ≤ 1099511627776) (hbase : base ≤ w.heap.size)
    (h : ∀ v' w', OwnN base w' v' (ts ++ [y]) → w.grownBy w' v.ownBlock → wpList Tryd.prog ops Q rest (a.put o.dst v') w') : wpList Tryd.prog ops Q (o :: rest) a w := by
  obtain ⟨i, hi', hz0, hz1, hz2⟩ := info_parts node_info
  obtain ⟨vs, h1, h2⟩ := hown
  have hlv : vs.length = ts.length * 5 := h1.1
  have hl5 : (fiveC y A' c' B' c2').length = 1 * 5 := rfl
  have hnews : ∀ j u, (fiveC y A' c' B' c2')[j]? = some u → w.cell? ((⟨q, 0, none⟩ : Addr).add j) = some u := by
    intro j u hu
    have hj : j < 5 := by
      rcases Nat.lt_or_ge j 5 with h0 | h0
      · exact h0
      · rw [List.getElem?_eq_none (by rw [hl5]; omega)] at hu; cases hu
    rw [add_plain, Nat.zero_add, hq j hj, hu]
  refine wpList_plain hgd fun K hK => ?_
  obtain ⟨v', w', hr, k2, k3, -⟩ := run_append_own (P := Tryd.prog) w base t o.type 25 i _ 5 72 ht hi' hz0 hz1 hz2 rfl (by decide) v ts.length vs h1 ⟨q, 0, none⟩ 1 1 _ hl5 hnews (fiveC_one _ _ _ _ _) (by unfold maxLen; omega) (by omega) hbase
  have k5 := append_block ht hi' hz0 (by rw [hz1]; exact h1) (by rw [hz1]; exact hl5) hnews (fiveC_one _ _ _ _ _) (by decide) (by unfold maxLen; omega) (by rw [hz2]; omega) hr
  have hfin := hK _ _ (h v' w' ?_ k3)
  · unfold Oper.wp execOp
    simp only [ho, resolve, invoke, builtin, Sem.run_bind, Sem.run_pure, Result.andThen_ok, List.map_toArray, List.map_cons, List.map_nil, hs, hx, hr]
    exact hfin
  · refine ⟨vs ++ fiveC y A' c' B' c2', by rw [List.length_append]; exact k2, fun j hj => ?_⟩
    by_cases hjl : j < ts.length
    · obtain ⟨A1, c1, B1, c3, lo1, hi1, g1, g2, g3, g4, g5⟩ := h2 j hjl
      rw [show (ts ++ [y])[j] = ts[j] from List.getElem_append_left hjl]
      refine ⟨A1, c1, B1, c3, lo1, hi1, g1, Nat.le_trans g2 k3.size, fun g hg => ?_, g4.to fun k e1 e2 => k3.block k (by omega) fun e => ?_, fun o ho => by rw [List.getElem?_append_left (by omega)]; exact g5 o ho⟩
      · rcases k5 with k5 | k5
        · exact g3 g (by rw [← k5]; exact hg)
        · rw [k5] at hg; injection hg with hg; exact .inr (by omega)
      · have := g3 k e.symm
        omega
    · rw [List.length_append] at hj
      simp only [List.length_cons, List.length_nil] at hj
      obtain rfl : j = ts.length := by omega
      have e : (ts ++ [y])[ts.length]'(by simp) = y := by simp
      rw [e]
      refine ⟨A', c', B', c2', lo, hi, hlo, Nat.le_trans hhi k3.size, fun g hg => ?_, hy.to fun k e1 e2 => k3.block k (by omega) fun e => ?_, fun o ho => ?_⟩
      · rcases k5 with k5 | k5
        · rw [k5] at hg; exact .inl (hne g hg)
        · rw [k5] at hg; injection hg with hg; exact .inr (by omega)
      · have := hne k e.symm
        omega
      · rw [List.getElem?_append_right (by omega), hlv]
        congr 1
        omega

/-! ## What is known of a node that a call gave, and of a row of this one node -/
def NodF (lo : Nat) (x : Nd) : Fact := fun v w => ∃ A c B c2 hi, v = .agg #[.int .i64 x.k, .int .i64 x.e, .int .i64 x.n, .slice A x.d.length c, .slice B x.ks.length c2] ∧ hi ≤ w.heap.size ∧ NdO lo hi w A c B c2 x
theorem stable_nod (lo : Nat) (x : Nd) : stable (NodF lo x) := by
  rintro v w w' ⟨A, c, B, c2, hi, e, h1, h2⟩ hb
  exact ⟨A, c, B, c2, hi, e, Nat.le_trans h1 hb.size, h2.below hb h1⟩
def OneF (lo : Nat) (x : Nd) : Fact := fun v w => ∃ q A c B c2 hi, v = .slice (some ⟨q, 0, none⟩) 1 1 ∧ (∀ o, o < 5 → w.cell? ⟨q, o, none⟩ = (fiveC x A c B c2)[o]?) ∧ hi ≤ w.heap.size ∧ NdO lo hi w A c B c2 x
theorem stable_one (lo : Nat) (x : Nd) : stable (OneF lo x) := by
  rintro v w w' ⟨q, A, c, B, c2, hi, e, h0, h1, h2⟩ hb
  refine ⟨q, A, c, B, c2, hi, e, fun o ho => ?_, Nat.le_trans h1 hb.size, h2.below hb h1⟩
  have hq : q < w.heap.size := World.block_lt_of_cell? w ⟨q, 0, none⟩ (h0 0 (by decide))
  rw [hb.cell (p := ⟨q, o, none⟩) hq]
  exact h0 o ho
def OwnF (base : Nat) (ts : List Nd) : Fact := fun v w => OwnN base w v ts
theorem stable_ownF (base : Nat) (ts : List Nd) : stable (OwnF base ts) := fun v w w' h hb => h.below hb (Nat.le_refl _)
theorem Blk.keeps {W W' : World} {b : Nat} {cs : Array Value} (h : Blk W b cs) {S : Nat → Prop} (hk : Keeps S W W') (hS : ¬ S b) : Blk W' b cs := by
  have hb := hk.block b h.lt hS
  exact ⟨fun o => by rw [World.cell?_of_block (w := W) hb]; exact h.cell o, fun o => by rw [World.frozen?_of_block (w := W) hb]; exact h.free o, Nat.lt_of_lt_of_le h.lt hk.size⟩
theorem OwnN.mono {base base' : Nat} {w : World} {v : Value} {ts : List Nd} (h : OwnN base w v ts) (hb : base' ≤ base) : OwnN base' w v ts := by
  obtain ⟨vs, h1, h2⟩ := h
  refine ⟨vs, ⟨h1.1, ?_⟩, fun j hj => ?_⟩
  · rcases h1.2 with h3 | ⟨g, cap, cur, hv, hg, r⟩
    · exact .inl h3
    · exact .inr ⟨g, cap, cur, hv, by omega, r⟩
  · obtain ⟨A', c', B', c2', lo, hi, k1, k2⟩ := h2 j hj
    exact ⟨A', c', B', c2', lo, hi, by omega, k2⟩
/-- a store into another block -/
theorem OwnN.far {base : Nat} {w : World} {v : Value} {ts : List Nd} (h : OwnN base w v ts) {p : Addr} (hp : p.block < base) (u : Value) : OwnN base (w.setCell p u) v ts := by
  obtain ⟨vs, h1, h2⟩ := h
  refine ⟨vs, ownsRow_setCell_below h1 hp u, fun j hj => ?_⟩
  obtain ⟨A', c', B', c2', lo, hi, k1, k2, k3, k4, k5⟩ := h2 j hj
  exact ⟨A', c', B', c2', lo, hi, k1, by simpa using k2, k3, k4.to fun q q1 _ => Below.heap_setCell _ _ _ _ (by omega), k5⟩
theorem OwnN.cast {base : Nat} {w : World} {v : Value} {ts ts' : List Nd} (h : OwnN base w v ts) (e : ts = ts') : OwnN base w v ts' := e ▸ h
theorem got_agree {w w' : World} {base : Nat} {E : TypeId} {k : IntKind} {v : Value} {zs : List Int} (h : Got w base E k v zs) (hw : ∀ q, base ≤ q → q < w.heap.size → w'.heap[q]? = w.heap[q]?) : Got w' base E k v zs := by
  refine ⟨h.1, ?_⟩
  rcases h.2 with h3 | ⟨g, cap, cur, hv, hg, hh, r⟩
  · exact .inl h3
  · exact .inr ⟨g, cap, cur, hv, hg, (hw g hg (Array.getElem?_eq_some_iff.1 hh).1).trans hh, r⟩
end Go.Proofs.YtfigoblpkbpenaaDoor

/- What the reference functions of layer 11 do, each by a contract. -/
namespace Go.Proofs.YtfigoblpkbpenaaDoor
open Go.ChangeShapes Go.WideShapes Go.ChangeAt Go.RowKit
set_option linter.unusedVariables false
set_option linter.unusedSimpArgs false
set_option maxRecDepth 100000

set_option maxRecDepth 100000 in
theorem RefWords11_any (A : Option Addr) (c : Nat) (d : List Int) (w : World) (hr : Ri w .u8 A d) (hb : Bts d) (hm : d.length ≤ 1099511627776) :
    Calls Tryd.prog 26 #[.slice A d.length c] w fun r w' => r = .returned (.int .i64 (wordsT d)) ∧ w = w' := by
  have Hr := Lib.hid hr
  have Hb := Lib.hid hb
  have HW : Hid (wordsT d = wordsF d d.length) := Lib.hid rfl
  clear hr hb
  go_enter Tryd.func26, Tryd.ntmps26
  go_wp2
  go_loop [3, 4] (fun n i => ∃ k : Nat, k ≤ d.length ∧ i = .int .i64 k ∧ n = .int .i64 (wordsF d k)) (fun _ i => d.length - (intOf i).toNat)
  case atStart => exact ⟨0, by omega, rfl, rfl⟩
  case round =>
    obtain ⟨k, hk, rfl, rfl⟩ := hrel
    by_cases hlt : k < d.length
    · obtain ⟨g, off, rfl, hc⟩ := Hr.out.at hlt
      have hcell := hc k hlt
      have hz := Hb.out.at k
      have hlt2 : (k : Int) < (d.length : Int) := by omega
      have HS : Hid (wordsF d (k + 1) = if zat d k = 0 then wordsF d k else k / 8 + 1) := Lib.hid rfl
      clear hc
      generalize zat d k = z at *
      by_cases h0 : z = 0
      · subst h0
        go_wp2
        go_round
        case rel => exact ⟨k + 1, by omega, by go_num, by rw [HS.out, if_pos rfl]⟩
        case measure => simp [intOf]; omega
      · have hne : (z != 0) = true := by simpa using h0
        have HZ := Lib.hid h0
        clear h0
        go_wp2
        go_round
        case rel => exact ⟨k + 1, by omega, by go_num, by rw [HS.out, if_neg HZ.out]; go_num⟩
        case measure => simp [intOf]; omega
    · obtain rfl : k = d.length := by omega
      go_wp2
      go_ret
      exact ⟨by rw [HW.out]; rfl, rfl⟩

set_option maxRecDepth 100000 in
theorem RefPointers11_any (B : Option Addr) (c : Nat) (ks : List Nd) (w : World) (hr : KsR w B ks) (hm : ks.length ≤ 1099511627776) :
    Calls Tryd.prog 27 #[.slice B ks.length c] w fun r w' => r = .returned (.int .i64 (ptrsT ks)) ∧ w = w' := by
  have Hr := Lib.hid hr
  have HW : Hid (ptrsT ks = ptrsF ks ks.length) := Lib.hid rfl
  clear hr
  go_enter Tryd.func27, Tryd.ntmps27
  go_wp2
  go_loop [3, 4] (fun n i => ∃ k : Nat, k ≤ ks.length ∧ i = .int .i64 k ∧ n = .int .i64 (ptrsF ks k)) (fun _ i => ks.length - (intOf i).toNat)
  case atStart => exact ⟨0, by omega, rfl, rfl⟩
  case round =>
    obtain ⟨k, hk, rfl, rfl⟩ := hrel
    by_cases hlt : k < ks.length
    · obtain ⟨b, off, Aa, ca, Ba, cb, rfl, hcell, -⟩ := Hr.out.at hlt
      have hlt2 : (k : Int) < (ks.length : Int) := by omega
      have HS : Hid (ptrsF ks (k + 1) = if ks[k].k = 0 then ptrsF ks k else k + 1) := Lib.hid (by rw [← kAt_get hlt]; rfl)
      generalize ks[k].k = z at *
      by_cases h0 : z = 0
      · subst h0
        go_wp2
        go_round
        case rel => exact ⟨k + 1, by omega, by go_num, by rw [HS.out, if_pos rfl]⟩
        case measure => simp [intOf]; omega
      · have hne : (z != 0) = true := by simpa using h0
        have HZ := Lib.hid h0
        clear h0
        go_wp2
        go_round
        case rel => exact ⟨k + 1, by omega, by go_num, by rw [HS.out, if_neg HZ.out]; go_num⟩
        case measure => simp [intOf]; omega
    · obtain rfl : k = ks.length := by omega
      go_wp2
      go_ret
      exact ⟨by rw [HW.out]; rfl, rfl⟩

theorem dec1 (u v : Nat) : (decide ((u : Int) < (v : Int)) = true ∧ decide (u < v) = true ∧ (u : Int) < (v : Int) ∧ u < v ∧ max u v = v) ∨ (decide ((u : Int) < (v : Int)) = false ∧ decide (u < v) = false ∧ ¬ (u : Int) < (v : Int) ∧ ¬ u < v ∧ max u v = u) := by
  by_cases h : u < v
  · exact .inl ⟨decide_eq_true (by omega), decide_eq_true h, by omega, h, by omega⟩
  · exact .inr ⟨decide_eq_false (by omega), decide_eq_false h, by omega, h, by omega⟩
theorem dec8 (u v : Nat) : (decide ((u : Int) < (v : Int) / 8) = true ∧ (u : Int) < (v : Int) / 8 ∧ max u (v / 8) = v / 8) ∨ (decide ((u : Int) < (v : Int) / 8) = false ∧ ¬ (u : Int) < (v : Int) / 8 ∧ max u (v / 8) = u) := by
  by_cases h : u < v / 8
  · exact .inl ⟨decide_eq_true (by omega), by omega, by omega⟩
  · exact .inr ⟨decide_eq_false (by omega), by omega, by omega⟩

set_option maxHeartbeats 2000000 in
set_option maxRecDepth 100000 in
theorem RefUniform11_any (x : Nd) (A : Option Addr) (c : Nat) (B : Option Addr) (c2 : Nat) (w : World) (hx : NdR w A c B c2 x) (hs : sizeN x ≤ 1099511627776) :
    Calls Tryd.prog 43 #[.agg #[.int .i64 x.k, .int .i64 x.e, .int .i64 x.n, .slice A x.d.length c, .slice B x.ks.length c2]] w fun r w' => r = .returned (.tuple #[.int .i64 (uniD x.ks x.ks.length), .int .i64 (uniP x.ks x.ks.length)]) ∧ Below w.heap.size w w' := by
  obtain ⟨k, e, n, d, ks⟩ := x
  simp only [Nd.k, Nd.e, Nd.n, Nd.d, Nd.ks]
  have HX := Lib.hid hx
  have hso : sizeN (.mk k e n d ks) = 1 + d.length + sizeK ks := by simp only [sizeN]
  rw [hso] at hs
  have hkl := sizeK_length ks
  have HKID : Hid (∀ j (h : j < ks.length), ks[j].d.length ≤ 1099511627776 ∧ ks[j].ks.length ≤ 1099511627776) := Lib.hid (fun j h => by
    have hz := sizeN_kid (List.getElem_mem h)
    generalize ks[j] = y at *
    obtain ⟨_, _, _, dd, kk'⟩ := y
    have := sizeK_length kk'
    simp only [sizeN, Nd.d, Nd.ks] at *
    omega)
  clear hx hso
  go_enter Tryd.func43, Tryd.ntmps43
  have B1 := Blk.fresh w #[.int .i64 k, .int .i64 e, .int .i64 n, .slice A d.length c, .slice B ks.length c2] 25
  have HB1 := Lib.hid B1
  go_wp2
  clear B1
  go_loop [4, 5, 6] (fun a b i => ∃ j : Nat, j ≤ ks.length ∧ i = .int .i64 j ∧ a = .int .i64 (uniD ks j) ∧ b = .int .i64 (uniP ks j)) (fun _ _ i => ks.length - (intOf i).toNat)
  case atStart => exact ⟨0, by omega, rfl, rfl, rfl⟩
  case round =>
    obtain ⟨j, hj, rfl, rfl, rfl⟩ := hrel
    obtain ⟨x1, y1, z1⟩ := HB1.out
    by_cases hlt : j < ks.length
    · obtain ⟨b, off, Aa, ca, Ba, cb, rfl, k0, k1, k2, k3, k4, hsub⟩ := HX.out.kids.atIn ((Below.refl _ _).alloc (Nat.le_refl _) (.cells #[.int .i64 k, .int .i64 e, .int .i64 n, .slice A d.length c, .slice B ks.length c2] 25)) (Nat.le_refl _) hlt
      have HD := Lib.hid (uniD_succ hlt)
      have HP := Lib.hid (uniP_succ hlt)
      obtain ⟨bd1, bd2⟩ := HKID.out j hlt
      clear hsub k0 k1 k2
      generalize uniD ks j = u at *
      generalize uniP ks j = v at *
      generalize ks[j] = kx at *
      have HM1 := Lib.hid (dec8 u kx.d.length)
      have HM2 := Lib.hid (dec1 v kx.ks.length)
      rcases HM1.out with ⟨t1, t1', m1⟩ | ⟨t1, t1', m1⟩ <;> rcases HM2.out with ⟨t2, t2', t3, t4, m2⟩ | ⟨t2, t2', t3, t4, m2⟩ <;>
      ( rw [m1] at HD
        rw [m2] at HP
        clear m1 m2
        go_wp2
        go_round
        case rel => exact ⟨j + 1, by omega, by go_num, by rw [HD.out]; try (first | rfl | go_num), by rw [HP.out]; try (first | rfl | go_num)⟩
        case measure => simp [intOf]; omega)
    · obtain rfl : j = ks.length := by omega
      go_wp2
      go_ret2
      exact ⟨rfl, (Below.refl _ _).alloc (Nat.le_refl _) _⟩
end Go.Proofs.YtfigoblpkbpenaaDoor
