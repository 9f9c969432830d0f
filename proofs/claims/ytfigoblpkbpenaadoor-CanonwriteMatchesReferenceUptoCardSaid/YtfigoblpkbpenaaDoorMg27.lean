/- The texts RowG, WriA (what is wanted of them), one after the other. -/
import Derived.Test.YtfigoblpkbpenaaDoorMg1
import Derived.Test.YtfigoblpkbpenaaDoorMg2
import Derived.Test.YtfigoblpkbpenaaDoorMg3
import Derived.Test.YtfigoblpkbpenaaDoorMg4
import Derived.Test.YtfigoblpkbpenaaDoorMg5
import Derived.Test.YtfigoblpkbpenaaDoorMg7
import Derived.Test.YtfigoblpkbpenaaDoorMg10
import Derived.Test.YtfigoblpkbpenaaDoorMg12
import Derived.Test.YtfigoblpkbpenaaDoorMg13
import Derived.Test.YtfigoblpkbpenaaDoorMg17
import Derived.Test.YtfigoblpkbpenaaDoorMg18
import Derived.Test.YtfigoblpkbpenaaDoorMg19
import Derived.Test.YtfigoblpkbpenaaDoorMg26
import Derived.Deep.DeepAppendRoom
/- A row of nodes that is filled place by place while another block is written, too. -/
namespace Go.Proofs.YtfigoblpkbpenaaDoor
open Go.ChangeShapes Go.WideShapes Go.ChangeAt Go.RowKit
set_option linter.unusedVariables false
set_option linter.unusedSimpArgs false
set_option maxRecDepth 100000

/-- all blocks but b -/
def KB (b : Nat) : Nat → Prop := fun k => k = b
theorem bel_keeps {b : Nat} {w w' : World} (h : Keeps (KB b) w w') (hb : b ≤ w.heap.size) : Below b w w' := h.below hb (fun k hk => by unfold KB at hk; omega)
theorem keeps_alloc {b : Nat} {w w' : World} (h : Keeps (KB b) w w') (o : Obj) : Keeps (KB b) w (w'.alloc o) := h.trans (keeps_of ((Below.refl _ _).alloc (Nat.le_refl _) o))
theorem keeps_set {b : Nat} {w w' : World} (h : Keeps (KB b) w w') {p : Addr} (hp : p.block = b ∨ w.heap.size ≤ p.block) (v : Value) : Keeps (KB b) w (w'.setCell p v) := by
  refine ⟨h.os, h.tape, h.output, by simpa using h.size, fun k hk hS => ?_⟩
  rw [Below.heap_setCell _ _ _ _ (by rcases hp with e | e; · intro e2; exact hS (e2.trans e)
                                     · omega)]
  exact h.block k hk hS
theorem keeps_on {b : Nat} {w w1 w2 : World} (h : Keeps (KB b) w w1) (hb : Below w1.heap.size w1 w2) : Keeps (KB b) w w2 := h.trans (keeps_of hb)
theorem NodF.keeps {b lo : Nat} {x : Nd} {v : Value} {w w' : World} (h : NodF lo x v w) (hk : Keeps (KB b) w w') (hb : b < lo) : NodF lo x v w' := by
  obtain ⟨A, c, B, c2, hi, h1, h2, h3⟩ := h
  exact ⟨A, c, B, c2, hi, h1, Nat.le_trans h2 hk.size, h3.to fun k k1 k2 => hk.block k (by omega) (by unfold KB; omega)⟩
/-- a row of n nodes in the block q; the first hold the nodes of ts, whose parts lie behind q -/
structure RowG (q n : Nat) (ts : List Nd) (W : World) : Prop where
  cell : ∀ o, o < n * 5 → ∃ u, W.cell? ⟨q, o, none⟩ = some u
  free : ∀ o, W.frozen? ⟨q, o, none⟩ = false
  lt : q < W.heap.size
  done : ∀ j (hj : j < ts.length), ∃ A' c' B' c2' lo hi, q < lo ∧ hi ≤ W.heap.size ∧ NdO lo hi W A' c' B' c2' (ts[j]) ∧ ∀ o, o < 5 → W.cell? ⟨q, j * 5 + o, none⟩ = (fiveC (ts[j]) A' c' B' c2')[o]?
theorem RowG.agree {q n : Nat} {ts : List Nd} {W W' : World} (h : RowG q n ts W) (hs : W.heap.size ≤ W'.heap.size) (hw : ∀ k, q ≤ k → k < W.heap.size → W'.heap[k]? = W.heap[k]?) : RowG q n ts W' := by
  have hlt := h.lt
  have hc : ∀ o, W'.cell? ⟨q, o, none⟩ = W.cell? ⟨q, o, none⟩ := fun o => World.cell?_of_block (hw q (Nat.le_refl _) hlt)
  refine ⟨fun o ho => ?_, fun o => ?_, Nat.lt_of_lt_of_le hlt hs, fun j hj => ?_⟩
  · obtain ⟨u, hu⟩ := h.cell o ho
    exact ⟨u, (hc o).trans hu⟩
  · have := h.free o
    unfold World.frozen? at this ⊢
    rw [show W'.heap[(⟨q, o, none⟩ : Addr).block]? = W.heap[(⟨q, o, none⟩ : Addr).block]? from hw q (Nat.le_refl _) hlt]
    exact this
  · obtain ⟨A', c', B', c2', lo, hi', h1, h2, h3, h5⟩ := h.done j hj
    exact ⟨A', c', B', c2', lo, hi', h1, Nat.le_trans h2 hs, h3.to fun k k1 k2 => hw k (by omega) (by omega), fun o ho => (hc _).trans (h5 o ho)⟩
theorem RowG.below {q n : Nat} {ts : List Nd} {W W' : World} (h : RowG q n ts W) (hb : Below W.heap.size W W') : RowG q n ts W' := h.agree hb.size fun k _ h2 => hb.block k h2
theorem RowG.keeps {b q n : Nat} {ts : List Nd} {W W' : World} (h : RowG q n ts W) (hk : Keeps (KB b) W W') (hb : b < q) : RowG q n ts W' := h.agree hk.size fun k h1 h2 => hk.block k h2 (by unfold KB; omega)
theorem RowG.alloc {q n : Nat} {ts : List Nd} {W : World} (h : RowG q n ts W) (o : Obj) : RowG q n ts (W.alloc o) := h.below ((Below.refl _ _).alloc (Nat.le_refl _) o)
/-- a store into another block that none of its parts lies in -/
theorem RowG.other {q n : Nat} {ts : List Nd} {W : World} (h : RowG q n ts W) {p : Addr} (hp : p.block < q) (v : Value) : RowG q n ts (W.setCell p v) :=
  h.agree (by simp) fun k h1 _ => Below.heap_setCell _ _ _ _ (by omega)
theorem RowG.set {q n : Nat} {ts : List Nd} {W : World} (h : RowG q n ts W) {p : Nat} (hp : ts.length * 5 ≤ p) (v : Value) : RowG q n ts (W.setCell ⟨q, p, none⟩ v) := by
  have hd : ∀ o, p ≠ o → (W.setCell ⟨q, p, none⟩ v).cell? ⟨q, o, none⟩ = W.cell? ⟨q, o, none⟩ := fun o ho => cell_diff (fun e => by injection e with e1 e2; exact ho e2)
  refine ⟨fun o ho => ?_, fun o => by rw [World.frozen?_setCell]; exact h.free o, by simpa using h.lt, fun j hj => ?_⟩
  · obtain ⟨u, hu⟩ := h.cell o ho
    by_cases e : p = o
    · subst e
      exact ⟨v, cell_same hu⟩
    · exact ⟨u, (hd o e).trans hu⟩
  · obtain ⟨A', c', B', c2', lo, hi', h1, h2, h3, h5⟩ := h.done j hj
    exact ⟨A', c', B', c2', lo, hi', h1, by simpa using h2, h3.to fun k k1 _ => Below.heap_setCell _ _ _ _ (by show k ≠ q; omega), fun o ho => (hd _ (by omega)).trans (h5 o ho)⟩
/-- one place more -/
theorem RowG.next {q n i : Nat} {ts : List Nd} {W : World} {x : Nd} (h : RowG q n ts W) (hi : ts.length = i) (hn : i < n) {A' : Option Addr} {c' : Nat} {B' : Option Addr} {c2' lo hi' : Nat} (h1 : q < lo) (h2 : hi' ≤ W.heap.size) (h3 : NdO lo hi' W A' c' B' c2' x) :
    RowG q n (ts ++ [x]) (((((W.setCell ⟨q, i * 5, none⟩ (.int .i64 x.k)).setCell ⟨q, i * 5 + 1, none⟩ (.int .i64 x.e)).setCell ⟨q, i * 5 + 2, none⟩ (.int .i64 x.n)).setCell ⟨q, i * 5 + 3, none⟩ (.slice A' x.d.length c')).setCell ⟨q, i * 5 + 4, none⟩ (.slice B' x.ks.length c2')) := by
  subst hi
  have hr := ((((h.set (p := ts.length * 5) (by omega) (.int .i64 x.k)).set (p := ts.length * 5 + 1) (by omega) (.int .i64 x.e)).set (p := ts.length * 5 + 2) (by omega) (.int .i64 x.n)).set (p := ts.length * 5 + 3) (by omega) (.slice A' x.d.length c')).set (p := ts.length * 5 + 4) (by omega) (.slice B' x.ks.length c2')
  refine ⟨hr.cell, hr.free, hr.lt, fun j hj => ?_⟩
  by_cases e : j < ts.length
  · have := hr.done j e
    rw [List.getElem_append_left e]
    exact this
  have hjl : j = ts.length := by rw [List.length_append, List.length_singleton] at hj; omega
  subst hjl
  have hx : (ts ++ [x])[ts.length]'hj = x := by rw [List.getElem_append_right (Nat.le_refl _)]; simp
  rw [hx]
  have hg : ∀ (w : World) k p v, lo ≤ k → (w.setCell ⟨q, p, none⟩ v).heap[k]? = w.heap[k]? := fun w k p v hk => Below.heap_setCell _ _ _ _ (by show k ≠ q; omega)
  refine ⟨A', c', B', c2', lo, hi', h1, by simpa using h2, h3.to fun k k1 _ => by rw [hg _ _ _ _ k1, hg _ _ _ _ k1, hg _ _ _ _ k1, hg _ _ _ _ k1, hg _ _ _ _ k1], fun o ho => ?_⟩
  have d : ∀ (w : World) (p r : Nat) v, p ≠ r → (w.setCell ⟨q, p, none⟩ v).cell? ⟨q, r, none⟩ = w.cell? ⟨q, r, none⟩ := fun w p r v hpr => cell_diff (fun e => by injection e with e1 e2; exact hpr e2)
  have c0 := fun o (ho : o < 5) => h.cell (ts.length * 5 + o) (by omega)
  have : o = 0 ∨ o = 1 ∨ o = 2 ∨ o = 3 ∨ o = 4 := by omega
  rcases this with rfl | rfl | rfl | rfl | rfl
  · obtain ⟨u, hu⟩ := c0 0 (by omega)
    rw [d _ _ _ _ (by omega), d _ _ _ _ (by omega), d _ _ _ _ (by omega), d _ _ _ _ (by omega)]
    exact cell_same hu
  · obtain ⟨u, hu⟩ := c0 1 (by omega)
    rw [d _ _ _ _ (by omega), d _ _ _ _ (by omega), d _ _ _ _ (by omega)]
    exact cell_same (u := u) (by rw [d _ _ _ _ (by omega)]; exact hu)
  · obtain ⟨u, hu⟩ := c0 2 (by omega)
    rw [d _ _ _ _ (by omega), d _ _ _ _ (by omega)]
    exact cell_same (u := u) (by rw [d _ _ _ _ (by omega), d _ _ _ _ (by omega)]; exact hu)
  · obtain ⟨u, hu⟩ := c0 3 (by omega)
    rw [d _ _ _ _ (by omega)]
    exact cell_same (u := u) (by rw [d _ _ _ _ (by omega), d _ _ _ _ (by omega), d _ _ _ _ (by omega)]; exact hu)
  · obtain ⟨u, hu⟩ := c0 4 (by omega)
    exact cell_same (u := u) (by rw [d _ _ _ _ (by omega), d _ _ _ _ (by omega), d _ _ _ _ (by omega), d _ _ _ _ (by omega)]; exact hu)
/-- a new row -/
theorem RowG.made {q n base : Nat} {W : World} {vs : List Value} (h : W.ownsRow base 25 5 (.slice (some ⟨q, 0, none⟩) n n) n vs) : RowG q n [] W := by
  refine ⟨fun o ho => ?_, fun o => World.ownsRow.frozenAt h o, (h.lt q rfl).2, fun j hj => by simp at hj⟩
  have hl : o < vs.length := by rw [h.1]; exact ho
  exact ⟨vs[o], by rw [World.ownsRow.cellAt h o ho, List.getElem?_eq_getElem hl]⟩
end Go.Proofs.YtfigoblpkbpenaaDoor

/- Package canonwrite: the writer and its words in memory; its small methods. -/
namespace Go.Proofs.YtfigoblpkbpenaaDoor
open Go.ChangeShapes Go.WideShapes Go.ChangeAt Go.RowKit
set_option linter.unusedVariables false
set_option linter.unusedSimpArgs false
set_option maxRecDepth 100000

/-- the writer's block and the block of its words -/
def KS (wb q : Nat) : Nat → Prop := fun k => k = wb ∨ k = q
theorem ks_alloc {S : Nat → Prop} {w w' : World} (h : Keeps S w w') (o : Obj) : Keeps S w (w'.alloc o) := h.trans (keeps_of ((Below.refl _ _).alloc (Nat.le_refl _) o))
theorem ks_set {S : Nat → Prop} {w w' : World} (h : Keeps S w w') {p : Addr} (hp : S p.block ∨ w.heap.size ≤ p.block) (v : Value) : Keeps S w (w'.setCell p v) := by
  refine ⟨h.os, h.tape, h.output, by simpa using h.size, fun k hk hS => ?_⟩
  rw [Below.heap_setCell _ _ _ _ (by rcases hp with e | e; · intro e2; rw [e2] at hS; exact hS e
                                     · omega)]
  exact h.block k hk hS
theorem ks_on {S : Nat → Prop} {w w1 w2 : World} (h : Keeps S w w1) (hb : Below w1.heap.size w1 w2) : Keeps S w w2 := h.trans (keeps_of hb)
theorem ks_grown {S : Nat → Prop} {w w' : World} {q : Nat} (h : w.grownBy w' (some q)) (hS : S q) : Keeps S w w' :=
  ⟨h.os, h.tape, h.output, h.size, fun k hk hn => h.block k hk (fun e => by injection e with e; subst e; exact hn hS)⟩
theorem ks_below {wb q base : Nat} {w w' : World} (h : Keeps (KS wb q) w w') (hB : base ≤ w.heap.size) (h1 : base ≤ wb) (h2 : base ≤ q) : Below base w w' := h.below hB (fun k hk => by rcases hk with rfl | rfl <;> assumption)
theorem Blk.keepsS {S : Nat → Prop} {w w' : World} {b : Nat} {cs : Array Value} (h : Blk w b cs) (hk : Keeps S w w') (hS : ¬ S b) : Blk w' b cs := by
  have e := hk.block b h.lt hS
  refine ⟨fun o => (World.cell?_of_block e).trans (h.cell o), fun o => ?_, Nat.lt_of_lt_of_le h.lt hk.size⟩
  have := h.free o
  unfold World.frozen? at this ⊢
  rw [show w'.heap[(⟨b, o, none⟩ : Addr).block]? = w.heap[(⟨b, o, none⟩ : Addr).block]? from e]
  exact this

/-- the writer at wb has the words cur, in the block q, with room for cap words -/
structure Wr (W : World) (wb q cap base : Nat) (cur : List Int) : Prop where
  blk : Blk W wb #[.slice (some ⟨q, 0, none⟩) cur.length cap]
  got : Got W base 32 .u64 (.slice (some ⟨q, 0, none⟩) cur.length cap) cur
theorem Wr.below {W W' : World} {wb q cap base : Nat} {cur : List Int} (h : Wr W wb q cap base cur) (hb : Below W.heap.size W W') : Wr W' wb q cap base cur := ⟨h.blk.below hb, h.got.below hb (Nat.le_refl _)⟩
theorem Wr.alloc {W : World} {wb q cap base : Nat} {cur : List Int} (h : Wr W wb q cap base cur) (o : Obj) : Wr (W.alloc o) wb q cap base cur := h.below ((Below.refl _ _).alloc (Nat.le_refl _) o)
theorem Wr.drew {W : World} {wb q cap base : Nat} {cur : List Int} (h : Wr W wb q cap base cur) : Wr W.drew wb q cap base cur := ⟨h.blk.drew, h.got⟩
theorem Wr.put {W : World} {wb q cap base : Nat} {cur : List Int} (h : Wr W wb q cap base cur) (hne : wb ≠ q) (j : Nat) (y : Int) : Wr (W.setCell ⟨q, j, none⟩ (.int .u64 y)) wb q cap base (cur.set j y) := by
  have e : (cur.set j y).length = cur.length := List.length_set
  exact ⟨by rw [e]; exact h.blk.other (fun e => hne e.symm) _, by rw [e]; exact h.got.put j y⟩
theorem got_other15 {w : World} {base : Nat} {E : TypeId} {k : IntKind} {u : Value} {zs : List Int} (h : Got w base E k u zs) {p : Addr} (hp : u.ownBlock = some p.block → False) (v : Value) : Got (w.setCell p v) base E k u zs := by
  refine ⟨h.1, ?_⟩
  rcases h.2 with h3 | ⟨g, cap, cur, hv, hg, hh, r⟩
  · exact .inl h3
  · exact .inr ⟨g, cap, cur, hv, hg, (Below.heap_setCell _ _ _ _ (fun e => hp (by rw [hv, ← e]; rfl))).trans hh, r⟩
theorem Wr.grow {W : World} {wb q cap base n : Nat} {u : Value} {cur : List Int} (hg : Got W base 32 .u64 (.slice (some ⟨q, 0, none⟩) n cap) cur) (hb : Blk W wb #[u]) (hne : wb ≠ q) (hn : n = cur.length) : Wr (W.setCell ⟨wb, 0, none⟩ (.slice (some ⟨q, 0, none⟩) n cap)) wb q cap base cur := by
  subst hn
  exact ⟨hb.set 0 (by simp) _, got_other15 hg (fun e => by injection e with e; exact hne e.symm) _⟩
theorem Wr.q {W : World} {wb q cap base : Nat} {cur : List Int} (h : Wr W wb q cap base cur) : base ≤ q ∧ q < W.heap.size ∧ cur.length ≤ cap ∧ cap ≤ maxLen := by
  obtain ⟨h1, h2⟩ := h.got.lt q rfl
  obtain ⟨A, c, e, h3, h4, -⟩ := h.got.slice
  injection e with e1 e2 e3
  subst e3
  exact ⟨h1, h2, h3, h4⟩

/-- one word behind the writer's words -/
theorem wpList_wr1 {ops : Array Oper} {rest : List Oper} {o : Oper} {a : Act} {Q : Exit → Act → World → Prop} {w : World} (hgd : o.guard = none) (s x : Operand)
    (ho : o.op = .call { callee := .builtin .append, args := #[s, x], argTypes := #[29, 29] })
    {T : TypeId} {y : Int} {wb q cap base : Nat} {cur : List Int} (h : Wr w wb q cap base cur) (hne : wb ≠ q) (hs : a.eval s = .slice (some ⟨q, 0, none⟩) cur.length cap) (hx : a.eval x = .slice (some ⟨w.heap.size, 0, none⟩) 1 1) (hroom : cur.length + 1 ≤ cap)
    (hK : ∀ w', Got w' base 32 .u64 (.slice (some ⟨q, 0, none⟩) (cur.length + 1) cap) (cur ++ [y]) → Blk w' wb #[.slice (some ⟨q, 0, none⟩) cur.length cap] → Keeps (KS wb q) w w' → wpList Tryd.prog ops Q rest (a.put o.dst (.slice (some ⟨q, 0, none⟩) (cur.length + 1) cap)) w') : wpList Tryd.prog ops Q (o :: rest) a (w.alloc (.cells #[.int .u64 y] T)) := by
  obtain ⟨i0, hi, hz0, hz1, hz2⟩ := info_parts int64_info
  have h' := h.alloc (.cells #[.int .u64 y] T)
  refine wpList_append_own_spare _ hgd s x _ ho base _ i0 1 Tryd.underlying29 hi hz1 q cur.length cap _ hs h'.got ⟨w.heap.size, 0, none⟩ 1 1 [.int .u64 y] hx rfl ?_ ?_ hroom ?_
  · intro j u hj
    cases j with
    | zero => simp at hj; subst hj; simp [Addr.add]
    | succ j => simp at hj
  · intro u hu
    simp at hu
    subst hu
    rfl
  · intro w' h1 h2
    have hk : Keeps (fun k => k = q) (w.alloc (.cells #[.int .u64 y] T)) w' := ks_grown h2 rfl
    refine hK w' ?_ (h'.blk.keepsS hk hne) ((ks_alloc (Keeps.refl _ _) _).trans (ks_grown h2 (.inr rfl)))
    unfold Got
    simpa using h1

theorem run_append_room_zeros {P : Program} (w : World) (base : Nat) (t tn ty e : TypeId) (i : TypeInfo) (z : Value) (size : Nat) (kq kn : IntKind) (ht : P.underlying t = some (.slice e)) (htn : P.underlying tn = some (.int kn)) (hi : P.info? e = some i) (hz : i.zero = some z)
    (hsize : i.size = size) (hzs : z.cells.size = size)
    (g n cap : Nat) (xs : List Value) (hown : w.ownsRow base e size (.slice (some ⟨g, 0, none⟩) n cap) n xs) (k : Nat) (h1 : ∀ u ∈ (Builtin.zeroCells z.cells k).toList, u.oneCell' = true)
    (hroom : n + k ≤ cap) (h63 : n + k ≤ maxLen) (h48 : k * i.bytes ≤ 281474976710656) :
    ∃ w', (Builtin.append_ #[t, tn] ty #[.slice (some ⟨g, 0, none⟩) n cap, .int kq k]).run P w = .ok (.slice (some ⟨g, 0, none⟩) (n + k) cap) w' ∧
      w'.ownsRow base e size (.slice (some ⟨g, 0, none⟩) (n + k) cap) (n + k) (xs ++ (Builtin.zeroCells z.cells k).toList) ∧ w.grownBy w' (some g) := by
  subst hsize
  have hsmall : n + k ≤ 9223372036854775807 := by simp only [maxLen] at h63; omega
  have hl : (Builtin.zeroCells z.cells k).toList.length = k * i.size := by rw [Array.length_toList, size_zeroCells, hzs]
  have hlen : (xs ++ (Builtin.zeroCells z.cells k).toList).length = (n + k) * i.size := by rw [List.length_append, hown.1, hl, Nat.add_mul]
  have hw : IntKind.i64.wrap (k : Int) = k := by rw [IntKind.wrap_i64]; omega
  have hneg : ¬ ((k : Int) < 0) := by omega
  have h48i : ¬ (281474976710656 < (k : Int) * (i.bytes : Int)) := by
    rw [← Int.natCast_mul]
    omega
  rcases hown.2 with ⟨h0, -⟩ | ⟨g', cap', cur, hv, hbg, hg, hnc, hcm, hcs, htake⟩
  · cases h0
  · cases hv
    have hfit : n * i.size + (Builtin.zeroCells z.cells k).toList.length ≤ cur.size := by rw [hl, hcs, ← Nat.add_mul]; exact Nat.mul_le_mul_right _ hroom
    have hst := run_storeCells_at P g (n * i.size) e (Builtin.zeroCells z.cells k).toList 0 cur w hg (by simpa using hfit) h1
    simp only [Nat.add_zero] at hst
    have hr : (Builtin.append_ #[t, tn] ty #[.slice (some ⟨g, 0, none⟩) n cap, .int kq k]).run P w = .ok (.slice (some ⟨g, 0, none⟩) (n + k) cap) (w.setRow g (cur.toList.take (n * i.size) ++ (Builtin.zeroCells z.cells k).toList ++ cur.toList.drop (n * i.size + (Builtin.zeroCells z.cells k).toList.length)).toArray) := by
      by_cases hk0 : k * i.size = 0
      · have hz0 : Builtin.zeroCells z.cells k = #[] := Array.eq_empty_of_size_eq_zero (by rw [size_zeroCells, hzs]; exact hk0)
        rw [hz0] at hst ⊢
        simp [Builtin.append_, run_underlying ht, run_underlying htn, sizeOf, typeInfo, zeroValue, hi, hz, asInt, asIntOf, hw, hneg, h48i, hroom, hk0, Addr.add_lit] at hst ⊢
        rw [hst]; rfl
      · simp [Builtin.append_, run_underlying ht, run_underlying htn, sizeOf, typeInfo, zeroValue, hi, hz, asInt, asIntOf, hw, hneg, h48i, hroom, hk0, Addr.add_lit, hst]
    refine ⟨_, hr, ⟨hlen, .inr ⟨g, cap, _, rfl, hbg, setRow_heap w g cur _ e _ hg, hroom, hcm, ?_, ?_⟩⟩, ⟨rfl, rfl, rfl, by simp, fun k _ hk => setRow_other w g k _ (fun e => hk (by simp [Value.ownBlock, e]))⟩⟩
    · simp only [List.size_toArray, List.length_append, List.length_take, List.length_drop, Array.length_toList]
      rw [Array.length_toList] at hfit
      omega
    · rw [htake, ← hlen]
      exact List.take_left

/-- zeros behind the writer's words -/
theorem wpList_wrZ {ops : Array Oper} {rest : List Oper} {o : Oper} {a : Act} {Q : Exit → Act → World → Prop} {w : World} (hgd : o.guard = none) (s x : Operand)
    (ho : o.op = .call { callee := .builtin .append, args := #[s, x], argTypes := #[29, 3] })
    {n : Nat} {wb q cap base : Nat} {cur : List Int} (h : Wr w wb q cap base cur) (hne : wb ≠ q) (hs : a.eval s = .slice (some ⟨q, 0, none⟩) cur.length cap) (hx : a.eval x = .int .i64 n) (hroom : cur.length + n ≤ cap) (hcap : cap ≤ 1099511627776)
    (hK : ∀ w', Got w' base 32 .u64 (.slice (some ⟨q, 0, none⟩) (cur.length + n) cap) (cur ++ List.replicate n 0) → Blk w' wb #[.slice (some ⟨q, 0, none⟩) cur.length cap] → Keeps (KS wb q) w w' → wpList Tryd.prog ops Q rest (a.put o.dst (.slice (some ⟨q, 0, none⟩) (cur.length + n) cap)) w') : wpList Tryd.prog ops Q (o :: rest) a w := by
  obtain ⟨i0, hi, hz0, hz1, hz2⟩ := info_parts int64_info
  have hc : (Value.int .u64 0).cells = #[.int .u64 0] := rfl
  obtain ⟨w', hr, h1, h2⟩ := run_append_room_zeros (P := Tryd.prog) w base 29 3 o.type 32 i0 (.int .u64 0) 1 .i64 .i64 Tryd.underlying29 Tryd.underlying3 hi hz0 hz1 rfl q cur.length cap _ h.got n (by
    intro u hu
    obtain ⟨j, hj, rfl⟩ := List.getElem_of_mem hu
    have hjl : j < n * 1 := by rw [Array.length_toList, size_zeroCells] at hj; exact hj
    have hg := zeroCells_get (z := (Value.int .u64 0).cells) (k := n) (s := 1) rfl hjl
    rw [List.getElem?_eq_getElem hj, Nat.mod_one] at hg
    rw [Option.some.inj hg]
    rfl) hroom (by unfold maxLen; omega) (by rw [hz2]; omega)
  refine Lib.wpList_append_run w hgd s x _ _ ho _ _ hs hx _ w' hr (hK w' ?_ (h.blk.keepsS (S := fun k => k = q) (ks_grown h2 rfl) hne) (ks_grown h2 (.inr rfl)))
  unfold Got
  rw [List.length_append, List.length_replicate, List.map_append, List.map_replicate]
  have e1 : (Builtin.zeroCells (Value.int .u64 0).cells n).toList = List.replicate n (Value.int .u64 0) := by
    apply List.ext_getElem?
    intro j
    by_cases hj : j < n
    · rw [zeroCells_get (s := 1) rfl (by omega), Nat.mod_one, List.getElem?_replicate, if_pos hj]
      rfl
    · rw [List.getElem?_eq_none (by rw [Array.length_toList, size_zeroCells]; show n * 1 ≤ j; omega), List.getElem?_replicate, if_neg hj]
  rw [← e1]
  exact h1

/-! ## The small methods -/
theorem Wzeros_any (wb q cap base n : Nat) (cur : List Int) (w : World) (h : Wr w wb q cap base cur) (hne : wb ≠ q) (hroom : cur.length + n ≤ cap) (hcap : cap ≤ 1099511627776) :
    Calls Tryd.prog 19 #[.pointer (some ⟨wb, 0, none⟩), .int .i64 n] w fun r w' => r = .returned (.int .i64 cur.length) ∧ Keeps (KS wb q) w w' ∧ Wr w' wb q cap base (cur ++ List.replicate n 0) := by
  obtain ⟨x1, y1, z1⟩ := h.blk
  have HW := Lib.hid h
  have HNE := Lib.hid hne
  have HC := Lib.hid hcap
  clear h hne hcap
  go_enter Tryd.func19, Tryd.ntmps19
  go_wp2_with (at_builtin; refine wpList_wrZ rfl (.tmp 15) (.tmp 16) rfl (n := n) HW.out HNE.out rfl rfl hroom HC.out ?_; intro w2 hg2 hb2 hk2; have HG := Lib.hid hg2; have HB := Lib.hid hb2; have HK := Lib.hid hk2; obtain ⟨x2, y2, z2⟩ := hb2; clear hg2 hk2 x1 y1 z1)
  go_ret
  exact ⟨rfl, ks_set HK.out (.inl (.inl rfl)) _, Wr.grow HG.out HB.out HNE.out (by simp)⟩
theorem Woffset_any (wb q cap base : Nat) (a : Int) (cur : List Int) (w : World) (h : Wr w wb q cap base cur) (h0 : 0 ≤ a) (h1 : a ≤ 1099511627776) (hl : cur.length ≤ 1099511627776) :
    Calls Tryd.prog 47 #[.pointer (some ⟨wb, 0, none⟩), .int .i64 a] w fun r w' => r = .returned (.int .i64 (cur.length - a - 1)) ∧ w = w' := by
  obtain ⟨x1, y1, z1⟩ := h.blk
  clear h
  go_enter Tryd.func47, Tryd.ntmps47
  go_wp2
  go_ret
  exact ⟨rfl, rfl⟩
theorem Wencoded_any (k o d p el c : Int) (w : World) (hv : Vld ⟨k, o, d, p, el, c, false, 0, 0, 0⟩) :
    Calls Tryd.prog 48 #[.agg #[.int .i64 k, .int .i64 o, .int .i64 d, .int .i64 p, .int .i64 el, .int .i64 c, .bool false, .int .i64 0, .int .u32 0, .int .u32 0]] w fun r w' => r = .returned (.int .u64 (encW ⟨k, o, d, p, el, c, false, 0, 0, 0⟩)) ∧ Below w.heap.size w w' := by
  have HE := Lib.hid (fun w2 => Encode_any k o d p el c 0 0 0 false w2)
  have HV : Hid (encE ⟨k, o, d, p, el, c, false, 0, 0, 0⟩ = encW ⟨k, o, d, p, el, c, false, 0, 0, 0⟩) := Lib.hid (by unfold encE okE; rw [if_pos (decide_eq_true hv)])
  have HB0 := Lib.hid (fun o => (Below.refl w.heap.size w).alloc (Nat.le_refl _) o)
  clear hv
  go_enter Tryd.func48, Tryd.ntmps48
  go_wp2_with fail
  refine (HE.out _).mono ?_
  rintro r w2 ⟨rfl, hb2⟩
  have HB2 := Lib.hid (bel_on (HB0.out _) hb2)
  clear hb2
  go_wp2
  go_ret
  exact ⟨by rw [← HV.out]; rfl, HB2.out⟩
theorem Wnull_any (wb q cap base at' : Nat) (k e n : Int) (dl c kl c2 : Nat) (A B : Option Addr) (cur : List Int) (w : World) (h : Wr w wb q cap base cur) (hne : wb ≠ q) (hat : at' < cur.length) :
    Calls Tryd.prog 37 #[.pointer (some ⟨wb, 0, none⟩), .int .i64 at', .agg #[.int .i64 k, .int .i64 e, .int .i64 n, .slice A dl c, .slice B kl c2]] w fun r w' => r = .returned (.tuple #[]) ∧ Keeps (KS wb q) w w' ∧ Wr w' wb q cap base (cur.set at' 0) := by
  have h1 := h.alloc (.cells #[.int .i64 k, .int .i64 e, .int .i64 n, .slice A dl c, .slice B kl c2] 25)
  obtain ⟨x1, y1, z1⟩ := h1.blk
  have c1 := h1.got.cell at' hat
  have f1 := h1.got.free at'
  have HW := Lib.hid h1
  have HNE := Lib.hid hne
  have hat' : (at' : Int) < (cur.length : Int) := by omega
  clear h h1 hne
  go_enter Tryd.func37, Tryd.ntmps37
  go_wp2
  go_end0
  exact ⟨rfl, ks_set (ks_alloc (Keeps.refl _ _) _) (.inl (.inr rfl)) _, HW.out.put HNE.out _ _⟩
end Go.Proofs.YtfigoblpkbpenaaDoor
