/- A message that the call put together: a slice of its own, whose segments are its own or came in. -/
import Derived.Test.YtljkdhdkbolnjaaDoorMsgOwn
namespace Go.Proofs.YtljkdhdkbolnjaaDoor
open Go.RowKit
set_option linter.unusedVariables false
set_option linter.unusedSimpArgs false

/-- a segment: made by the call, or one that was there before the block 'base' -/
def SegOK (w : World) (base : Nat) (u : Value) (l : List Int) : Prop :=
  Got w base 39 .u64 u l ∨ (Holds w u l ∧ (l = [] ∨ ∀ b, u.ownBlock = some b → b < base))

theorem SegOK.holds {w : World} {base : Nat} {u : Value} {l : List Int} (h : SegOK w base u l) : Holds w u l := by
  rcases h with h | h
  · exact h.holds
  · exact h.1

theorem Holds.slice {w : World} {u : Value} {l : List Int} (h : Holds w u l) : u.oneCell' = true := by
  obtain ⟨A, c, rfl, _⟩ := h
  rfl

theorem Holds.low {w w' : World} {base : Nat} {u : Value} {l : List Int} (h : Holds w u l) (hlow : l = [] ∨ ∀ b, u.ownBlock = some b → b < base) (hb : Below base w w') : Holds w' u l := by
  obtain ⟨A, c, rfl, hr, h3⟩ := h
  refine ⟨A, c, rfl, ?_, h3⟩
  rcases hr with h0 | ⟨b, off, rfl, hc⟩
  · exact .inl h0
  · rcases hlow with h0 | hlow
    · exact .inl h0
    · refine .inr ⟨b, off, rfl, fun j hj => ?_⟩
      exact (hb.cell (p := ⟨b, off + j, none⟩) (hlow b rfl)).trans (hc j hj)

theorem SegOK.below {w w' : World} {base B : Nat} {u : Value} {l : List Int} (h : SegOK w base u l) (hb : Below B w w') (hB : w.heap.size ≤ B) : SegOK w' base u l := by
  rcases h with h | h
  · exact .inl (h.below hb hB)
  · exact .inr ⟨h.1.below hb hB, h.2⟩

/-- a segment that came in -/
theorem SegOK.came {W w : World} {base : Nat} {u : Value} {l : List Int} (h : Holds W u l) (hW : W.heap.size ≤ base) (hb : Below base W w) : SegOK w base u l := by
  have hlow : l = [] ∨ ∀ b, u.ownBlock = some b → b < base := by
    by_cases h0 : l = []
    · exact .inl h0
    · right
      intro b hbk
      obtain ⟨A, c, rfl, hr, _⟩ := h
      rcases hr with h1 | ⟨b', off, rfl, hc⟩
      · exact absurd h1 h0
      · simp [Value.ownBlock] at hbk
        subst hbk
        have hl : 0 < l.length := by
          cases l with
          | nil => exact absurd rfl h0
          | cons x r => simp
        have hlt : b' < W.heap.size := World.block_lt_of_cell? W ⟨b', off + 0, none⟩ (hc 0 hl)
        omega
  exact .inr ⟨h.low hlow hb, hlow⟩

def OwnS (w : World) (base : Nat) (v : Value) (ls : List (List Int)) : Prop :=
  ∃ vs : List Value, w.ownsRow base 38 1 v ls.length vs ∧ ∀ j, j < ls.length → ∃ u, vs[j]? = some u ∧ SegOK w base u (seg ls j)

theorem OwnS.empty (w : World) (base : Nat) : OwnS w base (.slice none 0 0) [] := ⟨[], World.ownsRow_nil w base _ 1, fun j hj => by simp at hj⟩
theorem GotS.mix {w : World} {base : Nat} {v : Value} {ls : List (List Int)} (h : GotS w base v ls) : OwnS w base v ls := by
  obtain ⟨vs, h1, h2⟩ := h
  refine ⟨vs, h1, fun j hj => ?_⟩
  obtain ⟨u, hu, hg⟩ := h2 j hj
  exact ⟨u, hu, .inl hg⟩

theorem OwnS.below {w w' : World} {base B : Nat} {v : Value} {ls : List (List Int)} (h : OwnS w base v ls) (hb : Below B w w') (hB : w.heap.size ≤ B) : OwnS w' base v ls := by
  obtain ⟨vs, h1, h2⟩ := h
  refine ⟨vs, ownsRow_below h1 hb hB, fun j hj => ?_⟩
  obtain ⟨u, hu, hg⟩ := h2 j hj
  exact ⟨u, hu, hg.below hb hB⟩

theorem OwnS.slice {w : World} {base : Nat} {v : Value} {ls : List (List Int)} (h : OwnS w base v ls) : ∃ A c, v = .slice A ls.length c ∧ ls.length ≤ c ∧ c ≤ maxLen ∧ Sg w A ls := by
  obtain ⟨vs, h1, h2⟩ := h
  have h0 := h1
  rcases h1.2 with ⟨rfl, hn⟩ | ⟨g, cap, cur, rfl, hg, hh, hc, hm, hs, ht⟩
  · have : ls = [] := List.eq_nil_of_length_eq_zero hn
    subst this
    exact ⟨none, 0, rfl, Nat.le_refl _, Nat.zero_le _, .inl rfl⟩
  · refine ⟨some ⟨g, 0, none⟩, cap, rfl, hc, hm, .inr ⟨g, 0, rfl, fun j hj => ?_⟩⟩
    obtain ⟨u, hu, hgu⟩ := h2 j hj
    refine ⟨u, ?_, hgu.holds⟩
    rw [Nat.zero_add, World.ownsRow.cellAt h0 j (by omega)]
    exact hu

theorem OwnS.lt {w : World} {base : Nat} {v : Value} {ls : List (List Int)} (h : OwnS w base v ls) : ∀ k, v.ownBlock = some k → base ≤ k ∧ k < w.heap.size := by
  obtain ⟨vs, h1, _⟩ := h
  exact h1.lt

/-- the segments of a message of the call's own lie apart from the slice of them -/
theorem SegOK.grown {w w' : World} {base n : Nat} {v u : Value} {vs : List Value} {l : List Int} (h : SegOK w base u l) (hv : w.ownsRow base 38 1 v n vs) (hg : w.grownBy w' v.ownBlock) (hb : Below base w w') : SegOK w' base u l := by
  rcases h with h | h
  · left
    refine World.ownsRow.kept h hg ?_
    rcases h.2 with ⟨rfl, _⟩ | ⟨g, cap, cur, rfl, hgb, hh, _⟩
    · exact .inl rfl
    · right
      intro e
      rcases hv.2 with ⟨rfl, _⟩ | ⟨g', cap', cur', rfl, hg', hh', _⟩
      · simp [Value.ownBlock] at e
      · simp [Value.ownBlock] at e
        subst e
        rw [hh] at hh'
        injection hh' with e2
        injection e2 with _ e3
        exact absurd e3 (by decide)
  · exact .inr ⟨h.1.low h.2 hb, h.2⟩

/-- 'append(s, xs...)': segments that lie somewhere behind a message of the call's own -/
theorem wpList_appV {ops : Array Oper} {rest : List Oper} {o : Oper} {a : Act} {Q : Exit → Act → World → Prop} {w : World} (hgd : o.guard = none) (s x : Operand) (t : TypeId)
    (ho : o.op = .call { callee := .builtin .append, args := #[s, x], argTypes := #[t, t] }) (ht : Tryd.prog.underlying t = some (.slice 38))
    {base : Nat} {v : Value} {ls ms : List (List Int)} (hs : a.eval s = v) (hown : OwnS w base v ls) {ad : Addr} {c m : Nat} (hm : m = ms.length) (hx : a.eval x = .slice (some ad) m c)
    (ys : List Value) (hy : ys.length = m) (hcell : ∀ j u, ys[j]? = some u → w.cell? (ad.add j) = some u) (hseg : ∀ j, j < m → ∃ u, ys[j]? = some u ∧ SegOK w base u (seg ms j))
    (hn : ls.length + m ≤ 1000000) (hbase : base ≤ w.heap.size)
    (h : ∀ v' w', OwnS w' base v' (ls ++ ms) → Below base w w' → (∀ b, b < w.heap.size → v.ownBlock ≠ some b → w'.heap[b]? = w.heap[b]?) → wpList Tryd.prog ops Q rest (a.put o.dst v') w') : wpList Tryd.prog ops Q (o :: rest) a w := by
  obtain ⟨i, hi, hz0, hz1, hz2⟩ := info_parts slices_info
  obtain ⟨vs, h1, h2⟩ := hown
  refine wpList_append_own _ hgd s x t ho base _ i _ 1 24 ht hi hz0 hz1 hz2 rfl (by decide) v ls.length vs hs h1
    ad m c ys hx (by rw [Nat.mul_one]; exact hy) hcell ?_ (by unfold maxLen; omega) (by omega) hbase ?_
  · intro u hu
    obtain ⟨j, hj, rfl⟩ := List.mem_iff_getElem.1 hu
    obtain ⟨u', hu', hs'⟩ := hseg j (by omega)
    rw [List.getElem?_eq_getElem hj] at hu'
    injection hu' with e
    rw [e]
    exact hs'.holds.slice
  · intro v' w' k1 k2 _
    have hlen : vs.length = ls.length := by rw [h1.1, Nat.mul_one]
    have hb : Below base w w' := (Below.refl base w).grown k2 hbase (fun g hg => (h1.lt g hg).1)
    refine h v' w' ⟨vs ++ ys, by rw [List.length_append, ← hm]; exact k1, fun j hj => ?_⟩ hb (fun b hbl hne => k2.block b hbl (fun e => hne e.symm))
    rw [List.length_append, ← hm] at hj
    by_cases hjl : j < ls.length
    · obtain ⟨y, hy', hg⟩ := h2 j hjl
      exact ⟨y, by rw [List.getElem?_append_left (by omega)]; exact hy', by rw [seg_append_left _ _ _ hjl]; exact hg.grown h1 k2 hb⟩
    · obtain ⟨y, hy', hg⟩ := hseg (j - ls.length) (by omega)
      exact ⟨y, by rw [List.getElem?_append_right (by omega), hlen]; exact hy', by rw [seg_append_right _ _ _ (by omega)]; exact hg.grown h1 k2 hb⟩

/-- 'append(s, l)': one segment -/
theorem wpList_app1S {ops : Array Oper} {rest : List Oper} {o : Oper} {a : Act} {Q : Exit → Act → World → Prop} {w : World} (hgd : o.guard = none) (s x : Operand) (t : TypeId)
    (ho : o.op = .call { callee := .builtin .append, args := #[s, x], argTypes := #[t, t] }) (ht : Tryd.prog.underlying t = some (.slice 38))
    {base : Nat} {v u : Value} {ls : List (List Int)} {l : List Int} (hs : a.eval s = v) (hown : OwnS w base v ls) (hu : SegOK w base u l) {T : TypeId} (n1 : Nat) (hn1 : n1 = w.heap.size) (hx : a.eval x = .slice (some ⟨n1, 0, none⟩) 1 1)
    (hn : ls.length + 1 ≤ 1000000) (hbase : base ≤ w.heap.size)
    (h : ∀ v' w', OwnS w' base v' (ls ++ [l]) → Below base w w' → (∀ b, b < w.heap.size → v.ownBlock ≠ some b → w'.heap[b]? = w.heap[b]?) → wpList Tryd.prog ops Q rest (a.put o.dst v') w') : wpList Tryd.prog ops Q (o :: rest) a (w.alloc (.cells #[u] T)) := by
  subst hn1
  have hb0 : Below w.heap.size w (w.alloc (.cells #[u] T)) := (Below.refl _ _).alloc (Nat.le_refl _) _
  refine wpList_appV (ms := [l]) hgd s x t ho ht hs (hown.below hb0 (Nat.le_refl _)) rfl hx [u] rfl ?_ ?_ (by simpa using hn) (by simp; omega) ?_
  · intro j y hj
    cases j with
    | zero => simp at hj; subst hj; simp [Addr.add]
    | succ j => simp at hj
  · intro j hj
    obtain rfl : j = 0 := by simp at hj; omega
    exact ⟨u, rfl, hu.below hb0 (Nat.le_refl _)⟩
  · intro v' w' k1 k2 k3
    refine h v' w' k1 (((Below.refl base w).alloc hbase _).trans k2) fun b hbl hne => ?_
    rw [k3 b (by simp; omega) hne]
    exact hb0.block b hbl

/-- 'append(s, segs...)': a message that came in -/
theorem wpList_appM {ops : Array Oper} {rest : List Oper} {o : Oper} {a : Act} {Q : Exit → Act → World → Prop} {w W : World} (hgd : o.guard = none) (s x : Operand) (t : TypeId)
    (ho : o.op = .call { callee := .builtin .append, args := #[s, x], argTypes := #[t, t] }) (ht : Tryd.prog.underlying t = some (.slice 38))
    {base : Nat} {v : Value} {ls ms : List (List Int)} (hs : a.eval s = v) (hown : OwnS w base v ls) {A : Option Addr} {c : Nat} (hx : a.eval x = .slice A ms.length c) (hm : Sg W A ms) (hW : W.heap.size ≤ base) (hbW : Below base W w) (h0 : 0 < ms.length)
    (hn : ls.length + ms.length ≤ 1000000) (hbase : base ≤ w.heap.size)
    (h : ∀ v' w', OwnS w' base v' (ls ++ ms) → Below base w w' → (∀ b, b < w.heap.size → v.ownBlock ≠ some b → w'.heap[b]? = w.heap[b]?) → wpList Tryd.prog ops Q rest (a.put o.dst v') w') : wpList Tryd.prog ops Q (o :: rest) a w := by
  obtain ⟨b, off, rfl, hc⟩ := hm.at h0
  have hall : ∀ j : Nat, ∃ u, j < ms.length → (w.cell? ⟨b, off + j, none⟩ = some u ∧ SegOK w base u (seg ms j)) := by
    intro j
    by_cases hj : j < ms.length
    · obtain ⟨u, hu, hh⟩ := hc j hj
      have hlt : b < W.heap.size := World.block_lt_of_cell? W ⟨b, off + j, none⟩ hu
      exact ⟨u, fun _ => ⟨(hbW.cell (p := ⟨b, off + j, none⟩) (by show b < base; omega)).trans hu, SegOK.came hh hW hbW⟩⟩
    · exact ⟨undef, fun h => absurd h hj⟩
  obtain ⟨f, hf⟩ : ∃ f : Nat → Value, ∀ j, j < ms.length → (w.cell? ⟨b, off + j, none⟩ = some (f j) ∧ SegOK w base (f j) (seg ms j)) := ⟨fun j => Classical.choose (hall j), fun j => Classical.choose_spec (hall j)⟩
  refine wpList_appV hgd s x t ho ht hs hown rfl hx ((List.range ms.length).map f) (by simp) ?_ ?_ hn hbase h
  · intro j u hj
    have hjl : j < ms.length := by
      rcases Nat.lt_or_ge j ms.length with h1 | h1
      · exact h1
      · rw [List.getElem?_eq_none (by simpa using h1)] at hj; cases hj
    simp [hjl] at hj
    subst hj
    rw [add_plain]
    exact (hf j hjl).1
  · intro j hj
    exact ⟨f j, by simp [hj], (hf j hj).2⟩

theorem Got.lit (w : World) {base : Nat} (zs : List Int) (hb : base ≤ w.heap.size) (n : Nat) (hn : n = zs.length) (hm : n ≤ maxLen) : Got (w.alloc (.cells (zs.map (Value.int .u64)).toArray 39)) base 39 .u64 (.slice (some ⟨w.heap.size, 0, none⟩) n n) zs := by
  subst hn
  exact ⟨by simp, .inr ⟨w.heap.size, zs.length, (zs.map (Value.int .u64)).toArray, rfl, hb, by unfold World.alloc; simp, Nat.le_refl _, hm, by simp, by simp [List.take_of_length_le]⟩⟩

theorem OwnS.made (w : World) {base : Nat} (hb : base ≤ w.heap.size) : OwnS (w.alloc (.cells #[] 38)) base (.slice (some ⟨w.heap.size, 0, none⟩) 0 0) [] :=
  ⟨[], World.ownsRow_made w #[] 0 hb (Nat.zero_le _) rfl, fun j hj => by simp at hj⟩
end Go.Proofs.YtljkdhdkbolnjaaDoor
