/- 'append(s, make([]T, k)...)' onto a row of the call's own: k zero values behind it (k may be 0, there may be room or none). -/
import Derived.Test.YtgleanjfaecceaaNodeK
import Derived.Lib.AppendZerosOnto
namespace Go.Proofs.Ytgleanjfaecceaa
open Go.ChangeShapes Go.WideShapes Go.ChangeAt Go.RowKit
set_option linter.unusedVariables false
set_option linter.unusedSimpArgs false

theorem run_append_own_zeros {P : Program} (w : World) (base : Nat) (t tn ty e : TypeId) (i : TypeInfo) (z : Value) (size bytes : Nat) (kq kn : IntKind) (ht : P.underlying t = some (.slice e)) (htn : P.underlying tn = some (.int kn)) (hi : P.info? e = some i) (hz : i.zero = some z)
    (hsize : i.size = size) (hby : i.bytes = bytes) (hzs : z.cells.size = size) (hsz : 0 < size)
    (v : Value) (n : Nat) (xs : List Value) (hown : w.ownsRow base e size v n xs) (k : Nat) (h1 : ∀ u ∈ (Builtin.zeroCells z.cells k).toList, u.oneCell' = true)
    (h63 : n + k ≤ maxLen) (hbytes : (n + k) * bytes ≤ 140737488355328) (hbase : base ≤ w.heap.size) :
    ∃ v' w', (Builtin.append_ #[t, tn] ty #[v, .int kq k]).run P w = .ok v' w' ∧ w'.ownsRow base e size v' (n + k) (xs ++ (Builtin.zeroCells z.cells k).toList) ∧ w.grownBy w' v.ownBlock := by
  subst hsize
  subst hby
  have hsmall : n + k ≤ 9223372036854775807 := by simp only [maxLen] at h63; omega
  have hl : (Builtin.zeroCells z.cells k).toList.length = k * i.size := by rw [Array.length_toList, size_zeroCells, hzs]
  have hlen : (xs ++ (Builtin.zeroCells z.cells k).toList).length = (n + k) * i.size := by rw [List.length_append, hown.1, hl, Nat.add_mul]
  have hw : IntKind.i64.wrap (k : Int) = k := by rw [IntKind.wrap_i64]; omega
  have hneg : ¬ ((k : Int) < 0) := by omega
  have h48 : k * i.bytes ≤ 281474976710656 := by
    have : k * i.bytes ≤ (n + k) * i.bytes := Nat.mul_le_mul_right _ (by omega)
    omega
  have h48i : ¬ (281474976710656 < (k : Int) * (i.bytes : Int)) := by
    rw [← Int.natCast_mul]
    omega
  have grown : ∀ (old : Nat), old < n + k → ∀ (row : Option Nat),
      (w.drew.alloc (.cells (xs.toArray ++ Builtin.zeroCells z.cells k ++ Builtin.zeroCells z.cells (grownCap w (n + k) old e - (n + k))) e)).ownsRow base e i.size
        (.slice (some ⟨w.heap.size, 0, none⟩) (n + k) (grownCap w (n + k) old e)) (n + k) (xs ++ (Builtin.zeroCells z.cells k).toList) ∧
      w.grownBy (w.drew.alloc (.cells (xs.toArray ++ Builtin.zeroCells z.cells k ++ Builtin.zeroCells z.cells (grownCap w (n + k) old e - (n + k))) e)) row := by
    intro old ho row
    have hge := grownCap_ge w (n + k) old e
    have hcm : grownCap w (n + k) old e ≤ maxLen := grownCap_le_maxLen w (n + k) old e h63
    refine ⟨⟨hlen, .inr ⟨w.heap.size, _, _, rfl, hbase, heap_alloc_new w.drew _, hge, hcm, ?_, ?_⟩⟩, ⟨rfl, rfl, rfl, by simp, fun q hq _ => by rw [Below.heap_alloc _ _ _ (by simpa using hq)]; rfl⟩⟩
    · simp only [Array.size_append, List.size_toArray, size_zeroCells, hzs, hown.1, ← Nat.add_mul]
      congr 1
      omega
    · simp only [Array.toList_append, List.append_assoc]
      rw [← List.append_assoc, ← hlen]
      exact List.take_left
  rcases hown.2 with ⟨rfl, rfl⟩ | ⟨g, cap, cur, rfl, hbg, hg, hnc, hcm, hcs, htake⟩
  · have hx : xs = [] := List.eq_nil_of_length_eq_zero (by simpa using hown.1)
    subst hx
    by_cases hm : k = 0
    · subst hm
      have hn : (Builtin.zeroCells z.cells 0).toList = [] := List.eq_nil_of_length_eq_zero (by simpa using hl)
      refine ⟨.slice none 0 0, w, ?_, by rw [hn]; exact World.ownsRow_nil w base e i.size, ⟨rfl, rfl, rfl, Nat.le_refl _, fun _ _ _ => rfl⟩⟩
      simp [Builtin.append_, run_underlying ht, run_underlying htn, sizeOf, typeInfo, hi, asInt, asIntOf, IntKind.wrap_i64]
    · have hr := Lib.run_append_nil_zeros (P := P) w t tn ty e i z kq kn ht htn hi hz k (by omega) (by omega) (by omega) h48
      have hgr := grown 0 (by omega) (Value.ownBlock (.slice none 0 0))
      simp only [Nat.zero_add, List.nil_append, Array.empty_append] at hgr ⊢
      exact ⟨_, _, hr, hgr.1, hgr.2⟩
  · by_cases hroom : n + k ≤ cap
    · have hfit : n * i.size + (Builtin.zeroCells z.cells k).toList.length ≤ cur.size := by rw [hl, hcs, ← Nat.add_mul]; exact Nat.mul_le_mul_right _ hroom
      have hst := run_storeCells_at P g (n * i.size) e (Builtin.zeroCells z.cells k).toList 0 cur w hg (by simpa using hfit) h1
      simp only [Nat.add_zero] at hst
      have hr : (Builtin.append_ #[t, tn] ty #[.slice (some ⟨g, 0, none⟩) n cap, .int kq k]).run P w = .ok (.slice (some ⟨g, 0, none⟩) (n + k) cap) (w.setRow g (cur.toList.take (n * i.size) ++ (Builtin.zeroCells z.cells k).toList ++ cur.toList.drop (n * i.size + (Builtin.zeroCells z.cells k).toList.length)).toArray) := by
        by_cases hk0 : k * i.size = 0
        · have hz0 : Builtin.zeroCells z.cells k = #[] := Array.eq_empty_of_size_eq_zero (by rw [size_zeroCells, hzs]; exact hk0)
          rw [hz0] at hst ⊢
          simp [Builtin.append_, run_underlying ht, run_underlying htn, sizeOf, typeInfo, zeroValue, hi, hz, asInt, asIntOf, hw, hneg, h48i, hroom, hk0, Addr.add_lit] at hst ⊢
          rw [hst]; rfl
        · simp [Builtin.append_, run_underlying ht, run_underlying htn, sizeOf, typeInfo, zeroValue, hi, hz, asInt, asIntOf, hw, hneg, h48i, hroom, hk0, Addr.add_lit, hst]
      refine ⟨_, _, hr, ⟨hlen, .inr ⟨g, cap, _, rfl, hbg, setRow_heap w g cur _ e _ hg, hroom, hcm, ?_, ?_⟩⟩, ⟨rfl, rfl, rfl, by simp, fun k _ hk => setRow_other w g k _ (fun e => hk (by simp [Value.ownBlock, e]))⟩⟩
      · simp only [List.size_toArray, List.length_append, List.length_take, List.length_drop, Array.length_toList]
        rw [Array.length_toList] at hfit
        omega
      · rw [htake, ← hlen]
        exact List.take_left
    · have holds : ∀ j u, xs[j]? = some u → w.cell? ((⟨g, 0, none⟩ : Addr).add j) = some u := hown.cells (g := g) rfl
      have hk0 : 0 < k := by omega
      have hr := Lib.run_append_grow_zeros (P := P) w t tn ty e i z kq kn ht htn hi hz (some ⟨g, 0, none⟩) n cap xs (run_firstCells_some w.drew i.size n ⟨g, 0, none⟩ n cap xs hown.1 (by simpa using holds)) k hk0 (by omega) (by omega) (by omega) h48 (growslice_fits (by omega) hbytes)
      have hgr := grown cap (by omega) (Value.ownBlock (.slice (some ⟨g, 0, none⟩) n cap))
      exact ⟨_, _, hr, hgr.1, hgr.2⟩

theorem zeroCells_get {z : Array Value} {k s j : Nat} (hs : z.size = s) (hj : j < k * s) : (Builtin.zeroCells z k).toList[j]? = z[j % s]? := by
  have hp : 0 < s := Nat.pos_of_ne_zero fun h => by subst h; omega
  have hm : j % s < z.size := by rw [hs]; exact Nat.mod_lt _ hp
  simp [Builtin.zeroCells, hs, hj, hm, getElem!_pos]
  rw [getElem!_pos z (j % s) hm, Array.getElem?_eq_getElem hm]

/-- k zero numbers behind a row of numbers of the call's own -/
theorem wpList_appZ {ops : Array Oper} {rest : List Oper} {o : Oper} {a : Act} {Q : Exit → Act → World → Prop} {w : World} (hgd : o.guard = none) (s x : Operand) (t tn : TypeId)
    (ho : o.op = .call { callee := .builtin .append, args := #[s, x], argTypes := #[t, tn] })
    {base : Nat} {e : TypeId} {i : TypeInfo} {k kn kq : IntKind} {bytes : Nat} (ht : Try.prog.underlying t = some (.slice e)) (htn : Try.prog.underlying tn = some (.int kn)) (hi : Try.prog.info? e = some i) (hz : i.zero = some (.int k 0)) (hsize : i.size = 1) (hby : i.bytes = bytes)
    {v : Value} {zs : List Int} {n : Nat} (hs : a.eval s = v) (hown : Got w base e k v zs) (hx : a.eval x = .int kq n)
    (h63 : zs.length + n ≤ maxLen) (hbytes : (zs.length + n) * bytes ≤ 140737488355328) (hbase : base ≤ w.heap.size)
    (h : ∀ v' w', Got w' base e k v' (zs ++ List.replicate n 0) → Below base w w' → wpList Try.prog ops Q rest (a.put o.dst v') w') : wpList Try.prog ops Q (o :: rest) a w := by
  have hc : (Value.int k 0).cells = #[.int k 0] := rfl
  obtain ⟨v', w', hr, h1, h2⟩ := run_append_own_zeros (P := Try.prog) w base t tn o.type e i (.int k 0) 1 bytes kq kn ht htn hi hz hsize hby rfl (by decide) v zs.length _ hown n (by
    intro u hu
    obtain ⟨j, hj, rfl⟩ := List.getElem_of_mem hu
    have hjl : j < n * 1 := by rw [Array.length_toList, size_zeroCells] at hj; exact hj
    have hg := zeroCells_get (z := (Value.int k 0).cells) (k := n) (s := 1) rfl hjl
    rw [List.getElem?_eq_getElem hj, Nat.mod_one] at hg
    rw [Option.some.inj hg]
    rfl) h63 hbytes hbase
  refine Lib.wpList_append_run w hgd s x t tn ho v _ hs hx v' w' hr (h v' w' ?_ ((Below.refl base w).grown h2 hbase (fun g hg => (World.ownsRow.lt hown g hg).1)))
  unfold Got
  rw [List.length_append, List.length_replicate, List.map_append, List.map_replicate]
  have e1 : (Builtin.zeroCells (Value.int k 0).cells n).toList = List.replicate n (Value.int k 0) := by
    apply List.ext_getElem?
    intro j
    by_cases hj : j < n
    · rw [zeroCells_get (s := 1) rfl (by omega), Nat.mod_one, List.getElem?_replicate, if_pos hj]
      rfl
    · rw [List.getElem?_eq_none (by rw [Array.length_toList, size_zeroCells]; show n * 1 ≤ j; omega), List.getElem?_replicate, if_neg hj]
  rw [← e1]
  exact h1

/-- n null nodes behind a row of nodes of the call's own -/
theorem wpList_appKZ {ops : Array Oper} {rest : List Oper} {o : Oper} {a : Act} {Q : Exit → Act → World → Prop} {w W0 : World} (hgd : o.guard = none) (s x : Operand) (t tn : TypeId)
    (ho : o.op = .call { callee := .builtin .append, args := #[s, x], argTypes := #[t, tn] }) {kn kq : IntKind} (ht : Try.prog.underlying t = some (.slice 25)) (htn : Try.prog.underlying tn = some (.int kn))
    {base : Nat} {v : Value} {ts : List Nd} {n : Nat} (hs : a.eval s = v) (hown : OwnK W0 w base v ts) (hx : a.eval x = .int kq n) (hn : ts.length + n ≤ 1099511627776) (hbase : base ≤ w.heap.size)
    (h : ∀ v' w', OwnK W0 w' base v' (ts ++ List.replicate n nd0) → Below base w w' → wpList Try.prog ops Q rest (a.put o.dst v') w') : wpList Try.prog ops Q (o :: rest) a w := by
  obtain ⟨i, hi, hz0, hz1, hz2⟩ := info_parts node_info
  obtain ⟨vs, h1, h2⟩ := hown
  have hlv : vs.length = ts.length * 5 := h1.1
  have hc : (Value.agg #[.int .i64 0, .int .i64 0, .int .i64 0, .slice none 0 0, .slice none 0 0]).cells.size = 5 := rfl
  obtain ⟨v', w', hr, g1, g2⟩ := run_append_own_zeros (P := Try.prog) w base t tn o.type 25 i _ 5 72 kq kn ht htn hi hz0 hz1 hz2 hc (by decide) v ts.length _ h1 n (by
    intro u hu
    obtain ⟨j, hj, rfl⟩ := List.getElem_of_mem hu
    have hjl : j < n * 5 := by rw [Array.length_toList, size_zeroCells] at hj; exact hj
    have hg := zeroCells_get hc hjl
    rw [List.getElem?_eq_getElem hj] at hg
    have h5 : j % 5 < 5 := Nat.mod_lt _ (by decide)
    have : j % 5 = 0 ∨ j % 5 = 1 ∨ j % 5 = 2 ∨ j % 5 = 3 ∨ j % 5 = 4 := by omega
    rcases this with e | e | e | e | e <;> (rw [e] at hg; rw [Option.some.inj hg]; rfl)) (by unfold maxLen; omega) (by omega) hbase
  refine Lib.wpList_append_run w hgd s x t tn ho v _ hs hx v' w' hr (h v' w' ⟨_, by rw [List.length_append, List.length_replicate]; exact g1, fun j hj => ?_⟩ ((Below.refl base w).grown g2 hbase (fun g hg => (World.ownsRow.lt h1 g hg).1)))
  by_cases hjl : j < ts.length
  · obtain ⟨A', c', B', c2', k1, k2⟩ := h2 j hjl
    rw [show (ts ++ List.replicate n nd0)[j] = ts[j] from List.getElem_append_left hjl]
    exact ⟨A', c', B', c2', k1, fun o ho => by rw [List.getElem?_append_left (by omega)]; exact k2 o ho⟩
  · rw [List.length_append, List.length_replicate] at hj
    have e : (ts ++ List.replicate n nd0)[j]'(by rw [List.length_append, List.length_replicate]; exact hj) = nd0 := by
      rw [List.getElem_append_right (by omega), List.getElem_replicate]
    rw [e]
    refine ⟨none, 0, none, 0, nd0_here W0 0 (by decide), fun o ho => ?_⟩
    rw [List.getElem?_append_right (by omega), hlv, zeroCells_get hc (by omega)]
    have : (j * 5 + o - ts.length * 5) % 5 = o := by omega
    rw [this]
    have : o = 0 ∨ o = 1 ∨ o = 2 ∨ o = 3 ∨ o = 4 := by omega
    rcases this with rfl | rfl | rfl | rfl | rfl <;> rfl
end Go.Proofs.Ytgleanjfaecceaa
