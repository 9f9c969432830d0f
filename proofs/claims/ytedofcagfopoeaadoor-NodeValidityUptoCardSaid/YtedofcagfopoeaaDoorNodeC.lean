/- Package node: holders, referents (an iterator over the objects that pointers refer to). -/
import Derived.RangeFuncNested
import Derived.RangeFuncBound
import Derived.RangeFuncCalls
import Derived.RangeFuncLeaves
import Derived.Shelf.Abstract
import Derived.Shelf.RegionOpen
import Derived.WalkKit
import Derived.OwnWalkIn
import Derived.TacticsInMore
import Derived.LoopNIn
import Derived.LoopIn
import Derived.Test.YtedofcagfopoeaaDoorNode
namespace Go.Proofs.YtedofcagfopoeaaDoor
open Go.ChangeShapes Go.WideShapes Go.ChangeAt Go.RowKit Go.Shelf
set_option linter.unusedVariables false
set_option linter.unusedSimpArgs false
attribute [local go_sem] Oper.semAt_some

/-- the nodes whose kids are the pointers of x -/
def holdN (x : Nd) : List Nd := if x.k = 2 ∧ x.e = 7 then x.ks else [x]
theorem targ_hold (x : Nd) : targN x = kk (holdN x) := by
  obtain ⟨k, e, n, d, ks⟩ := x
  have hh : holdN (.mk k e n d ks) = if k = 2 ∧ e = 7 then ks else [.mk k e n d ks] := rfl
  have ht : targN (.mk k e n d ks) = if k = 2 ∧ e = 7 then kk ks else ks := rfl
  rw [hh, ht]
  by_cases h : k = 2 ∧ e = 7
  · rw [if_pos h, if_pos h]
  · rw [if_neg h, if_neg h]
    simp [kk, Nd.ks]
def nz (x : Nd) : Bool := decide (x.k ≠ 0)
def cells5 (x : Nd) (A : Option Addr) (c : Nat) (B : Option Addr) (c2 : Nat) : Array Value := #[.int .i64 x.k, .int .i64 x.e, .int .i64 x.n, .slice A x.d.length c, .slice B x.ks.length c2]

/-- holders(n): n's kids, or n alone in a new slice -/
theorem Holders_any (x : Nd) (A : Option Addr) (c : Nat) (B : Option Addr) (c2 : Nat) (w : World) :
    Calls Tryd.prog 34 #[.agg #[.int .i64 x.k, .int .i64 x.e, .int .i64 x.n, .slice A x.d.length c, .slice B x.ks.length c2]] w fun r w' =>
      ((x.k = 2 ∧ x.e = 7) ∧ r = .returned (.slice B x.ks.length c2) ∧ w' = w.alloc (.cells #[.int .i64 x.k, .int .i64 x.e, .int .i64 x.n, .slice A x.d.length c, .slice B x.ks.length c2] 25)) ∨
      (¬ (x.k = 2 ∧ x.e = 7) ∧ r = .returned (.slice (some ⟨w.heap.size + 1, 0, none⟩) 1 1) ∧ w' = (w.alloc (.cells #[.int .i64 x.k, .int .i64 x.e, .int .i64 x.n, .slice A x.d.length c, .slice B x.ks.length c2] 25)).alloc (.cells #[.int .i64 x.k, .int .i64 x.e, .int .i64 x.n, .slice A x.d.length c, .slice B x.ks.length c2] 25)) := by
  by_cases h1 : x.k = 2
  · by_cases h2 : x.e = 7
    · have t1 : (x.k == 2) = true := by simpa using h1
      have t2 : (x.e == 7) = true := by simpa using h2
      have HH := Lib.hid (And.intro h1 h2)
      clear h1 h2
      go_enter Tryd.func34, Tryd.ntmps34
      go_wp2
      go_ret
      exact .inl ⟨HH.out, rfl, rfl⟩
    · have t1 : (x.k == 2) = true := by simpa using h1
      have t2 : (x.e == 7) = false := by simpa using h2
      have HH : Hid (¬ (x.k = 2 ∧ x.e = 7)) := Lib.hid (fun h => h2 h.2)
      clear h1 h2
      go_enter Tryd.func34, Tryd.ntmps34
      go_wp2
      go_ret
      exact .inr ⟨HH.out, rfl, rfl⟩
  · have t1 : (x.k == 2) = false := by simpa using h1
    have HH : Hid (¬ (x.k = 2 ∧ x.e = 7)) := Lib.hid (fun h => h1 h.1)
    clear h1
    go_enter Tryd.func34, Tryd.ntmps34
    go_wp2
    go_ret
    exact .inr ⟨HH.out, rfl, rfl⟩

/-- referents(n): a function that captures its own copy of n -/
theorem Referents_any (x : Nd) (A : Option Addr) (c : Nat) (B : Option Addr) (c2 : Nat) (w : World) :
    Calls Tryd.prog 28 #[.agg #[.int .i64 x.k, .int .i64 x.e, .int .i64 x.n, .slice A x.d.length c, .slice B x.ks.length c2]] w fun r w' =>
      r = .returned (.func (.func 33) #[] #[.pointer (some ⟨w.heap.size, 0, none⟩)]) ∧ w' = w.alloc (.cells #[.int .i64 x.k, .int .i64 x.e, .int .i64 x.n, .slice A x.d.length c, .slice B x.ks.length c2] 25) := by
  go_enter Tryd.func28, Tryd.ntmps28
  go_wp2
  go_ret
  exact ⟨rfl, rfl⟩

/-- where a node lies -/
structure Pos where
  x : Nd
  A : Option Addr
  c : Nat
  B : Option Addr
  c2 : Nat
def Pos.val (p : Pos) : Value := .agg #[.int .i64 p.x.k, .int .i64 p.x.e, .int .i64 p.x.n, .slice p.A p.x.d.length p.c, .slice p.B p.x.ks.length p.c2]
/-- an object that a pointer of x refers to, as it lies in w -/
abbrev Ref (w : World) (x : Nd) : Type := { p : Pos // NdR w p.A p.c p.B p.c2 p.x ∧ p.x ∈ targN x ∧ p.x.k ≠ 0 }

/-- blocks of cells stay as they are, but for the block D -/
structure KeepC (D : Nat) (W W' : World) : Prop where
  size : W.heap.size ≤ W'.heap.size
  same : ∀ (b : Nat) (o : Obj), b ≠ D → W.heap[b]? = some o → o.isCells = true → W'.heap[b]? = some o
theorem KeepC.refl (D : Nat) (W : World) : KeepC D W W := ⟨Nat.le_refl _, fun _ _ _ h _ => h⟩
theorem KeepC.trans {D : Nat} {X Y Z : World} (h : KeepC D X Y) (k : KeepC D Y Z) : KeepC D X Z := ⟨Nat.le_trans h.size k.size, fun b o hb ho hc => k.same b o hb (h.same b o hb ho hc) hc⟩
theorem KeepC.of_below {D : Nat} {W W' : World} (h : Below W.heap.size W W') : KeepC D W W' := ⟨h.size, fun b o _ ho _ => (h.block b (Array.getElem?_eq_some_iff.1 ho).1).trans ho⟩
theorem KeepC.setCell {D : Nat} (W : World) (v : Value) : KeepC D W (W.setCell ⟨D, 0, none⟩ v) :=
  ⟨(KeepsWalks.setCell W _ v).size, fun b o hb ho _ => (Below.heap_setCell W ⟨D, 0, none⟩ v b (fun e => hb e)).trans ho⟩
theorem KeepC.putObj {D : Nat} (W : World) (l : Nat) (o o' : Obj) (hl : W.heap[l]? = some o) (ho : o.isCells = false) : KeepC D W (W.putObj l o') :=
  ⟨(grownBy_putObj' W l o').size, fun b q _ hq hc => ((grownBy_putObj' W l o').block b (Array.getElem?_eq_some_iff.1 hq).1 (fun e => by cases e; rw [hl] at hq; cases hq; rw [ho] at hc; cases hc)).trans hq⟩
theorem KeepC.cell {D : Nat} {W W' : World} (h : KeepC D W W') {p : Addr} {v : Value} (hp : p.block ≠ D) (hv : W.cell? p = some v) : W'.cell? p = some v := by
  unfold World.cell? at hv ⊢
  cases hb : W.heap[p.block]? with
  | none => rw [hb] at hv; cases hv
  | some o =>
    rw [hb] at hv
    cases o with
    | cells cs t f => rw [h.same _ _ hp hb rfl]; exact hv
    | _ => cases hv

/-- what a round keeps: what lay below N, and all blocks of cells but D -/
def KpR (N D : Nat) (W W' : World) : Prop := Below N W W' ∧ KeepC D W W'

/-- the nodes hs can be read at B' -/
def ReadH (w wr : World) (D : Nat) (B' : Option Addr) (hs : List Nd) : Prop :=
  ∀ j (hj : j < hs.length), ∃ b off A' c' B'' c2', B' = some ⟨b, off, none⟩ ∧ b ≠ D ∧ wr.cell? ⟨b, off + j * 5, none⟩ = some (.int .i64 (hs[j]).k) ∧ wr.cell? ⟨b, off + j * 5 + 1, none⟩ = some (.int .i64 (hs[j]).e) ∧ wr.cell? ⟨b, off + j * 5 + 2, none⟩ = some (.int .i64 (hs[j]).n) ∧
    wr.cell? ⟨b, off + j * 5 + 3, none⟩ = some (.slice A' (hs[j]).d.length c') ∧ wr.cell? ⟨b, off + j * 5 + 4, none⟩ = some (.slice B'' (hs[j]).ks.length c2') ∧ NdR w A' c' B'' c2' hs[j]
theorem ReadH.keep {w W W' : World} {D : Nat} {B' : Option Addr} {hs : List Nd} (h : ReadH w W D B' hs) (hk : KeepC D W W') : ReadH w W' D B' hs := by
  intro j hj
  obtain ⟨b, off, A', c', B'', c2', hB, hne, h0, h1, h2, h3, h4, h5⟩ := h j hj
  exact ⟨b, off, A', c', B'', c2', hB, hne, hk.cell hne h0, hk.cell hne h1, hk.cell hne h2, hk.cell hne h3, hk.cell hne h4, h5⟩

theorem hold_two {x : Nd} (h : x.k = 2 ∧ x.e = 7) : holdN x = x.ks := by unfold holdN; rw [if_pos h]
theorem hold_one {x : Nd} (h : ¬ (x.k = 2 ∧ x.e = 7)) : holdN x = [x] := by unfold holdN; rw [if_neg h]

theorem Holders_read (x : Nd) (A : Option Addr) (c : Nat) (B : Option Addr) (c2 : Nat) (w W : World) (D : Nat) (hx : NdR w A c B c2 x) (hbw : Below w.heap.size w W) (hD : w.heap.size ≤ D) (hD2 : D < W.heap.size) :
    Calls Tryd.prog 34 #[.agg #[.int .i64 x.k, .int .i64 x.e, .int .i64 x.n, .slice A x.d.length c, .slice B x.ks.length c2]] W fun r w' =>
      ∃ B' c', r = .returned (.slice B' (holdN x).length c') ∧ ReadH w w' D B' (holdN x) ∧ ((∃ o, w' = W.alloc o) ∨ (∃ o o', w' = (W.alloc o).alloc o')) := by
  refine (Holders_any x A c B c2 W).mono ?_
  rintro r w' (⟨hc, rfl, rfl⟩ | ⟨hc, rfl, rfl⟩)
  · refine ⟨B, c2, by rw [hold_two hc], ?_, .inl ⟨_, rfl⟩⟩
    rw [hold_two hc]
    intro j hj
    have hks : KsR w B x.ks := hx.kidsX.1
    obtain ⟨b, off, A', c', B', c2', hB, k0, k1, k2, k3, k4, k5⟩ := hks.at hj
    have hlt : b < w.heap.size := World.block_lt_of_cell? w ⟨b, off + j * 5, none⟩ k0
    have hb2 : Below w.heap.size w (W.alloc (.cells #[.int .i64 x.k, .int .i64 x.e, .int .i64 x.n, .slice A x.d.length c, .slice B x.ks.length c2] 25)) := hbw.alloc hbw.size _
    have hcc := fun o => hb2.cell (p := ⟨b, o, none⟩) (by show b < w.heap.size; exact hlt)
    exact ⟨b, off, A', c', B', c2', hB, by omega, (hcc _).trans k0, (hcc _).trans k1, (hcc _).trans k2, (hcc _).trans k3, (hcc _).trans k4, k5⟩
  · refine ⟨some ⟨W.heap.size + 1, 0, none⟩, 1, by rw [hold_one hc]; rfl, ?_, .inr ⟨_, _, rfl⟩⟩
    rw [hold_one hc]
    intro j hj
    have hj0 : j = 0 := by simpa using hj
    subst hj0
    have hb := (Blk.new (W := W.alloc (.cells #[.int .i64 x.k, .int .i64 x.e, .int .i64 x.n, .slice A x.d.length c, .slice B x.ks.length c2] 25)) (b := W.heap.size + 1) (cs := #[.int .i64 x.k, .int .i64 x.e, .int .i64 x.n, .slice A x.d.length c, .slice B x.ks.length c2]) (T := 25) (by simp)).cell
    exact ⟨W.heap.size + 1, 0, A, c, B, c2, rfl, by omega, hb 0, hb 1, hb 2, hb 3, hb 4, hx⟩

theorem kk_in {l : List Nd} {i : Nat} (h : i < l.length) {j : Nat} (hj : j < (l[i]).ks.length) : ((l[i]).ks)[j] ∈ kk l := by
  unfold kk
  exact List.mem_flatMap.2 ⟨l[i], List.getElem_mem h, List.getElem_mem hj⟩

def nzs (l : List Nd) : List Nd := l.filter nz
theorem kk_split {l : List Nd} {a : Nat} (h : a < l.length) {j : Nat} (hj : j < (l[a]).ks.length) :
    kk l = (kk (l.take a) ++ (l[a]).ks.take j) ++ ((l[a]).ks)[j] :: ((l[a]).ks.drop (j + 1) ++ kk (l.drop (a + 1))) := by
  have e1 : l = l.take a ++ l[a] :: l.drop (a + 1) := by rw [List.getElem_cons_drop h, List.take_append_drop]
  have e2 : (l[a]).ks = (l[a]).ks.take j ++ ((l[a]).ks)[j] :: (l[a]).ks.drop (j + 1) := by rw [List.getElem_cons_drop hj, List.take_append_drop]
  have e3 : kk l = kk (l.take a) ++ ((l[a]).ks ++ kk (l.drop (a + 1))) := by
    conv => lhs; rw [e1]
    rw [kk_append]
    congr 1
  have e4 : kk (l.take a) ++ ((l[a]).ks ++ kk (l.drop (a + 1))) = kk (l.take a) ++ (((l[a]).ks.take j ++ ((l[a]).ks)[j] :: (l[a]).ks.drop (j + 1)) ++ kk (l.drop (a + 1))) := congrArg (fun z => kk (l.take a) ++ (z ++ kk (l.drop (a + 1)))) e2
  rw [e3]
  exact e4.trans (by simp only [List.append_assoc, List.cons_append])
theorem nzs_lt {P S : List Nd} {y : Nd} (h : y.k ≠ 0) : (nzs P).length < (nzs (P ++ y :: S)).length := by
  unfold nzs
  rw [List.filter_append, List.length_append]
  have : (y :: S).filter nz = y :: S.filter nz := List.filter_cons_of_pos (by simp [nz, h])
  rw [this, List.length_cons]
  omega
theorem nzs_snoc {P : List Nd} {y : Nd} (h : y.k ≠ 0) : nzs (P ++ [y]) = nzs P ++ [y] := by
  unfold nzs
  rw [List.filter_append]
  congr 1
  exact List.filter_cons_of_pos (by simp [nz, h])
theorem nzs_skip {P : List Nd} {y : Nd} (h : y.k = 0) : nzs (P ++ [y]) = nzs P := by
  unfold nzs
  rw [List.filter_append]
  have : [y].filter nz = [] := List.filter_cons_of_neg (by simp [nz, h])
  rw [this, List.append_nil]
theorem hold_len (x : Nd) (hs : sizeN x ≤ 1099511627776) : (holdN x).length ≤ 1099511627776 := by
  by_cases h : x.k = 2 ∧ x.e = 7
  · rw [hold_two h]
    have h1 := sizeK_length x.ks
    have h2 := sizeK_ks x
    omega
  · rw [hold_one h]; simp
theorem hold_kids (x : Nd) (hs : sizeN x ≤ 1099511627776) (a : Nat) (h : a < (holdN x).length) : ((holdN x)[a]).ks.length ≤ 1099511627776 := by
  have h1 := kk_take (holdN x) a h
  have h2 := kk_append ((holdN x).take (a + 1)) ((holdN x).drop (a + 1))
  rw [List.take_append_drop, ← targ_hold, h1] at h2
  have h3 := sizeK_length (targN x)
  have h4 := sizeK_targ x
  have h5 := congrArg List.length h2
  simp only [List.length_append] at h5
  omega
theorem abides_alloc {β : Type} {B : Nat} {J : β → World → Prop} (hJ : AbidesFrom B J) {s : β} {W : World} (o : Obj) (h : J s W) : J s (W.alloc o) := hJ s W (W.alloc o) none h (World.grownBy_alloc W o none) (fun r e => by cases e)

set_option maxRecDepth 100000 in
set_option maxHeartbeats 4000000 in
theorem Iter_in (n : Nat) (hn : 1 ≤ n) (l bn D : Nat) (x : Nd) (A : Option Addr) (c : Nat) (B : Option Addr) (c2 : Nat) (w W : World) (hx : NdR w A c B c2 x) (hs : sizeN x ≤ 1099511627776) (hbw : Below w.heap.size w W) (hD : w.heap.size ≤ D) (hD2 : D < W.heap.size)
    (hbn : ∀ o, W.cell? ⟨bn, o, none⟩ = (cells5 x A c B c2)[o]?)
    (J Jx : List (Ref w x) → World → Prop) (hJ : AbidesFrom W.heap.size J)
    (hY : ∀ pre p W1, J pre W1 → pre.length < (nzs (targN x)).length → YieldAt Fence.wide (n - 1) Tryd.prog l #[Pos.val p.1] W1 fun e W' =>
      (e = .returned (.bool true) ∧ J (pre ++ [p]) W' ∧ KpR w.heap.size D W1 W') ∨ (e = .returned (.bool false) ∧ Jx (pre ++ [p]) W'))
    (h0 : J [] W) :
    CallsIn Fence.wide n Tryd.prog 33 #[.func (.yield l) #[] #[], .pointer (some ⟨bn, 0, none⟩)] W fun e W' => (∃ v, e = .returned v) ∧
      ((∃ ys : List (Ref w x), ys.map (fun p => p.1.x) = nzs (targN x) ∧ J ys W') ∨ (∃ pre : List (Ref w x), True ∧ Jx pre W')) := by
  refine callsIn_of_wp Tryd.func33 rfl trivial ?_ rfl
  simp only [Tryd.ntmps33, List.size_toArray, List.length_cons, List.length_nil, Nat.reduceAdd, Nat.reduceSub, Array.replicate_succ, Array.replicate_zero, List.push_toArray, List.append_toArray, List.nil_append, List.cons_append]
  have hbn1 : ∀ o, W.cell? ⟨bn, o, none⟩ = (#[.int .i64 x.k, .int .i64 x.e, .int .i64 x.n, .slice A x.d.length c, .slice B x.ks.length c2] : Array Value)[o]? := hbn
  clear hbn
  gi_wp2
  refine ⟨trivial, ?_⟩
  refine (callsIn_wide.2 (Holders_read x A c B c2 w W D hx hbw hD hD2)).mono ?_
  rintro e w1 ⟨B', c', rfl, hrd, hw1⟩
  have hj1 : J [] w1 := by
    rcases hw1 with ⟨o, rfl⟩ | ⟨o, o', rfl⟩
    · exact abides_alloc hJ _ h0
    · exact abides_alloc hJ _ (abides_alloc hJ _ h0)
  have hsz1 : W.heap.size < w1.heap.size := by
    rcases hw1 with ⟨o, rfl⟩ | ⟨o, o', rfl⟩ <;> simp
    omega
  have hbw1 : Below w.heap.size w w1 := by
    rcases hw1 with ⟨o, rfl⟩ | ⟨o, o', rfl⟩
    · exact hbw.alloc hbw.size _
    · exact (hbw.alloc hbw.size _).alloc (by simp; have := hbw.size; omega) _
  have HX := Lib.hid hx
  have HTH := Lib.hid (targ_hold x)
  have hlh := hold_len x hs
  have HKL := Lib.hid (hold_kids x hs)
  generalize hold : holdN x = hs at *
  clear hold hw1 hx hbn1 hbw h0
  gi_wp2
  gi_loopw [10] (fun i wr => ∃ (a : Nat) (pre : List (Ref w x)), a ≤ hs.length ∧ i = .int .i64 a ∧ pre.map (fun p => p.1.x) = nzs (kk (hs.take a)) ∧ J pre wr ∧ ReadH w wr D B' hs ∧ Below w.heap.size w wr ∧ W.heap.size ≤ wr.heap.size) (fun i _ => hs.length - (intOf i).toNat)
  case atStart => exact ⟨0, [], by omega, rfl, rfl, hj1, hrd, hbw1, by omega⟩
  case round =>
    obtain ⟨a, pre, ha, rfl, hpre, hJ1, hrd1, hb1, hz1⟩ := hrel
    by_cases hlt : a < hs.length
    · obtain ⟨b, off, A1, c1, B1, c3, rfl, hne, k0, k1, k2, k3, k4, hk⟩ := hrd1 a hlt
      have hlt' : (a : Int) < (hs.length : Int) := by omega
      have hkl := HKL.out a hlt
      have HK := Lib.hid hk.kidsX.1
      have HSP := Lib.hid (fun j (hj : j < (hs[a]).ks.length) => kk_split hlt hj)
      have HTK := Lib.hid (kk_take hs a hlt)
      have HRD := Lib.hid hrd1
      have HJ1 := Lib.hid hJ1
      clear hk hrd1 hJ1
      generalize hkx : hs[a] = kx at *
      gi_wp2
      have HB1 := Lib.hid hb1
      clear hb1 k0 k1 k2 k3 k4
      gi_loopw [17] (fun i w2 => ∃ (j : Nat) (pre2 : List (Ref w x)), j ≤ kx.ks.length ∧ i = .int .i64 j ∧ pre2.map (fun p => p.1.x) = nzs (kk (hs.take a) ++ kx.ks.take j) ∧ J pre2 w2 ∧ ReadH w w2 D (some ⟨b, off, none⟩) hs ∧ Below w.heap.size w w2 ∧ W.heap.size ≤ w2.heap.size) (fun i _ => kx.ks.length - (intOf i).toNat)
      case atStart => exact ⟨0, pre, by omega, rfl, by simpa using hpre, abides_alloc hJ _ HJ1.out, HRD.out.keep (KeepC.of_below ((Below.refl _ _).alloc (Nat.le_refl _) _)), HB1.out.alloc HB1.out.size _, by simp; omega⟩
      case round =>
        obtain ⟨j, pre2, hj, rfl, hpre2, hJ2, hrd2, hb2, hz2⟩ := hrel
        by_cases hlt2 : j < kx.ks.length
        · obtain ⟨b2, off2, A2, c2', B2, c4, rfl, k0, k1, k2, k3, k4, hk2⟩ := HK.out.atIn hb2 (Nat.le_refl _) hlt2
          have hlt2' : (j : Int) < (kx.ks.length : Int) := by omega
          have HMEM : Hid (kx.ks[j] ∈ targN x) := Lib.hid (by rw [HTH.out, HSP.out j hlt2]; simp)
          have HLT : Hid ((kx.ks[j]).k ≠ 0 → pre2.length < (nzs (targN x)).length) := Lib.hid (fun hne => by
            rw [HTH.out, HSP.out j hlt2]
            have := nzs_lt (P := kk (hs.take a) ++ kx.ks.take j) (S := kx.ks.drop (j + 1) ++ kk (hs.drop (a + 1))) hne
            rw [← hpre2, List.length_map] at this
            exact this)
          have HTJ : Hid (kk (hs.take a) ++ kx.ks.take (j + 1) = (kk (hs.take a) ++ kx.ks.take j) ++ [kx.ks[j]]) := Lib.hid (by rw [List.take_succ_eq_append_getElem hlt2, List.append_assoc])
          generalize hy : kx.ks[j] = y at *
          by_cases hy0 : y.k = 0
          · have t1 : (y.k != 0) = false := by simpa using hy0
            have HE : Hid (pre2.map (fun p => p.1.x) = nzs (kk (hs.take a) ++ kx.ks.take (j + 1))) := Lib.hid (by rw [HTJ.out, nzs_skip hy0]; exact hpre2)
            have HJ2 := Lib.hid (abides_alloc hJ (.cells #[.int .i64 y.k, .int .i64 y.e, .int .i64 y.n, .slice A2 y.d.length c2', .slice B2 y.ks.length c4] 25) hJ2)
            have HRD2 := Lib.hid hrd2
            have HB2 := Lib.hid hb2
            clear hy0 hpre2 hJ2 hrd2 hb2
            gi_wp2
            refine ⟨fun _ h => (by cases h), ?_⟩
            gi_wp2
            go_roundw
            case rel => exact ⟨j + 1, pre2, by omega, by go_num, HE.out, HJ2.out, HRD2.out.keep (KeepC.of_below ((Below.refl _ _).alloc (Nat.le_refl _) _)), HB2.out.alloc HB2.out.size _, by simp; omega⟩
            case measure => simp [intOf]; omega
          · have t1 : (y.k != 0) = true := by simpa using hy0
            have hlen := HLT.out hy0
            have HE : Hid (nzs (kk (hs.take a) ++ kx.ks.take (j + 1)) = nzs (kk (hs.take a) ++ kx.ks.take j) ++ [y]) := Lib.hid (by rw [HTJ.out, nzs_snoc hy0])
            have hJ3 := abides_alloc hJ (.cells #[.int .i64 y.k, .int .i64 y.e, .int .i64 y.n, .slice A2 y.d.length c2', .slice B2 y.ks.length c4] 25) hJ2
            obtain ⟨fn, tmps, assign, body, hyy, hR⟩ := hY pre2 ⟨⟨y, A2, c2', B2, c4⟩, hk2, HMEM.out, hy0⟩ _ hJ3 hlen
            have HRD2 := Lib.hid (hrd2.keep (KeepC.of_below ((Below.refl _ _).alloc (Nat.le_refl _) (.cells #[.int .i64 y.k, .int .i64 y.e, .int .i64 y.n, .slice A2 y.d.length c2', .slice B2 y.ks.length c4] 25))))
            have HB2 := Lib.hid (hb2.alloc hb2.size (.cells #[.int .i64 y.k, .int .i64 y.e, .int .i64 y.n, .slice A2 y.d.length c2', .slice B2 y.ks.length c4] 25))
            have HP2 := Lib.hid hpre2
            dsimp only [Pos.val] at hyy
            clear hJ2 hrd2 hb2 hJ3 hpre2
            gi_wp2
            refine hR.mono ?_
            rintro e w3 (⟨rfl, hJ4, hk4⟩ | ⟨rfl, hJx4⟩)
            · have HJ4 := Lib.hid hJ4
              have HK4 := Lib.hid hk4
              have hz4 := hk4.2.size
              simp at hz4
              clear hJ4 hk4
              gi_wp2
              go_roundw
              case rel => exact ⟨j + 1, _, by omega, by go_num, by rw [HE.out, List.map_append, HP2.out]; rfl, HJ4.out, HRD2.out.keep HK4.out.2, HB2.out.trans HK4.out.1, by omega⟩
              case measure => simp [intOf]; omega
            · have HJX := Lib.hid hJx4
              clear hJx4
              gi_wp2
              refine bodyPost_ret (results_none rfl _ _ _) rfl ?_
              exact ⟨⟨_, rfl⟩, .inr ⟨_, trivial, HJX.out⟩⟩
        · obtain rfl : j = kx.ks.length := by omega
          have HE : Hid (pre2.map (fun p => p.1.x) = nzs (kk (hs.take (a + 1)))) := Lib.hid (by rw [HTK.out, hpre2, List.take_length])
          have HJ2 := Lib.hid hJ2
          have HRD2 := Lib.hid hrd2
          have HB2 := Lib.hid hb2
          clear hJ2 hrd2 hb2 hpre2
          gi_wp2
          go_roundw
          case rel => exact ⟨a + 1, pre2, by omega, by go_num, HE.out, HJ2.out, HRD2.out, HB2.out, by omega⟩
          case measure => simp [intOf]; omega
    · obtain rfl : a = hs.length := by omega
      have HE : Hid (pre.map (fun p => p.1.x) = nzs (targN x)) := Lib.hid (hpre.trans (by rw [List.take_length, HTH.out]))
      have HJ1 := Lib.hid hJ1
      clear hJ1 hrd1 hb1 hpre
      gi_wp2
      go_end0
      exact ⟨⟨_, rfl⟩, .inl ⟨pre, HE.out, HJ1.out⟩⟩
end Go.Proofs.YtedofcagfopoeaaDoor
