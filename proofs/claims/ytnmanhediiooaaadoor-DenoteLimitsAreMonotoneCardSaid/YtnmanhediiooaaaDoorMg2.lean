/- The texts Node, TrimN, Ref09, Den, Ref10, RegionA, NodeO, Ref11, Ref10d, NodeF, Ref11b, NodeZ, NodeK, RegionT, Ref10c, Ref12v, Den2, RegionU, NodeU, Ref12m, Ref12n, Den3 (what is wanted of them), one after the other. -/
import Derived.Test.YtnmanhediiooaaaDoorMg1
import Derived.Laws.OwnMore
/- Nodes: trees as Lean data, and what it means that a node lies in memory. -/
namespace Go.Proofs.YtnmanhediiooaaaDoor
open Go.ChangeShapes Go.WideShapes Go.ChangeAt Go.RowKit
set_option linter.unusedVariables false
set_option linter.unusedSimpArgs false
set_option maxRecDepth 100000

inductive Nd where
  | mk (k e n : Int) (d : List Int) (ks : List Nd)
namespace Nd
def k : Nd → Int | .mk k _ _ _ _ => k
def e : Nd → Int | .mk _ e _ _ _ => e
def n : Nd → Int | .mk _ _ n _ _ => n
def d : Nd → List Int | .mk _ _ _ d _ => d
def ks : Nd → List Nd | .mk _ _ _ _ ks => ks
end Nd
theorem Nd.ind {P : Nd → Prop} (h : ∀ k e n d ks, (∀ x ∈ ks, P x) → P (.mk k e n d ks)) : ∀ x, P x :=
  Nd.rec (motive_1 := P) (motive_2 := fun l => ∀ x ∈ l, P x) (fun k e n d ks ih => h k e n d ks ih) (fun x hx => by cases hx) (fun a l ha hl x hx => by
    rcases List.mem_cons.1 hx with rfl | hx
    · exact ha
    · exact hl x hx)

/-- the node that all functions start from -/
def nd0 : Nd := .mk 0 0 0 [] []

/-- a node that stands as five cells: its data at A (capacity c), its kids at B (capacity c2) -/
inductive NdR (w : World) : Option Addr → Nat → Option Addr → Nat → Nd → Prop
  | mk (k e n : Int) (d : List Int) (ks : List Nd) (A : Option Addr) (c : Nat) (B : Option Addr) (c2 : Nat) (FA : Nat → Option Addr) (Fc : Nat → Nat) (FB : Nat → Option Addr) (Fc2 : Nat → Nat)
    (hk : -9223372036854775808 ≤ k ∧ k ≤ 9223372036854775807) (he : -9223372036854775808 ≤ e ∧ e ≤ 9223372036854775807) (hn : -9223372036854775808 ≤ n ∧ n ≤ 9223372036854775807)
    (hd : Ri w .u8 A d) (hb : Bts d) (hdl : d.length ≤ c) (hc : c ≤ maxLen) (hA : A = none → c = 0) (hkl : ks.length ≤ c2) (hc2 : c2 ≤ maxLen) (hB : B = none → c2 = 0)
    (hcell : ks = [] ∨ ∃ b off, B = some ⟨b, off, none⟩ ∧ ∀ j x, ks[j]? = some x → w.cell? ⟨b, off + j * 5, none⟩ = some (.int .i64 x.k) ∧ w.cell? ⟨b, off + j * 5 + 1, none⟩ = some (.int .i64 x.e) ∧ w.cell? ⟨b, off + j * 5 + 2, none⟩ = some (.int .i64 x.n) ∧
      w.cell? ⟨b, off + j * 5 + 3, none⟩ = some (.slice (FA j) x.d.length (Fc j)) ∧ w.cell? ⟨b, off + j * 5 + 4, none⟩ = some (.slice (FB j) x.ks.length (Fc2 j)))
    (hsub : ∀ j x, ks[j]? = some x → NdR w (FA j) (Fc j) (FB j) (Fc2 j) x) : NdR w A c B c2 (.mk k e n d ks)

theorem NdR.on {w w' : World} {A : Option Addr} {c : Nat} {B : Option Addr} {c2 : Nat} {x : Nd} (h : NdR w A c B c2 x) {N : Nat} (hb : Below N w w') (hN : w.heap.size ≤ N) : NdR w' A c B c2 x := by
  induction h with
  | mk k e n d ks A c B c2 FA Fc FB Fc2 hk he hn hd hby hdl hc hA hkl hc2 hB hcell hsub ih =>
    refine .mk k e n d ks A c B c2 FA Fc FB Fc2 hk he hn (hd.below hb hN) hby hdl hc hA hkl hc2 hB ?_ ih
    rcases hcell with h | ⟨b, off, hBe, hcs⟩
    · exact .inl h
    · refine .inr ⟨b, off, hBe, fun j x hj => ?_⟩
      obtain ⟨h0, h1, h2, h3, h4⟩ := hcs j x hj
      have hlt : b < w.heap.size := World.block_lt_of_cell? w ⟨b, off + j * 5, none⟩ h0
      have hc := fun o => hb.cell (p := ⟨b, o, none⟩) (by show b < N; omega)
      exact ⟨(hc _).trans h0, (hc _).trans h1, (hc _).trans h2, (hc _).trans h3, (hc _).trans h4⟩

/-- what is known of a node that lies there -/
theorem NdR.open {w : World} {A : Option Addr} {c : Nat} {B : Option Addr} {c2 : Nat} {k e n : Int} {d : List Int} {ks : List Nd} (h : NdR w A c B c2 (.mk k e n d ks)) :
    (-9223372036854775808 ≤ k ∧ k ≤ 9223372036854775807) ∧ (-9223372036854775808 ≤ e ∧ e ≤ 9223372036854775807) ∧ (-9223372036854775808 ≤ n ∧ n ≤ 9223372036854775807) ∧
    Ri w .u8 A d ∧ Bts d ∧ d.length ≤ c ∧ c ≤ 9223372036854775807 ∧ (A = none → c = 0) ∧ ks.length ≤ c2 ∧ c2 ≤ 9223372036854775807 ∧ (B = none → c2 = 0) := by
  cases h with
  | mk _ _ _ _ _ _ _ _ _ FA Fc FB Fc2 hk he hn hd hby hdl hc hA hkl hc2 hB hcell hsub =>
    unfold maxLen at hc hc2
    exact ⟨hk, he, hn, hd, hby, hdl, by omega, hA, hkl, by omega, hB⟩

/-- its kid j: the five cells and what they hold -/
theorem NdR.kid {w : World} {A : Option Addr} {c : Nat} {B : Option Addr} {c2 : Nat} {k e n : Int} {d : List Int} {ks : List Nd} (h : NdR w A c B c2 (.mk k e n d ks)) {j : Nat} (hj : j < ks.length) :
    ∃ b off A' c' B' c2', B = some ⟨b, off, none⟩ ∧ w.cell? ⟨b, off + j * 5, none⟩ = some (.int .i64 (ks[j]).k) ∧ w.cell? ⟨b, off + j * 5 + 1, none⟩ = some (.int .i64 (ks[j]).e) ∧ w.cell? ⟨b, off + j * 5 + 2, none⟩ = some (.int .i64 (ks[j]).n) ∧
      w.cell? ⟨b, off + j * 5 + 3, none⟩ = some (.slice A' (ks[j]).d.length c') ∧ w.cell? ⟨b, off + j * 5 + 4, none⟩ = some (.slice B' (ks[j]).ks.length c2') ∧ NdR w A' c' B' c2' (ks[j]) := by
  cases h with
  | mk _ _ _ _ _ _ _ _ _ FA Fc FB Fc2 hk he hn hd hby hdl hc hA hkl hc2 hB hcell hsub =>
    rcases hcell with h | ⟨b, off, hBe, hcs⟩
    · subst h; simp at hj
    · have hx : ks[j]? = some ks[j] := List.getElem?_eq_getElem hj
      obtain ⟨h0, h1, h2, h3, h4⟩ := hcs j _ hx
      exact ⟨b, off, _, _, _, _, hBe, h0, h1, h2, h3, h4, hsub j _ hx⟩

mutual
/-- the nodes and bytes of a node -/
def sizeN : Nd → Nat
  | .mk _ _ _ d ks => 1 + d.length + sizeK ks
def sizeK : List Nd → Nat
  | [] => 0
  | x :: xs => sizeN x + sizeK xs
end
theorem sizeK_append (a b : List Nd) : sizeK (a ++ b) = sizeK a + sizeK b := by
  induction a with
  | nil => simp [sizeK]
  | cons x xs ih => simp only [List.cons_append, sizeK, ih]; omega
theorem sizeK_take_le (l : List Nd) (j : Nat) : sizeK (l.take j) ≤ sizeK l := by
  have := sizeK_append (l.take j) (l.drop j)
  rw [List.take_append_drop] at this
  omega
theorem sizeN_kid {l : List Nd} {x : Nd} (h : x ∈ l) : sizeN x ≤ sizeK l := by
  induction l with
  | nil => cases h
  | cons y ys ih =>
    simp only [sizeK]
    rcases List.mem_cons.1 h with rfl | h
    · omega
    · have := ih h; omega
theorem sizeK_length (l : List Nd) : l.length ≤ sizeK l := by
  induction l with
  | nil => simp [sizeK]
  | cons x xs ih =>
    have : 1 ≤ sizeN x := by cases x; simp only [sizeN]; omega
    simp only [List.length_cons, sizeK]; omega

/-- the nodes ts lie one after the other at B -/
def KsR (w : World) (B : Option Addr) (ts : List Nd) : Prop := ts = [] ∨ ∃ b off, B = some ⟨b, off, none⟩ ∧ ∀ j (hj : j < ts.length), ∃ A' c' B' c2',
  w.cell? ⟨b, off + j * 5, none⟩ = some (.int .i64 (ts[j]).k) ∧ w.cell? ⟨b, off + j * 5 + 1, none⟩ = some (.int .i64 (ts[j]).e) ∧ w.cell? ⟨b, off + j * 5 + 2, none⟩ = some (.int .i64 (ts[j]).n) ∧
      w.cell? ⟨b, off + j * 5 + 3, none⟩ = some (.slice A' (ts[j]).d.length c') ∧ w.cell? ⟨b, off + j * 5 + 4, none⟩ = some (.slice B' (ts[j]).ks.length c2') ∧ NdR w A' c' B' c2' (ts[j])
theorem KsR.on {w w' : World} {B : Option Addr} {ts : List Nd} (h : KsR w B ts) {N : Nat} (hb : Below N w w') (hN : w.heap.size ≤ N) : KsR w' B ts := by
  rcases h with h | ⟨b, off, hB, h⟩
  · exact .inl h
  · refine .inr ⟨b, off, hB, fun j hj => ?_⟩
    obtain ⟨A', c', B', c2', h0, h1, h2, h3, h4, h5⟩ := h j hj
    have hlt : b < w.heap.size := World.block_lt_of_cell? w ⟨b, off + j * 5, none⟩ h0
    have hc := fun o => hb.cell (p := ⟨b, o, none⟩) (by show b < N; omega)
    exact ⟨A', c', B', c2', (hc _).trans h0, (hc _).trans h1, (hc _).trans h2, (hc _).trans h3, (hc _).trans h4, h5.on hb hN⟩
theorem KsR.at {w : World} {B : Option Addr} {ts : List Nd} (h : KsR w B ts) {j : Nat} (hj : j < ts.length) :
    ∃ b off A' c' B' c2', B = some ⟨b, off, none⟩ ∧ w.cell? ⟨b, off + j * 5, none⟩ = some (.int .i64 (ts[j]).k) ∧ w.cell? ⟨b, off + j * 5 + 1, none⟩ = some (.int .i64 (ts[j]).e) ∧ w.cell? ⟨b, off + j * 5 + 2, none⟩ = some (.int .i64 (ts[j]).n) ∧
      w.cell? ⟨b, off + j * 5 + 3, none⟩ = some (.slice A' (ts[j]).d.length c') ∧ w.cell? ⟨b, off + j * 5 + 4, none⟩ = some (.slice B' (ts[j]).ks.length c2') ∧ NdR w A' c' B' c2' (ts[j]) := by
  rcases h with h | ⟨b, off, hB, h⟩
  · subst h; simp at hj
  · obtain ⟨A', c', B', c2', h⟩ := h j hj
    exact ⟨b, off, A', c', B', c2', hB, h⟩
theorem NdR.kids {w : World} {A : Option Addr} {c : Nat} {B : Option Addr} {c2 : Nat} {k e n : Int} {d : List Int} {ks : List Nd} (h : NdR w A c B c2 (.mk k e n d ks)) : KsR w B ks := by
  cases ks with
  | nil => exact .inl rfl
  | cons x xs =>
    have h0 := h.kid (j := 0) (by simp)
    obtain ⟨b, off, _, _, _, _, hB, _⟩ := h0
    refine .inr ⟨b, off, hB, fun j hj => ?_⟩
    obtain ⟨b', off', A', c', B', c2', hB', r⟩ := h.kid hj
    rw [hB] at hB'
    injection hB' with e
    injection e with e1 e2
    subst e1
    subst e2
    exact ⟨A', c', B', c2', r⟩

/-- the kids of the kids -/
def kk (ks : List Nd) : List Nd := ks.flatMap Nd.ks
def targN : Nd → List Nd | .mk k e _ _ ks => if k = 2 ∧ e = 7 then kk ks else ks
theorem kk_append (a b : List Nd) : kk (a ++ b) = kk a ++ kk b := by unfold kk; exact List.flatMap_append
theorem kk_take (l : List Nd) (j : Nat) (h : j < l.length) : kk (l.take (j + 1)) = kk (l.take j) ++ (l[j]).ks := by
  rw [List.take_succ_eq_append_getElem h, kk_append]
  simp [kk]
theorem sizeK_ks (x : Nd) : sizeK x.ks + 1 ≤ sizeN x := by
  cases x; simp only [Nd.ks, sizeN]; omega
theorem sizeK_kk (l : List Nd) : sizeK (kk l) ≤ sizeK l := by
  induction l with
  | nil => simp [kk, sizeK]
  | cons x xs ih =>
    have h : kk (x :: xs) = x.ks ++ kk xs := by simp [kk]
    have := sizeK_ks x
    rw [h, sizeK_append]
    simp only [sizeK]
    omega
theorem kk_size (l : List Nd) : (kk l).length ≤ sizeK l := Nat.le_trans (sizeK_length _) (sizeK_kk l)
theorem sizeK_targ (x : Nd) : sizeK (targN x) + 1 ≤ sizeN x := by
  obtain ⟨k, e, n, d, ks⟩ := x
  unfold targN
  have := sizeK_kk ks
  simp only [sizeN]
  split <;> omega

/-- the five cells of a node -/
def fiveC (x : Nd) (A : Option Addr) (c : Nat) (B : Option Addr) (c2 : Nat) : List Value := [.int .i64 x.k, .int .i64 x.e, .int .i64 x.n, .slice A x.d.length c, .slice B x.ks.length c2]
/-- v is a slice of nodes of the call's own; what they refer to came in (it lay there in W0) -/
def OwnK (W0 w : World) (base : Nat) (v : Value) (ts : List Nd) : Prop :=
  ∃ vs, w.ownsRow base 30 5 v ts.length vs ∧ ∀ j (hj : j < ts.length), ∃ A' c' B' c2', NdR W0 A' c' B' c2' (ts[j]) ∧ ∀ o, o < 5 → vs[j * 5 + o]? = (fiveC (ts[j]) A' c' B' c2')[o]?
theorem OwnK.empty (W0 w : World) (base : Nat) : OwnK W0 w base (.slice none 0 0) [] := ⟨[], World.ownsRow_nil w base _ 5, fun j hj => by simp at hj⟩

theorem node_info : (Tryd.prog.info? 30).map (fun i => (i.zero, i.size, i.bytes)) = some (some (.agg #[.int .i64 0, .int .i64 0, .int .i64 0, .slice none 0 0, .slice none 0 0]), 5, 72) := by kernel_rfl
theorem fiveC_one (x : Nd) (A : Option Addr) (c : Nat) (B : Option Addr) (c2 : Nat) : ∀ u ∈ fiveC x A c B c2, u.oneCell' = true := by
  intro u hu
  unfold fiveC at hu
  simp at hu
  rcases hu with rfl | rfl | rfl | rfl | rfl <;> rfl
/-- the cells of nodes that came in -/
theorem KsR.cells {w : World} {b off : Nat} {ts : List Nd} (h : KsR w (some ⟨b, off, none⟩) ts) {j o : Nat} (hj : j < ts.length) (ho : o < 5) :
    ∃ A' c' B' c2', NdR w A' c' B' c2' (ts[j]) ∧ ∀ o, o < 5 → w.cell? ⟨b, off + (j * 5 + o), none⟩ = (fiveC (ts[j]) A' c' B' c2')[o]? := by
  obtain ⟨b', off', A', c', B', c2', hB, h0, h1, h2, h3, h4, h5⟩ := h.at hj
  injection hB with e
  injection e with e1 e2
  subst e1
  subst e2
  refine ⟨A', c', B', c2', h5, fun o ho => ?_⟩
  match o, ho with
  | 0, _ => exact h0
  | 1, _ => exact h1
  | 2, _ => exact h2
  | 3, _ => exact h3
  | 4, _ => exact h4
  | o + 5, h => omega

theorem wpList_appK {ops : Array Oper} {rest : List Oper} {o : Oper} {a : Act} {Q : Exit → Act → World → Prop} {w W0 : World} (hgd : o.guard = none) (s x : Operand) (t : TypeId)
    (ho : o.op = .call { callee := .builtin .append, args := #[s, x], argTypes := #[t, t] }) (ht : Tryd.prog.underlying t = some (.slice 30))
    {base : Nat} {v : Value} {ts ys : List Nd} {B' : Option Addr} {c' : Nat} (hs : a.eval s = v) (hown : OwnK W0 w base v ts) (hx : a.eval x = .slice B' ys.length c') (hk : KsR W0 B' ys) (hnil : B' = none → c' = 0) (hle : ys.length ≤ c')
    {N0 : Nat} (hW : W0.heap.size ≤ N0) (hbW : Below N0 W0 w) (hn : ts.length + ys.length ≤ 1099511627776) (hbase : base ≤ w.heap.size)
    (h : ∀ v' w', OwnK W0 w' base v' (ts ++ ys) → Below base w w' → wpList Tryd.prog ops Q rest (a.put o.dst v') w') : wpList Tryd.prog ops Q (o :: rest) a w := by
  obtain ⟨i, hi, hz0, hz1, hz2⟩ := info_parts node_info
  obtain ⟨vs, h1, h2⟩ := hown
  have hlv : vs.length = ts.length * 5 := h1.1
  cases B' with
  | none =>
    have hc := hnil rfl
    subst hc
    obtain rfl : ys = [] := List.eq_nil_of_length_eq_zero (by omega)
    refine wpList_append_own_none hgd s x t ho base _ i 5 ht hi v ts.length vs hs h1 hx ?_
    exact h v w (by rw [List.append_nil]; exact ⟨vs, h1, h2⟩) (Below.refl _ _)
  | some ad =>
    have hnews : ∃ news : List Value, news.length = ys.length * 5 ∧ (∀ q u, news[q]? = some u → w.cell? (ad.add q) = some u) ∧ (∀ u ∈ news, u.oneCell' = true) ∧
        ∀ j (hj : j < ys.length), ∃ A' c' B' c2', NdR W0 A' c' B' c2' (ys[j]) ∧ ∀ o, o < 5 → news[j * 5 + o]? = (fiveC (ys[j]) A' c' B' c2')[o]? := by
      rcases hk with hk0 | hk0
      · subst hk0
        exact ⟨[], rfl, fun q u hq => by simp at hq, fun u hu => by simp at hu, fun j hj => by simp at hj⟩
      · obtain ⟨b, off, hB, hk1⟩ := hk0
        injection hB with hB
        subst hB
        have hk2 : KsR W0 (some ⟨b, off, none⟩) ys := .inr ⟨b, off, rfl, hk1⟩
        have hcell : ∀ j (hj : j < ys.length), ∃ A' c' B' c2', NdR W0 A' c' B' c2' (ys[j]) ∧ ∀ o, o < 5 → w.cell? ⟨b, off + (j * 5 + o), none⟩ = (fiveC (ys[j]) A' c' B' c2')[o]? := by
          intro j hj
          obtain ⟨A', c', B', c2', g1, g2⟩ := hk2.cells (o := 0) hj (by omega)
          refine ⟨A', c', B', c2', g1, fun o ho => ?_⟩
          have hsome : W0.cell? ⟨b, off + (j * 5 + 0), none⟩ = some (.int .i64 (ys[j]).k) := g2 0 (by omega)
          have hlt : b < W0.heap.size := World.block_lt_of_cell? W0 ⟨b, off + (j * 5 + 0), none⟩ hsome
          exact (hbW.cell (p := ⟨b, off + (j * 5 + o), none⟩) (by show b < N0; omega)).trans (g2 o ho)
        have hget : ∀ q, q < ys.length * 5 → ∃ u, w.cell? ⟨b, off + q, none⟩ = some u ∧ u.oneCell' = true := by
          intro q hq
          obtain ⟨A', c', B', c2', _, g2⟩ := hcell (q / 5) (by omega)
          have e : q / 5 * 5 + q % 5 = q := by omega
          have g3 := g2 (q % 5) (by omega)
          rw [e] at g3
          have hl5 : q % 5 < (fiveC (ys[q / 5]) A' c' B' c2').length := by unfold fiveC; simp; omega
          rw [List.getElem?_eq_getElem hl5] at g3
          exact ⟨_, g3, fiveC_one _ _ _ _ _ _ (List.getElem_mem hl5)⟩
        refine ⟨(List.range (ys.length * 5)).map (fun q => (w.cell? ⟨b, off + q, none⟩).getD undef), by simp, ?_, ?_, ?_⟩
        · intro q u hq
          have hql : q < ys.length * 5 := by
            rcases Nat.lt_or_ge q (ys.length * 5) with h1 | h1
            · exact h1
            · rw [List.getElem?_eq_none (by simpa using h1)] at hq; cases hq
          obtain ⟨u', hu', _⟩ := hget q hql
          rw [add_plain, hu']
          simp [hql, hu'] at hq
          rw [hq]
        · intro u hu
          obtain ⟨q, hq, rfl⟩ := List.mem_map.1 hu
          obtain ⟨u', hu', hone⟩ := hget q (List.mem_range.1 hq)
          rw [hu']
          exact hone
        · intro j hj
          obtain ⟨A', c', B', c2', g1, g2⟩ := hcell j hj
          refine ⟨A', c', B', c2', g1, fun o ho => ?_⟩
          have hql : j * 5 + o < ys.length * 5 := by omega
          rw [← g2 o ho, List.getElem?_map, List.getElem?_range hql]
          obtain ⟨u', hu', _⟩ := hget (j * 5 + o) hql
          simp [hu']
    obtain ⟨news, n1, n2, n3, n4⟩ := hnews
    refine wpList_append_own _ hgd s x t ho base _ i _ 5 72 ht hi hz0 hz1 hz2 rfl (by decide) v ts.length vs hs h1 ad ys.length c' news hx n1 n2 n3 (by unfold maxLen; omega) (by omega) hbase ?_
    intro v' w' k1 k2 _
    have hb : Below base w w' := (Below.refl base w).grown k2 hbase (fun g hg => (h1.lt g hg).1)
    refine h v' w' ⟨vs ++ news, by rw [List.length_append]; exact k1, fun j hj => ?_⟩ hb
    by_cases hjl : j < ts.length
    · obtain ⟨A', c', B', c2', g1, g2⟩ := h2 j hjl
      have e : (ts ++ ys)[j] = ts[j] := List.getElem_append_left hjl
      rw [e]
      exact ⟨A', c', B', c2', g1, fun o ho => by rw [List.getElem?_append_left (by omega)]; exact g2 o ho⟩
    · rw [List.length_append] at hj
      obtain ⟨A', c', B', c2', g1, g2⟩ := n4 (j - ts.length) (by omega)
      have e : (ts ++ ys)[j] = ys[j - ts.length] := List.getElem_append_right (by omega)
      rw [e]
      refine ⟨A', c', B', c2', g1, fun o ho => ?_⟩
      rw [List.getElem?_append_right (by omega), ← g2 o ho, hlv]
      congr 1
      omega

/-- a slice of the call's own as nodes that lie there -/
theorem OwnK.slice {W0 w : World} {base N0 : Nat} {v : Value} {ts : List Nd} (h : OwnK W0 w base v ts) (hW : W0.heap.size ≤ N0) (hb : Below N0 W0 w) : ∃ B c, v = .slice B ts.length c ∧ KsR w B ts ∧ ts.length ≤ c ∧ c ≤ 9223372036854775807 ∧ (B = none → c = 0) := by
  obtain ⟨vs, h1, h2⟩ := h
  have h1' := h1
  rcases h1.2 with ⟨rfl, hn⟩ | ⟨g, cap, cur, rfl, hg, hh, hc, hm, hcs, htk⟩
  · obtain rfl : ts = [] := List.eq_nil_of_length_eq_zero hn
    exact ⟨none, 0, rfl, .inl rfl, by simp, by omega, fun _ => rfl⟩
  · refine ⟨some ⟨g, 0, none⟩, cap, rfl, .inr ⟨g, 0, rfl, fun j hj => ?_⟩, hc, by unfold maxLen at hm; omega, fun h => by cases h⟩
    obtain ⟨A', c', B', c2', g1, g2⟩ := h2 j hj
    have hcell := fun o (ho : o < 5) => (World.ownsRow.cellAt (g := g) (cap := cap) h1' (j * 5 + o) (by omega)).trans (g2 o ho)
    refine ⟨A', c', B', c2', ?_, ?_, ?_, ?_, ?_, g1.on hb hW⟩
    · have := hcell 0 (by omega); rw [Nat.zero_add]; exact this
    · have := hcell 1 (by omega); rw [Nat.zero_add]; exact this
    · have := hcell 2 (by omega); rw [Nat.zero_add]; exact this
    · have := hcell 3 (by omega); rw [Nat.zero_add]; exact this
    · have := hcell 4 (by omega); rw [Nat.zero_add]; exact this

theorem NdR.kidsX {w : World} {A : Option Addr} {c : Nat} {B : Option Addr} {c2 : Nat} {x : Nd} (h : NdR w A c B c2 x) : KsR w B x.ks ∧ (B = none → c2 = 0) ∧ x.ks.length ≤ c2 := by
  obtain ⟨k, e, n, d, ks⟩ := x
  obtain ⟨_, _, _, _, _, _, _, _, h9, _, h11⟩ := h.open
  exact ⟨h.kids, h11, h9⟩
/-- a node of a row that came in, read in a later world -/
theorem KsR.atIn {w w' : World} {B : Option Addr} {ts : List Nd} (h : KsR w B ts) {N : Nat} (hb : Below N w w') (hN : w.heap.size ≤ N) {j : Nat} (hj : j < ts.length) :
    ∃ b off A' c' B' c2', B = some ⟨b, off, none⟩ ∧ w'.cell? ⟨b, off + j * 5, none⟩ = some (.int .i64 (ts[j]).k) ∧ w'.cell? ⟨b, off + j * 5 + 1, none⟩ = some (.int .i64 (ts[j]).e) ∧ w'.cell? ⟨b, off + j * 5 + 2, none⟩ = some (.int .i64 (ts[j]).n) ∧
      w'.cell? ⟨b, off + j * 5 + 3, none⟩ = some (.slice A' (ts[j]).d.length c') ∧ w'.cell? ⟨b, off + j * 5 + 4, none⟩ = some (.slice B' (ts[j]).ks.length c2') ∧ NdR w A' c' B' c2' (ts[j]) := by
  obtain ⟨b, off, A', c', B', c2', hB, h0, h1, h2, h3, h4, h5⟩ := h.at hj
  have hlt : b < w.heap.size := World.block_lt_of_cell? w ⟨b, off + j * 5, none⟩ h0
  have hc := fun o => hb.cell (p := ⟨b, o, none⟩) (by show b < N; omega)
  exact ⟨b, off, A', c', B', c2', hB, (hc _).trans h0, (hc _).trans h1, (hc _).trans h2, (hc _).trans h3, (hc _).trans h4, h5⟩

mutual
/-- the depth of a node (the elements of a composite list do not count) -/
def depthN : Nd → Nat
  | .mk k e _ _ ks => if k = 0 then 0 else 1 + if k = 2 ∧ e = 7 then depthG ks else depthK ks
def depthK : List Nd → Nat
  | [] => 0
  | x :: xs => max (depthN x) (depthK xs)
def depthG : List Nd → Nat
  | [] => 0
  | .mk _ _ _ _ ks :: xs => max (depthK ks) (depthG xs)
end
mutual
/-- the objects of a node -/
def objsN : Nd → Nat
  | .mk k e _ _ ks => if k = 0 then 0 else 1 + if k = 2 ∧ e = 7 then objsG ks else objsK ks
def objsK : List Nd → Nat
  | [] => 0
  | x :: xs => objsN x + objsK xs
def objsG : List Nd → Nat
  | [] => 0
  | .mk _ _ _ _ ks :: xs => objsK ks + objsG xs
end
theorem depthK_append (a b : List Nd) : depthK (a ++ b) = max (depthK a) (depthK b) := by
  induction a with
  | nil => simp [depthK]
  | cons x xs ih => simp only [List.cons_append, depthK, ih]; omega
theorem objsK_append (a b : List Nd) : objsK (a ++ b) = objsK a + objsK b := by
  induction a with
  | nil => simp [objsK]
  | cons x xs ih => simp only [List.cons_append, objsK, ih]; omega
theorem depthG_kk (l : List Nd) : depthG l = depthK (kk l) := by
  induction l with
  | nil => simp [depthG, kk, depthK]
  | cons x xs ih =>
    obtain ⟨k, e, n, d, ks⟩ := x
    have h : kk (.mk k e n d ks :: xs) = ks ++ kk xs := by simp [kk, Nd.ks]
    rw [h, depthK_append]
    simp only [depthG, ih]
theorem objsG_kk (l : List Nd) : objsG l = objsK (kk l) := by
  induction l with
  | nil => simp [objsG, kk, objsK]
  | cons x xs ih =>
    obtain ⟨k, e, n, d, ks⟩ := x
    have h : kk (.mk k e n d ks :: xs) = ks ++ kk xs := by simp [kk, Nd.ks]
    rw [h, objsK_append]
    simp only [objsG, ih]
theorem depthN_eq (x : Nd) : depthN x = if x.k = 0 then 0 else 1 + depthK (targN x) := by
  obtain ⟨k, e, n, d, ks⟩ := x
  simp only [depthN, Nd.k, targN]
  by_cases h : k = 2 ∧ e = 7
  · rw [if_pos h, if_pos h, depthG_kk]
    by_cases h0 : k = 0 <;> simp [h0]
  · rw [if_neg h, if_neg h]
    by_cases h0 : k = 0 <;> simp [h0]
theorem objsN_eq (x : Nd) : objsN x = if x.k = 0 then 0 else 1 + objsK (targN x) := by
  obtain ⟨k, e, n, d, ks⟩ := x
  simp only [objsN, Nd.k, targN]
  by_cases h : k = 2 ∧ e = 7
  · rw [if_pos h, if_pos h, objsG_kk]
    by_cases h0 : k = 0 <;> simp [h0]
  · rw [if_neg h, if_neg h]
    by_cases h0 : k = 0 <;> simp [h0]
theorem depthK_take (l : List Nd) (j : Nat) (h : j < l.length) : depthK (l.take (j + 1)) = max (depthK (l.take j)) (depthN l[j]) := by
  rw [List.take_succ_eq_append_getElem h, depthK_append]
  simp [depthK]
/-- what a pointer refers to is smaller -/
theorem targ_lt {x t : Nd} (h : t ∈ targN x) : sizeN t < sizeN x := by
  have h1 := sizeN_kid h
  have h2 := sizeK_targ x
  omega
theorem size_ind {P : Nd → Prop} (h : ∀ x, (∀ y, sizeN y < sizeN x → P y) → P x) : ∀ x, P x := by
  intro x
  generalize hn : sizeN x = n
  induction n using Nat.strongRecOn generalizing x with
  | _ n ih => exact h x fun y hy => ih (sizeN y) (by omega) y rfl
theorem depth_objs : ∀ x : Nd, depthN x ≤ objsN x := size_ind (by
  intro x ih
  rw [depthN_eq, objsN_eq]
  split
  · exact Nat.le_refl _
  · have h : ∀ l : List Nd, (∀ y ∈ l, depthN y ≤ objsN y) → depthK l ≤ objsK l := by
      intro l hl
      induction l with
      | nil => simp [depthK, objsK]
      | cons y ys ih2 =>
        have h1 := hl y (List.mem_cons_self ..)
        have h2 := ih2 (fun z hz => hl z (List.mem_cons_of_mem _ hz))
        simp only [depthK, objsK]
        omega
    have := h (targN x) (fun y hy => ih y (targ_lt hy))
    omega)
theorem objs_size : ∀ x : Nd, objsN x ≤ sizeN x := size_ind (by
  intro x ih
  rw [objsN_eq]
  split
  · omega
  · have h : ∀ l : List Nd, (∀ y ∈ l, objsN y ≤ sizeN y) → objsK l ≤ sizeK l := by
      intro l hl
      induction l with
      | nil => simp [objsK, sizeK]
      | cons y ys ih2 =>
        have h1 := hl y (List.mem_cons_self ..)
        have h2 := ih2 (fun z hz => hl z (List.mem_cons_of_mem _ hz))
        simp only [objsK, sizeK]
        omega
    have := h (targN x) (fun y hy => ih y (targ_lt hy))
    have := sizeK_targ x
    omega)
theorem depthK_size (l : List Nd) : depthK l ≤ sizeK l := by
  induction l with
  | nil => simp [depthK, sizeK]
  | cons y ys ih =>
    have := depth_objs y
    have := objs_size y
    simp only [depthK, sizeK]
    omega
theorem depthK_take_le (l : List Nd) (j : Nat) : depthK (l.take j) ≤ depthK l := by
  have := depthK_append (l.take j) (l.drop j)
  rw [List.take_append_drop] at this
  omega

open Classical in
/-- equality of nodes -/
noncomputable def eqN (x y : Nd) : Bool := decide (x = y)
theorem eqN_yes {x y : Nd} (h : x = y) : eqN x y = true := by unfold eqN; simp [h]
theorem eqN_no {x y : Nd} (h : x ≠ y) : eqN x y = false := by unfold eqN; simp [h]
theorem eqN_iff {x y : Nd} : eqN x y = true ↔ x = y := by unfold eqN; simp
theorem take_eq_succ {l m : List Nd} {j : Nat} (h1 : j < l.length) (h2 : j < m.length) (h : l.take j = m.take j) (he : l[j] = m[j]) : l.take (j + 1) = m.take (j + 1) := by
  rw [List.take_succ_eq_append_getElem h1, List.take_succ_eq_append_getElem h2, h, he]

/-- well-formed, but for the kids -/
def headB (k e n : Int) (d : List Int) (ks : List Nd) : Bool :=
  if k = 0 then decide (e = 0 ∧ n = 0 ∧ d.length = 0 ∧ ks.length = 0)
  else if k = 1 then decide (e = 0 ∧ n = 0 ∧ d.length % 8 = 0 ∧ d.length ≤ 524280 ∧ ks.length ≤ 65535)
  else if k = 2 then decide (0 ≤ n ∧ n ≤ 536870911 ∧ 0 ≤ e ∧ e ≤ 7 ∧ (6 ≤ e → d.length = 0 ∧ (ks.length : Int) = n) ∧ (e < 6 → ks.length = 0 ∧ (d.length : Int) = bytesI e n ∧ trimL d e n = d))
  else false
mutual
/-- a well-formed node -/
def validN : Nd → Bool
  | .mk k e n d ks => validK k e ks && headB k e n d ks
def validK (k e : Int) : List Nd → Bool
  | [] => true
  | x :: xs => validN x && !(decide (k = 2 ∧ e = 7 ∧ x.k ≠ 1)) && validK k e xs
end
theorem validK_append (k e : Int) (a b : List Nd) : validK k e (a ++ b) = (validK k e a && validK k e b) := by
  induction a with
  | nil => simp [validK]
  | cons x xs ih => simp only [List.cons_append, validK, ih, Bool.and_assoc]
theorem validK_take (k e : Int) (l : List Nd) (j : Nat) (h : j < l.length) : validK k e (l.take (j + 1)) = (validK k e (l.take j) && (validN l[j] && !(decide (k = 2 ∧ e = 7 ∧ (l[j]).k ≠ 1)))) := by
  rw [List.take_succ_eq_append_getElem h, validK_append]
  simp [validK]
theorem validK_no (k e : Int) (l : List Nd) (j : Nat) (h : j < l.length) (hb : (validN l[j] && !(decide (k = 2 ∧ e = 7 ∧ (l[j]).k ≠ 1))) = false) : validK k e l = false := by
  have h1 := validK_take k e l j h
  have h2 := validK_append k e (l.take (j + 1)) (l.drop (j + 1))
  rw [List.take_append_drop, h1, hb] at h2
  simpa using h2
end Go.Proofs.YtnmanhediiooaaaDoor

/- Trimming as a function on trees: the words and pointers that stay, the trimmed node, the uniform size. -/
namespace Go.Proofs.YtnmanhediiooaaaDoor
open Go.ChangeShapes Go.WideShapes Go.ChangeAt Go.RowKit
set_option linter.unusedVariables false
set_option linter.unusedSimpArgs false
set_option maxRecDepth 100000

/-- the words up to the last byte, of the first i, that is not zero -/
def wordsF (d : List Int) : Nat → Nat
  | 0 => 0
  | i + 1 => if zat d i = 0 then wordsF d i else i / 8 + 1
def wordsT (d : List Int) : Nat := wordsF d d.length
def kAt (ks : List Nd) (i : Nat) : Int := (ks[i]?.map Nd.k).getD 0
/-- the pointers up to the last one, of the first i, that is not null -/
def ptrsF (ks : List Nd) : Nat → Nat
  | 0 => 0
  | i + 1 => if kAt ks i = 0 then ptrsF ks i else i + 1
def ptrsT (ks : List Nd) : Nat := ptrsF ks ks.length
theorem kAt_get {ks : List Nd} {i : Nat} (h : i < ks.length) : kAt ks i = (ks[i]).k := by simp [kAt, h]
theorem wordsF_le (d : List Int) : ∀ i, 8 * wordsF d i < i + 8
  | 0 => by simp [wordsF]
  | i + 1 => by
    have := wordsF_le d i
    unfold wordsF
    split <;> omega
theorem wordsT_le (d : List Int) (h : d.length % 8 = 0) : 8 * wordsT d ≤ d.length := by
  have := wordsF_le d d.length
  unfold wordsT
  omega
theorem ptrsF_le (ks : List Nd) : ∀ i, ptrsF ks i ≤ i
  | 0 => by simp [ptrsF]
  | i + 1 => by
    have := ptrsF_le ks i
    unfold ptrsF
    split <;> omega
theorem ptrsT_le (ks : List Nd) : ptrsT ks ≤ ks.length := ptrsF_le ks ks.length

mutual
/-- the trimmed node -/
def trimN : Nd → Nd
  | .mk k e n d ks => .mk k e n (if k = 1 then d.take (8 * wordsT d) else d) (if k = 1 then (trimK ks).take (ptrsT ks) else trimK ks)
def trimK : List Nd → List Nd
  | [] => []
  | x :: xs => trimN x :: trimK xs
end
theorem trimK_map (ks : List Nd) : trimK ks = ks.map trimN := by
  induction ks with
  | nil => simp [trimK]
  | cons x xs ih => simp [trimK, ih]
theorem trimK_length (ks : List Nd) : (trimK ks).length = ks.length := by rw [trimK_map, List.length_map]
theorem trimK_get (ks : List Nd) (j : Nat) (h : j < ks.length) : (trimK ks)[j]'(by rw [trimK_length]; exact h) = trimN ks[j] := by simp [trimK_map]
theorem trimK_take (ks : List Nd) (j : Nat) : trimK (ks.take j) = (trimK ks).take j := by simp [trimK_map, List.map_take]
theorem trimN_k (x : Nd) : (trimN x).k = x.k := by obtain ⟨k, e, n, d, ks⟩ := x; simp [trimN, Nd.k]
mutual
/-- is the node trimmed? -/
def trimmedN : Nd → Bool
  | .mk k e n d ks => decide (k = 1 → 8 * wordsT d = d.length ∧ ptrsT ks = ks.length) && trimmedK ks
def trimmedK : List Nd → Bool
  | [] => true
  | x :: xs => trimmedN x && trimmedK xs
end
theorem trimmedK_append (a b : List Nd) : trimmedK (a ++ b) = (trimmedK a && trimmedK b) := by
  induction a with
  | nil => simp [trimmedK]
  | cons x xs ih => simp only [List.cons_append, trimmedK, ih, Bool.and_assoc]
theorem trimmedK_take (l : List Nd) (j : Nat) (h : j < l.length) : trimmedK (l.take (j + 1)) = (trimmedK (l.take j) && trimmedN l[j]) := by
  rw [List.take_succ_eq_append_getElem h, trimmedK_append]
  simp [trimmedK]
theorem trimmedK_no (l : List Nd) (j : Nat) (h : j < l.length) (hb : trimmedN l[j] = false) : trimmedK l = false := by
  have h1 := trimmedK_take l j h
  have h2 := trimmedK_append (l.take (j + 1)) (l.drop (j + 1))
  rw [List.take_append_drop] at h2
  rw [h2, h1, hb]
  simp
end Go.Proofs.YtnmanhediiooaaaDoor

/- What the reference functions of layer 9 do, each by a contract. -/
namespace Go.Proofs.YtnmanhediiooaaaDoor
open Go.ChangeShapes Go.WideShapes Go.ChangeAt Go.RowKit
set_option linter.unusedVariables false
set_option linter.unusedSimpArgs false
set_option maxRecDepth 100000

def startI (x : Int) : Int := if x < 0 then 0 else x
def enterI (dep d : Int) : Int := if d ≤ dep then 0 else 7
def chargeI (m c : Int) : Int := if m < c then m else m - c
def chargeE (m c : Int) : Int := if m < c then 8 else 0

end Go.Proofs.YtnmanhediiooaaaDoor

/- The traversal of a message as a function: the value of a pointer, what is left of the budget, the error. -/
namespace Go.Proofs.YtnmanhediiooaaaDoor
open Go.ChangeShapes Go.WideShapes Go.ChangeAt Go.RowKit
set_option linter.unusedVariables false
set_option linter.unusedSimpArgs false
set_option maxRecDepth 100000

structure Val where
  n : Nd
  m : Int
  e : Int
def errV (m e : Int) : Val := ⟨nd0, m, e⟩
structure Vls where
  ks : List Nd
  m : Int
  e : Int
/-- the first i values of a row, one after the other -/
def runK (f : Int → Nat → Val) (m : Int) : Nat → Vls
  | 0 => ⟨[], m, 0⟩
  | i + 1 => if (runK f m i).e ≠ 0 then runK f m i else if (f (runK f m i).m i).e ≠ 0 then ⟨[], (f (runK f m i).m i).m, (f (runK f m i).m i).e⟩ else ⟨(runK f m i).ks ++ [(f (runK f m i).m i).n], (f (runK f m i).m i).m, 0⟩
def datW (ls : List (List Int)) (s a n : Int) : List Int := if inB ls s a n = true then sliceL ls s a n else []
def structV (val : Int → Int → Int → Val) (ls : List (List Int)) (m : Int) (o : Ob) : Val :=
  if (runK (fun m i => val m o.sg (o.at' + o.d + i)) m o.p.toNat).e ≠ 0 then errV (runK (fun m i => val m o.sg (o.at' + o.d + i)) m o.p.toNat).m (runK (fun m i => val m o.sg (o.at' + o.d + i)) m o.p.toNat).e
  else ⟨.mk 1 0 0 (bytesOf (datW ls o.sg o.at' o.d)) (runK (fun m i => val m o.sg (o.at' + o.d + i)) m o.p.toNat).ks, (runK (fun m i => val m o.sg (o.at' + o.d + i)) m o.p.toNat).m, 0⟩
/-- the elements of a list -/
def elemV (val : Int → Int → Int → Val) (ls : List (List Int)) (o : Ob) (m : Int) (i : Nat) : Val := if o.el = 6 then val m o.sg (o.at' + i) else structV val ls m (eleO o i)
def listV (val : Int → Int → Int → Val) (ls : List (List Int)) (m : Int) (o : Ob) : Val :=
  if (runK (elemV val ls o) m o.n.toNat).e ≠ 0 then errV (runK (elemV val ls o) m o.n.toNat).m (runK (elemV val ls o) m o.n.toNat).e
  else ⟨.mk 2 o.el o.n [] (runK (elemV val ls o) m o.n.toNat).ks, (runK (elemV val ls o) m o.n.toNat).m, 0⟩
/-- the value of an object that is located -/
def bodyV (val : Int → Int → Int → Val) (ls : List (List Int)) (m : Int) (q : Ob × Int) : Val :=
  if q.2 ≠ 0 then errV m q.2
  else if m < q.1.cost then errV m 8
  else if q.1.k = 1 then structV val ls (m - q.1.cost) q.1
  else if q.1.el < 6 then ⟨.mk 2 q.1.el q.1.n (trimL (bytesOf (datW ls q.1.sg q.1.at' q.1.cost)) q.1.el q.1.n) [], m - q.1.cost, 0⟩
  else listV val ls (m - q.1.cost) q.1
/-- the value of the pointer at a position, where r nested objects may still be entered -/
def valV (ls : List (List Int)) : Nat → Int → Int → Int → Val
  | 0, m, s, a => if (followF ls s a).e ≠ 0 ∨ (followF ls s a).w = 0 then errV m (followF ls s a).e else errV m 7
  | r + 1, m, s, a => if (followF ls s a).e ≠ 0 ∨ (followF ls s a).w = 0 then errV m (followF ls s a).e else bodyV (valV ls r) ls m (objF ls s a)

theorem runK_keep {f : Int → Nat → Val} {m : Int} {i j : Nat} (h : (runK f m i).e ≠ 0) (hij : i ≤ j) : runK f m j = runK f m i := by
  induction j with
  | zero => obtain rfl : i = 0 := by omega
            rfl
  | succ j ih =>
    by_cases e : i = j + 1
    · subst e; rfl
    · have := ih (by omega)
      show (if (runK f m j).e ≠ 0 then runK f m j else _) = _
      rw [this, if_pos h]
theorem runK_ok {f : Int → Nat → Val} {m : Int} {i : Nat} (h : (runK f m i).e = 0) (hf : (f (runK f m i).m i).e = 0) : runK f m (i + 1) = ⟨(runK f m i).ks ++ [(f (runK f m i).m i).n], (f (runK f m i).m i).m, 0⟩ := by
  show (if (runK f m i).e ≠ 0 then runK f m i else if (f (runK f m i).m i).e ≠ 0 then _ else _) = _
  rw [if_neg (by rw [h]; simp), if_neg (by rw [hf]; simp)]
theorem runK_no {f : Int → Nat → Val} {m : Int} {i : Nat} (h : (runK f m i).e = 0) (hf : (f (runK f m i).m i).e ≠ 0) : runK f m (i + 1) = ⟨[], (f (runK f m i).m i).m, (f (runK f m i).m i).e⟩ := by
  show (if (runK f m i).e ≠ 0 then runK f m i else if (f (runK f m i).m i).e ≠ 0 then _ else _) = _
  rw [if_neg (by rw [h]; simp), if_pos hf]
theorem runK_length {f : Int → Nat → Val} {m : Int} : ∀ {i : Nat}, (runK f m i).e = 0 → (runK f m i).ks.length = i
  | 0, _ => rfl
  | i + 1, h => by
    by_cases h1 : (runK f m i).e = 0
    · by_cases h2 : (f (runK f m i).m i).e = 0
      · rw [runK_ok h1 h2]
        simp [runK_length h1]
      · rw [runK_no h1 h2] at h
        exact absurd h h2
    · rw [runK_keep h1 (Nat.le_succ i)] at h
      exact absurd h h1
/-- a property of meters that each step keeps -/
theorem runK_ind {f : Int → Nat → Val} {m : Int} (P : Int → Prop) (h0 : P m) : ∀ n, (∀ m i, i < n → P m → P (f m i).m) → P (runK f m n).m
  | 0, _ => h0
  | n + 1, hs => by
    have ih := runK_ind P h0 n (fun m i hi => hs m i (by omega))
    by_cases h1 : (runK f m n).e = 0
    · have h3 := hs _ n (by omega) ih
      by_cases h2 : (f (runK f m n).m n).e = 0
      · rw [runK_ok h1 h2]; exact h3
      · rw [runK_no h1 h2]; exact h3
    · rw [runK_keep h1 (Nat.le_succ n)]; exact ih
/-- the meter never grows and never falls below zero -/
theorem structV_m {val : Int → Int → Int → Val} (hv : ∀ m s a, 0 ≤ m → 0 ≤ (val m s a).m ∧ (val m s a).m ≤ m) (ls : List (List Int)) (m : Int) (o : Ob) (h : 0 ≤ m) : 0 ≤ (structV val ls m o).m ∧ (structV val ls m o).m ≤ m := by
  have h1 := runK_ind (f := fun m i => val m o.sg (o.at' + o.d + i)) (m := m) (fun x => 0 ≤ x ∧ x ≤ m) ⟨h, Int.le_refl _⟩ o.p.toNat (fun m' i _ hm => by
    have := hv m' o.sg (o.at' + o.d + i) hm.1
    show 0 ≤ (val m' o.sg (o.at' + o.d + i)).m ∧ _
    omega)
  unfold structV
  split
  · exact h1
  · exact h1
theorem listV_m {val : Int → Int → Int → Val} (hv : ∀ m s a, 0 ≤ m → 0 ≤ (val m s a).m ∧ (val m s a).m ≤ m) (ls : List (List Int)) (m : Int) (o : Ob) (h : 0 ≤ m) : 0 ≤ (listV val ls m o).m ∧ (listV val ls m o).m ≤ m := by
  have h1 := runK_ind (f := elemV val ls o) (m := m) (fun x => 0 ≤ x ∧ x ≤ m) ⟨h, Int.le_refl _⟩ o.n.toNat (fun m' i _ hm => by
    unfold elemV
    split
    · have := hv m' o.sg (o.at' + i) hm.1; omega
    · have := structV_m hv ls m' (eleO o i) hm.1; omega)
  unfold listV
  split
  · exact h1
  · exact h1
/-- the numbers of an object are small (larger messages) -/
theorem objF_bd2 {ls : List (List Int)} (hw : Wd2 ls) (hm : ls.length ≤ 40) (hf : ∀ j, (seg ls j).length ≤ 20000000) (s a k sg at' d p el n cost e : Int) (hq : objF ls s a = (⟨k, sg, at', d, p, el, n, cost⟩, e)) :
    0 ≤ k ∧ k ≤ 2 ∧ 0 ≤ sg ∧ sg ≤ 40 ∧ 0 ≤ at' ∧ at' ≤ 20000001 ∧ 0 ≤ d ∧ d ≤ 65535 ∧ 0 ≤ p ∧ p ≤ 65535 ∧ 0 ≤ el ∧ el ≤ 7 ∧ 0 ≤ n ∧ n ≤ 536870911 ∧ 0 ≤ cost ∧ cost ≤ 1073741824 ∧ 0 ≤ e ∧ e ≤ 6 ∧ 0 ≤ n * (d + p) ∧ n * (d + p) ≤ 20000000 := by
  have h := objF_cases hw (by omega) (fun j => by have := hf j; omega) s a
  rw [hq] at h
  simp only [ob0, Ob.mk.injEq] at h
  rcases h with ⟨⟨rfl, rfl, rfl, rfl, rfl, rfl, rfl, rfl⟩, h2⟩ | ⟨rfl, rfl, rfl, rfl, h1, h2, h3, h4, rfl, h5⟩ | ⟨rfl, rfl, h1, h2, h3, h4, rfl, rfl, rfl, h5⟩ | ⟨rfl, rfl, rfl, h1, h2, h3, h4, h5, h6, c, h7, h8, h9, h10, rfl⟩
  · omega
  · have h6 := inB_iff.1 h5
    have h7 := hf sg.toNat
    have h8 : (0 : Int) * (d + p) = 0 := Int.zero_mul _
    omega
  · have h6 := inB_iff.1 h5
    have h7 := hf sg.toNat
    have h8 : n * (0 + 0) = 0 := Int.mul_zero _
    have h9 := wordsI_lim el n h3 h4
    omega
  · have h11 := inB_iff.1 h10
    have h12 := hf sg.toNat
    have h13 : 0 ≤ n * (d + p) := Int.mul_nonneg (by omega) (by omega)
    split <;> omega
/-- the numbers of a located object of a small message -/
theorem objF_num {ls : List (List Int)} (hw : Wd2 ls) (hm : ls.length ≤ 40) (hf : ∀ j, (seg ls j).length ≤ 20000000) (s a : Int) {q : Ob × Int} (hq : objF ls s a = q) :
    0 ≤ q.1.k ∧ q.1.k ≤ 2 ∧ 0 ≤ q.1.sg ∧ q.1.sg ≤ 40 ∧ 0 ≤ q.1.at' ∧ q.1.at' ≤ 20000001 ∧ 0 ≤ q.1.d ∧ q.1.d ≤ 65535 ∧ 0 ≤ q.1.p ∧ q.1.p ≤ 65535 ∧ 0 ≤ q.1.el ∧ q.1.el ≤ 7 ∧ 0 ≤ q.1.n ∧ q.1.n ≤ 536870911 ∧ 0 ≤ q.1.cost ∧ q.1.cost ≤ 1073741824 ∧ 0 ≤ q.2 ∧ q.2 ≤ 6 ∧ 0 ≤ q.1.n * (q.1.d + q.1.p) ∧ q.1.n * (q.1.d + q.1.p) ≤ 20000000 := by
  obtain ⟨⟨k, sg, at', d, p, el, n, cost⟩, e⟩ := q
  exact objF_bd2 hw hm hf s a k sg at' d p el n cost e hq
theorem valV_m {ls : List (List Int)} (hw : Wd2 ls) (hm : ls.length ≤ 40) (hf : ∀ j, (seg ls j).length ≤ 20000000) : ∀ r m s a, 0 ≤ m → 0 ≤ (valV ls r m s a).m ∧ (valV ls r m s a).m ≤ m
  | 0, m, s, a, h => by
    unfold valV
    split <;> exact ⟨h, Int.le_refl _⟩
  | r + 1, m, s, a, h => by
    have ih := fun m s a h => valV_m hw hm hf r m s a h
    unfold valV
    split
    · exact ⟨h, Int.le_refl _⟩
    · have hc : 0 ≤ (objF ls s a).1.cost := (objF_num hw hm hf s a rfl).2.2.2.2.2.2.2.2.2.2.2.2.2.2.1
      unfold bodyV
      generalize objF ls s a = q at *
      split
      · exact ⟨h, Int.le_refl _⟩
      · split
        · exact ⟨h, Int.le_refl _⟩
        · split
          · have := structV_m ih ls (m - q.1.cost) q.1 (by omega); omega
          · split
            · show 0 ≤ m - q.1.cost ∧ m - q.1.cost ≤ m; omega
            · have := listV_m ih ls (m - q.1.cost) q.1 (by omega); omega
end Go.Proofs.YtnmanhediiooaaaDoor

/- What the reference functions of layer 10 do, each by a contract. -/
namespace Go.Proofs.YtnmanhediiooaaaDoor
open Go.ChangeShapes Go.WideShapes Go.ChangeAt Go.RowKit
set_option linter.unusedVariables false
set_option linter.unusedSimpArgs false
set_option maxRecDepth 100000

theorem targN_def (k e n : Int) (d : List Int) (ks : List Nd) : targN (.mk k e n d ks) = if k = 2 ∧ e = 7 then kk ks else ks := rfl

set_option maxRecDepth 100000 in
theorem RefTargets_node (x : Nd) (A : Option Addr) (c : Nat) (B : Option Addr) (c2 : Nat) (w : World) (hx : NdR w A c B c2 x) (hs : sizeN x ≤ 1099511627776) :
    Calls Tryd.prog 31 #[.agg #[.int .i64 x.k, .int .i64 x.e, .int .i64 x.n, .slice A x.d.length c, .slice B x.ks.length c2]] w fun r w' => ∃ B' c', r = .returned (.slice B' (targN x).length c') ∧ KsR w' B' (targN x) ∧ (targN x).length ≤ c' ∧ c' ≤ 9223372036854775807 ∧ Below w.heap.size w w' := by
  obtain ⟨k, e, n, d, ks⟩ := x
  simp only [Nd.k, Nd.e, Nd.n, Nd.d, Nd.ks]
  have HX := Lib.hid hx
  have HO := Lib.hid hx.open
  clear hx
  by_cases hke : k = 2 ∧ e = 7
  · have HT : Hid (targN (.mk k e n d ks) = kk ks) := Lib.hid (by rw [targN_def, if_pos hke])
    obtain ⟨rfl, rfl⟩ := hke
    have hs2 : sizeN (.mk 2 7 n d ks) = 1 + d.length + sizeK ks := by simp only [sizeN]
    rw [hs2] at hs
    have HKK : Hid (∀ j, (kk (ks.take j)).length ≤ sizeK ks) := Lib.hid (fun j => Nat.le_trans (kk_size _) (sizeK_take_le ks j))
    have hkl := sizeK_length ks
    rw [HT.out]
    clear hs2
    go_enter Tryd.func31, Tryd.ntmps31
    go_wp2
    go_loopw [3, 4] (fun s i wr => ∃ j : Nat, j ≤ ks.length ∧ i = .int .i64 j ∧ OwnK w wr (w.heap.size + 1) s (kk (ks.take j)) ∧ Blk wr w.heap.size #[.int .i64 2, .int .i64 7, .int .i64 n, .slice A d.length c, .slice B ks.length c2] ∧ Below w.heap.size w wr) (fun _ i _ => ks.length - (intOf i).toNat)
    case atStart => exact ⟨0, by omega, rfl, by simpa [kk] using OwnK.empty _ _ _, Blk.fresh _ _ _, (Below.refl _ _).alloc (Nat.le_refl _) _⟩
    case round =>
      obtain ⟨j, hj, rfl, hown, hB, hbr⟩ := hrel
      have HB := Lib.hid hB
      have HR := Lib.hid hbr
      have HOWN := Lib.hid hown
      obtain ⟨x1, y1, z1⟩ := hB
      clear hbr hown
      by_cases hlt : j < ks.length
      · obtain ⟨b, off, A', c', B', c2', rfl, k0, k1, k2, k3, k4, hsub⟩ := HX.out.kids.atIn HR.out (Nat.le_refl _) hlt
        have HKS := Lib.hid hsub.kidsX
        have HKT := Lib.hid (kk_take ks j hlt)
        have HN : Hid ((kk (ks.take j)).length + (ks[j]).ks.length ≤ 1099511627776) := Lib.hid (by
          have h := HKK.out (j + 1)
          rw [HKT.out, List.length_append] at h
          omega)
        clear hsub k0 k1 k2 k3
        go_wp2_with (at_builtin; refine wpList_appK (W0 := w) rfl (.tmp 22) (.tmp 28) 28 rfl Tryd.underlying28 rfl HOWN.out rfl HKS.out.1 HKS.out.2.1 HKS.out.2.2 (Nat.le_refl _) HR.out HN.out z1 ?_; intro v1 w1 hg1 hb1)
        have HB1 := Lib.hid (HR.out.trans (hb1.mono (Nat.le_succ _)))
        have B1 := Lib.hid (HB.out.belowN hb1 (Nat.lt_succ_self _))
        go_roundw
        case rel => exact ⟨j + 1, by omega, by go_num, by rw [HKT.out]; exact hg1, B1.out, HB1.out⟩
        case measure => simp [intOf]; omega
      · obtain rfl : j = ks.length := by omega
        go_wp2
        obtain ⟨B1, c1, rfl, s1, s2, s3, s4⟩ := HOWN.out.slice (Nat.le_refl _) HR.out
        go_ret
        rw [List.take_length] at *
        exact ⟨B1, c1, rfl, s1, s2, s3, HR.out⟩
  · have HT : Hid (targN (.mk k e n d ks) = ks) := Lib.hid (by rw [targN_def, if_neg hke])
    have hor : ((k != 2) = true) ∨ ((k != 2) = false ∧ (e != 7) = true) := by
      by_cases h1 : k = 2
      · right; exact ⟨by simpa using h1, by simpa using fun h => hke ⟨h1, h⟩⟩
      · left; simpa using h1
    clear hke
    rcases hor with t1 | ⟨t1, t2⟩ <;>
    ( go_enter Tryd.func31, Tryd.ntmps31
      go_wp2
      go_ret
      refine ⟨B, c2, by rw [HT.out]; rfl, ?_, by rw [HT.out]; exact HO.out.2.2.2.2.2.2.2.2.1, HO.out.2.2.2.2.2.2.2.2.2.1, (Below.refl _ _).alloc (Nat.le_refl _) _⟩
      rw [HT.out]
      exact HX.out.kids.on ((Below.refl _ _).alloc (Nat.le_refl _) _) (Nat.le_refl _))

set_option maxRecDepth 100000 in
theorem RefDepth_node : ∀ (x : Nd) (A : Option Addr) (c : Nat) (B : Option Addr) (c2 : Nat) (w : World), NdR w A c B c2 x → sizeN x ≤ 1099511627776 →
    Calls Tryd.prog 14 #[.agg #[.int .i64 x.k, .int .i64 x.e, .int .i64 x.n, .slice A x.d.length c, .slice B x.ks.length c2]] w fun r w' => r = .returned (.int .i64 (depthN x)) ∧ Below w.heap.size w w' := by
  refine size_ind ?_
  intro x ih A c B c2 w hx hs
  have HX := Lib.hid hx
  have HI := Lib.hid ih
  have HE := Lib.hid (depthN_eq x)
  have HS := Lib.hid hs
  have hsz := sizeK_targ x
  have hkz := depthK_size (targN x)
  have hlz := sizeK_length (targN x)
  have HT : Hid (depthK ((targN x).take (targN x).length) = depthK (targN x)) := Lib.hid (by rw [List.take_length])
  have HTL : Hid (∀ j, depthK ((targN x).take j) ≤ depthK (targN x)) := Lib.hid (depthK_take_le (targN x))
  clear hx ih
  by_cases hk : x.k = 0
  · have t1 : (x.k == 0) = true := by simpa using hk
    have HR : Hid (depthN x = 0) := Lib.hid (by rw [HE.out, if_pos hk])
    clear hk HE
    go_enter Tryd.func14, Tryd.ntmps14
    go_wp2
    go_ret
    exact ⟨by rw [HR.out]; rfl, (Below.refl _ _).alloc (Nat.le_refl _) _⟩
  have t1 : (x.k == 0) = false := by simpa using hk
  have HR : Hid (depthN x = 1 + depthK (targN x)) := Lib.hid (by rw [HE.out, if_neg hk])
  clear hk HE
  go_enter Tryd.func14, Tryd.ntmps14
  go_wp2_with fail
  refine (RefTargets_node x A c B c2 _ (HX.out.on ((Below.refl _ _).alloc (Nat.le_refl _) _) (Nat.le_refl _)) hs).mono ?_
  rintro r w1 ⟨B1, c1, rfl, hks, hl1, hc1, hb1⟩
  have HB1 : Hid (Below w.heap.size w w1) := Lib.hid (((Below.refl w.heap.size w).alloc (Nat.le_refl _) _).trans (hb1.mono (by simp)))
  have HK := Lib.hid hks
  have HM : Hid (∀ t ∈ targN x, sizeN t < sizeN x ∧ sizeN t ≤ sizeK (targN x)) := Lib.hid (fun t ht => ⟨targ_lt ht, sizeN_kid ht⟩)
  clear hb1 hks
  generalize hts : targN x = ts at *
  clear hts
  go_wp2
  go_loopw [4, 5] (fun s i wr => ∃ j : Nat, j ≤ ts.length ∧ i = .int .i64 j ∧ s = .int .i64 ((depthK (ts.take j) : Nat) : Int) ∧ Below w1.heap.size w1 wr) (fun _ i _ => ts.length - (intOf i).toNat)
  case atStart => exact ⟨0, by omega, rfl, by simp [depthK], Below.refl _ _⟩
  case round =>
    obtain ⟨j, hj, rfl, rfl, hbr⟩ := hrel
    have hle := HTL.out j
    by_cases hlt : j < ts.length
    · obtain ⟨b, off, A', c', B', c2', rfl, k0, k1, k2, k3, k4, hsub⟩ := (HK.out.on hbr (Nat.le_refl _)).at hlt
      have HBR := Lib.hid hbr
      obtain ⟨hz1, hz2⟩ := HM.out ts[j] (List.getElem_mem hlt)
      have HST := Lib.hid (depthK_take ts j hlt)
      have hle2 := HTL.out (j + 1)
      have HC := Lib.hid (HI.out ts[j] hz1 A' c' B' c2' wr hsub (by omega))
      have hnz := objs_size ts[j]
      have hdz := depth_objs ts[j]
      clear hsub hbr
      go_wp2_with fail
      refine HC.out.mono ?_
      rintro r w' ⟨rfl, hb2⟩
      have HB2 := Lib.hid (bel_on HBR.out hb2)
      clear hb2 k0 k1 k2 k3 k4
      by_cases hgt : depthK (ts.take j) < depthN ts[j]
      · have hm : depthK (ts.take (j + 1)) = depthN ts[j] := by rw [HST.out]; omega
        have HMX := Lib.hid hm
        clear hm
        go_wp2
        go_roundw
        case rel => exact ⟨j + 1, by omega, by go_num, by rw [HMX.out], HB2.out⟩
        case measure => simp [intOf]; omega
      · have hm : depthK (ts.take (j + 1)) = depthK (ts.take j) := by rw [HST.out]; omega
        have HMX := Lib.hid hm
        clear hm
        go_wp2
        go_roundw
        case rel => exact ⟨j + 1, by omega, by go_num, by rw [HMX.out], HB2.out⟩
        case measure => simp [intOf]; omega
    · obtain rfl : j = ts.length := by omega
      go_wp2
      go_ret
      exact ⟨by rw [HR.out, ← HT.out]; rfl, HB1.out.trans (hbr.mono HB1.out.size)⟩
end Go.Proofs.YtnmanhediiooaaaDoor

/- A statement whose order of evaluation is open, one of whose operations (number m) may change blocks of a set S that were there (an append into a row of the call's own), while the others only make memory; its last operation (a store, behind all others) is walked on its own. Each operation has two facts: one that lasts until operation m, and a weaker one that lasts behind it, too. -/
namespace Go.Proofs.YtnmanhediiooaaaDoor
open Go.RowKit
set_option linter.unusedVariables false
set_option linter.unusedSimpArgs false
set_option maxRecDepth 100000

/-- the blocks that were there are as they were, but for those of S -/
structure Keeps (S : Nat → Prop) (w w' : World) : Prop where
  os : w'.os = w.os
  tape : w'.tape = w.tape
  output : w'.output = w.output
  size : w.heap.size ≤ w'.heap.size
  block : ∀ k, k < w.heap.size → ¬ S k → w'.heap[k]? = w.heap[k]?
theorem Keeps.refl (S : Nat → Prop) (w : World) : Keeps S w w := ⟨rfl, rfl, rfl, Nat.le_refl _, fun _ _ _ => rfl⟩
theorem Keeps.trans {S : Nat → Prop} {a b c : World} (h : Keeps S a b) (k : Keeps S b c) : Keeps S a c :=
  ⟨k.os.trans h.os, k.tape.trans h.tape, k.output.trans h.output, Nat.le_trans h.size k.size, fun i hi hS => (k.block i (Nat.lt_of_lt_of_le hi h.size) hS).trans (h.block i hi hS)⟩
theorem keeps_of {S : Nat → Prop} {w w' : World} (h : Below w.heap.size w w') : Keeps S w w' := ⟨h.os, h.tape, h.output, h.size, fun k hk _ => h.block k hk⟩
/-- below B nothing has changed, if S lies at or behind B -/
theorem Keeps.below {S : Nat → Prop} {w w' : World} (h : Keeps S w w') {B : Nat} (hB : B ≤ w.heap.size) (hS : ∀ k, S k → B ≤ k) : Below B w w' :=
  ⟨h.os, h.tape, h.output, h.size, fun k hk => h.block k (by omega) (fun hk2 => by have := hS k hk2; omega)⟩

def stableK (S : Nat → Prop) (T : Fact) : Prop := ∀ v w w', T v w → Keeps S w w' → T v w'
theorem stableK_is (S : Nat → Prop) (u : Value) : stableK S (Is u) := fun _ _ _ h _ => h
def Any : Fact := fun _ _ => True
theorem stable_anyF : stable Any := fun _ _ _ _ _ => trivial
def AfterA (S : Nat → Prop) (sp : Bool) (T : Fact) (a : Act) (dst : Option Tmp) (w : World) (a' : Act) (w' : World) : Prop :=
  ∃ v, a' = a.put dst v ∧ T v w' ∧ (if sp = true then Keeps S w w' else Below w.heap.size w w')

def before (l : List Oper) (i m : Nat) : Bool := i == m || (match l[m]? with
  | none => false
  | some o => o.after.any fun e => Region.binds .any e && e.on == i)

def chainAB (n : Nat) (l : List Oper) (t : Oper) : Bool :=
  (List.range l.length).all (fun i => match l[i]? with
    | none => true
    | some o =>
      (match o.dst with
       | none => false
       | some d => decide (d < n)) &&
      (List.range l.length).all (fun j => j == i || dstAt l j != o.dst) &&
      o.after.all (fun e => !Region.binds .any e || decide (e.on < i)) &&
      (o.looksAt (l ++ [t]).toArray).all (fun s => decide (s < n) && (List.range l.length).all fun j => dstAt l j != some s || o.after.any (fun e => Region.binds .any e && e.on == j))) &&
  (List.range l.length).all (fun j => t.after.any (fun e => Region.binds .any e && e.on == j)) &&
  t.after.all (fun e => !Region.binds .any e || decide (e.on < l.length))

theorem factsTo_app {l : List Oper} {Ts : List Fact} {T : Fact} {i : Nat} (hT : Ts.length = i) : ∀ j, j ≤ i → factsTo l (Ts ++ [T]) j = factsTo l Ts j := by
  intro j
  induction j with
  | zero => intro _; rfl
  | succ j ihj =>
    intro hj
    unfold factsTo
    rw [ihj (by omega), List.getElem?_append_left (by omega)]

theorem get_app {Ts : List Fact} {T U : Fact} {i j : Nat} (hT : Ts.length = i) (h : (Ts ++ [T])[j]? = some U) : (j < i ∧ Ts[j]? = some U) ∨ (j = i ∧ U = T) := by
  by_cases hj : j < Ts.length
  · rw [List.getElem?_append_left hj] at h
    exact .inl ⟨by omega, h⟩
  · rw [List.getElem?_append_right (by omega)] at h
    have h0 : j - Ts.length = 0 := by
      rcases Nat.eq_zero_or_pos (j - Ts.length) with h1 | h1
      · exact h1
      · rw [List.getElem?_eq_none (by simp; omega)] at h; cases h
    rw [h0] at h
    simp at h
    exact .inr ⟨by omega, h.symm⟩

theorem chainAB_at {n : Nat} {l : List Oper} {t : Oper} (h : chainAB n l t = true) {i : Nat} {o : Oper} (ho : l[i]? = some o) :
    (∃ d, o.dst = some d ∧ d < n) ∧ (∀ j, j < l.length → j ≠ i → dstAt l j ≠ o.dst) ∧ (∀ e ∈ o.after, Region.binds .any e = true → e.on < i) ∧
    (∀ s ∈ o.looksAt (l ++ [t]).toArray, s < n ∧ ∀ j, j < l.length → dstAt l j = some s → ∃ e ∈ o.after, Region.binds .any e = true ∧ e.on = j) := by
  have hlt : i < l.length := by
    rcases Nat.lt_or_ge i l.length with h1 | h1
    · exact h1
    · rw [List.getElem?_eq_none h1] at ho; cases ho
  unfold chainAB at h
  rw [Bool.and_eq_true, Bool.and_eq_true, List.all_eq_true] at h
  have h1 := h.1.1 i (List.mem_range.2 hlt)
  rw [ho] at h1
  simp only [Bool.and_eq_true, List.all_eq_true, List.mem_range, Bool.or_eq_true, beq_iff_eq, bne_iff_ne, Bool.not_eq_true', decide_eq_true_eq, Array.all_eq_true_iff_forall_mem, Array.any_eq_true'] at h1
  obtain ⟨⟨⟨h2, h3⟩, h4⟩, h5⟩ := h1
  refine ⟨?_, fun j hj hne => ?_, fun e he hb => ?_, fun s hs => ⟨(h5 s hs).1, fun j hj hd => ?_⟩⟩
  · cases hd : o.dst with
    | none => rw [hd] at h2; cases h2
    | some d => rw [hd] at h2; exact ⟨d, rfl, by simpa using h2⟩
  · rcases h3 j hj with h | h
    · exact absurd h hne
    · exact h
  · rcases h4 e he with h | h
    · rw [h] at hb; cases hb
    · exact h
  · rcases (h5 s hs).2 j hj with h | ⟨e, he, hb⟩
    · exact absurd hd h
    · exact ⟨e, he, hb⟩
theorem chainAB_tail {n : Nat} {l : List Oper} {t : Oper} (h : chainAB n l t = true) : (∀ j, j < l.length → ∃ e ∈ t.after, Region.binds .any e = true ∧ e.on = j) ∧ (∀ e ∈ t.after, Region.binds .any e = true → e.on < l.length) := by
  unfold chainAB at h
  rw [Bool.and_eq_true, Bool.and_eq_true] at h
  obtain ⟨⟨_, h1⟩, h2⟩ := h
  simp only [Bool.and_eq_true, List.all_eq_true, List.mem_range, Bool.or_eq_true, beq_iff_eq, Bool.not_eq_true', decide_eq_true_eq, Array.all_eq_true_iff_forall_mem, Array.any_eq_true'] at h1 h2
  refine ⟨fun j hj => ?_, fun e he hb => ?_⟩
  · obtain ⟨e, he, hb⟩ := h1 j hj
    exact ⟨e, he, hb⟩
  · rcases h2 e he with h | h
    · rw [h] at hb; cases hb
    · exact h

theorem dst_lt {l : List Oper} {j : Nat} {s : Tmp} (h : dstAt l j = some s) : j < l.length := by
  rcases Nat.lt_or_ge j l.length with h1 | h1
  · exact h1
  · simp [dstAt, List.getElem?_eq_none h1] at h

/-! ## The steps -/
def OnlyN (K : Act → World → Prop) : Exit → Act → World → Prop := fun e a w => e = .normal ∧ K a w
section
variable {P : Program} {ops : Array Oper} {l : List Oper} {t : Oper} {m : Nat} {S : Nat → Prop} {a0 : Act} {w0 : World} {Q : Exit → Act → World → Prop} {o : Oper} {r : List Oper} {i : Nat} {F G : List (Tmp × Fact)} {d : Tmp}

end

/-! ## Without such an operation: all operations but the last make memory at most -/
section
variable {P : Program} {ops : Array Oper} {l : List Oper} {t : Oper} {a0 : Act} {w0 : World} {Q : Exit → Act → World → Prop} {o : Oper} {r : List Oper} {i : Nat} {F G : List (Tmp × Fact)} {d : Tmp}
end

/-- an operation that is not carried out, because its guard was not -/
theorem chain_skipU {P : Program} {ops : Array Oper} {a0 : Act} {w0 : World} {Q : Exit → Act → World → Prop} {o : Oper} {r : List Oper} {F : List (Tmp × Fact)} {d : Tmp} {g s : Nat} {b : Bool} (hgd : o.guard = some (g, b)) (hd : o.dst = some d) (hs : s ∈ o.looksAt ops) (hb : (ops[g]?).bind (·.dst) = some s)
    (hv : ∀ w x, KnowsV F a0 w s x → x = undef) (hr : Chain P ops a0 w0 Q r ((d, Is undef) :: F)) : Chain P ops a0 w0 Q (o :: r) F := by
  refine ⟨d, Is undef, hd, stable_is _, fun a w _ hk => ?_, hr⟩
  have hx := hv w _ (hk s hs)
  have hy : yielded ops a.tmps g = none := by
    unfold yielded
    rw [hb]
    simp only [Option.bind_some]
    simp only [Array.getD_eq_getD_getElem?] at hx
    cases ht : a.tmps[s]? with
    | none => rfl
    | some v => rw [ht] at hx; simp at hx; subst hx; rfl
  have hw : Region.wanted o (yielded ops a.tmps) = false := by
    unfold Region.wanted
    rw [hgd]
    simp only [hy]
    cases b <;> rfl
  rw [if_neg (by rw [hw]; exact Bool.false_ne_true)]
  rfl

section
variable {P : Program} {ops : Array Oper} {l : List Oper} {t : Oper} {m : Nat} {S : Nat → Prop} {a0 : Act} {w0 : World} {Q : Exit → Act → World → Prop} {o : Oper} {r : List Oper} {i : Nat} {F G : List (Tmp × Fact)} {d : Tmp}
end

end Go.Proofs.YtnmanhediiooaaaDoor

/- Nodes of the call's own: a node that lies in a range of blocks, and a row of such nodes. -/
namespace Go.Proofs.YtnmanhediiooaaaDoor
open Go.ChangeShapes Go.WideShapes Go.ChangeAt Go.RowKit
set_option linter.unusedVariables false
set_option linter.unusedSimpArgs false
set_option maxRecDepth 100000

/-- the node lies there in each world that agrees with w on the blocks from lo on, below hi -/
def NdO (lo hi : Nat) (w : World) (A : Option Addr) (c : Nat) (B : Option Addr) (c2 : Nat) (x : Nd) : Prop := ∀ W : World, (∀ k, lo ≤ k → k < hi → W.heap[k]? = w.heap[k]?) → NdR W A c B c2 x
theorem NdO.nd {lo hi : Nat} {w : World} {A : Option Addr} {c : Nat} {B : Option Addr} {c2 : Nat} {x : Nd} (h : NdO lo hi w A c B c2 x) : NdR w A c B c2 x := h w (fun _ _ _ => rfl)
theorem NdO.to {lo hi : Nat} {w w' : World} {A : Option Addr} {c : Nat} {B : Option Addr} {c2 : Nat} {x : Nd} (h : NdO lo hi w A c B c2 x) (hw : ∀ k, lo ≤ k → k < hi → w'.heap[k]? = w.heap[k]?) : NdO lo hi w' A c B c2 x :=
  fun W hW => h W fun k h1 h2 => (hW k h1 h2).trans (hw k h1 h2)
theorem NdO.wide {lo hi lo' hi' : Nat} {w : World} {A : Option Addr} {c : Nat} {B : Option Addr} {c2 : Nat} {x : Nd} (h : NdO lo hi w A c B c2 x) (h1 : lo' ≤ lo) (h2 : hi ≤ hi') : NdO lo' hi' w A c B c2 x :=
  fun W hW => h W fun k k1 k2 => hW k (by omega) (by omega)
theorem NdO.below {lo hi : Nat} {w w' : World} {A : Option Addr} {c : Nat} {B : Option Addr} {c2 : Nat} {x : Nd} (h : NdO lo hi w A c B c2 x) {N : Nat} (hb : Below N w w') (hN : hi ≤ N) : NdO lo hi w' A c B c2 x := h.to fun k _ h2 => hb.block k (by omega)

/-- v is a row of nodes of the call's own: it and what its nodes refer to lie at base or behind, apart from each other -/
def OwnN (base : Nat) (w : World) (v : Value) (ts : List Nd) : Prop :=
  ∃ vs, w.ownsRow base 30 5 v ts.length vs ∧ ∀ j (hj : j < ts.length), ∃ A' c' B' c2' lo hi, base ≤ lo ∧ hi ≤ w.heap.size ∧ (∀ g, v.ownBlock = some g → g < lo ∨ hi ≤ g) ∧ NdO lo hi w A' c' B' c2' (ts[j]) ∧
    ∀ o, o < 5 → vs[j * 5 + o]? = (fiveC (ts[j]) A' c' B' c2')[o]?
theorem OwnN.empty (base : Nat) (w : World) : OwnN base w (.slice none 0 0) [] := ⟨[], World.ownsRow_nil w base _ 5, fun j hj => by simp at hj⟩
theorem ownsRow_below {w w' : World} {base : Nat} {E : TypeId} {sz n : Nat} {v : Value} {vs : List Value} (h : w.ownsRow base E sz v n vs) {N : Nat} (hb : Below N w w') (hN : w.heap.size ≤ N) : w'.ownsRow base E sz v n vs := by
  have hlt := h.lt
  refine ⟨h.1, ?_⟩
  rcases h.2 with h2 | ⟨g, cap, cur, hv, hg, hh, r⟩
  · exact .inl h2
  · refine .inr ⟨g, cap, cur, hv, hg, ?_, r⟩
    have := (hlt g (by rw [hv]; rfl)).2
    rw [hb.block g (by omega)]
    exact hh
theorem OwnN.below {base : Nat} {w w' : World} {v : Value} {ts : List Nd} (h : OwnN base w v ts) {N : Nat} (hb : Below N w w') (hN : w.heap.size ≤ N) : OwnN base w' v ts := by
  obtain ⟨vs, h1, h2⟩ := h
  refine ⟨vs, ownsRow_below h1 hb hN, fun j hj => ?_⟩
  obtain ⟨A', c', B', c2', lo, hi, k1, k2, k3, k4, k5⟩ := h2 j hj
  exact ⟨A', c', B', c2', lo, hi, k1, Nat.le_trans k2 hb.size, k3, k4.below hb (by omega), k5⟩
/-- the row and its nodes, as they lie there -/
theorem OwnN.slice {base : Nat} {w : World} {v : Value} {ts : List Nd} (h : OwnN base w v ts) : ∃ B c, v = .slice B ts.length c ∧ ts.length ≤ c ∧ c ≤ maxLen ∧ (B = none → c = 0) := by
  obtain ⟨vs, h1, h2⟩ := h
  rcases h1.2 with ⟨rfl, hn⟩ | ⟨g, cap, cur, rfl, hg, hh, hc, hm, hcs, htk⟩
  · exact ⟨none, 0, by rw [hn], by omega, by omega, fun _ => rfl⟩
  · exact ⟨some ⟨g, 0, none⟩, cap, rfl, hc, hm, fun h => by cases h⟩
/-- a node whose kids are such a row -/
theorem OwnN.node {base : Nat} {w : World} {B : Option Addr} {n0 c2 : Nat} {ts : List Nd} (h : OwnN base w (.slice B n0 c2) ts) {k e n : Int} {d : List Int} {A : Option Addr} {c : Nat}
    (hk : -9223372036854775808 ≤ k ∧ k ≤ 9223372036854775807) (he : -9223372036854775808 ≤ e ∧ e ≤ 9223372036854775807) (hn : -9223372036854775808 ≤ n ∧ n ≤ 9223372036854775807)
    (hd : Got w base 5 .u8 (.slice A d.length c) d) (hby : Bts d) : NdO base w.heap.size w A c B c2 (.mk k e n d ts) := by
  intro W hW
  obtain ⟨A0, c0, he0, hc0, hm0, _⟩ := hd.slice
  injection he0 with e1 e2 e3
  subst e1
  subst e3
  obtain ⟨vs, h1, h2⟩ := h
  have hWO : W.ownsRow base 30 5 (.slice B n0 c2) ts.length vs := by
    refine ⟨h1.1, ?_⟩
    rcases h1.2 with h3 | ⟨g, cap, cur, hv, hg, hh, r⟩
    · exact .inl h3
    · exact .inr ⟨g, cap, cur, hv, hg, (hW g hg (Array.getElem?_eq_some_iff.1 hh).1).trans hh, r⟩
  have hdW : Got W base 5 .u8 (.slice A d.length c) d := by
    have hd0 := hd
    refine ⟨hd.1, ?_⟩
    rcases hd.2 with h3 | ⟨g, cap, cur, hv, hg, hh, r⟩
    · exact .inl h3
    · exact .inr ⟨g, cap, cur, hv, hg, (hW g hg (Array.getElem?_eq_some_iff.1 hh).1).trans hh, r⟩
  have hkid : ∀ j (hj : j < ts.length), ∃ A' c' B' c2', NdR W A' c' B' c2' (ts[j]) ∧ ∀ o, o < 5 → vs[j * 5 + o]? = (fiveC (ts[j]) A' c' B' c2')[o]? := by
    intro j hj
    obtain ⟨A', c', B', c2', lo, hi, k1, k2, k3, k4, k5⟩ := h2 j hj
    exact ⟨A', c', B', c2', k4 W fun q q1 q2 => hW q (by omega) (by omega), k5⟩
  have hAnil : A = none → c = 0 := by
    rintro rfl
    rcases hd.2 with ⟨h3, _⟩ | ⟨g, cap, cur, hv, _⟩
    · injection h3
    · injection hv with h4; cases h4
  have hBs : n0 = ts.length ∧ ts.length ≤ c2 ∧ c2 ≤ maxLen ∧ (B = none → c2 = 0) := by
    rcases h1.2 with ⟨hv, hn⟩ | ⟨g, cap, cur, hv, hg, hh, hc, hm, hcs, htk⟩
    · injection hv with e1 e2 e3
      subst e1; subst e2; subst e3
      exact ⟨by omega, by omega, by omega, fun _ => rfl⟩
    · injection hv with e1 e2 e3
      subst e1; subst e2; subst e3
      exact ⟨rfl, hc, hm, fun h => by cases h⟩
  obtain ⟨_, _, _, _, _, hri⟩ := hdW.slice
  have hriA : Ri W .u8 A d := by
    obtain ⟨A1, c1, he1, _, _, hr1⟩ := hdW.slice
    injection he1 with e1 e2 e3
    subst e1
    exact hr1
  refine .mk k e n d ts A c B c2 (fun j => if h : j < ts.length then Classical.choose (hkid j h) else none)
    (fun j => if h : j < ts.length then Classical.choose (Classical.choose_spec (hkid j h)) else 0)
    (fun j => if h : j < ts.length then Classical.choose (Classical.choose_spec (Classical.choose_spec (hkid j h))) else none)
    (fun j => if h : j < ts.length then Classical.choose (Classical.choose_spec (Classical.choose_spec (Classical.choose_spec (hkid j h)))) else 0)
    hk he hn hriA hby hc0 hm0 hAnil hBs.2.1 hBs.2.2.1 hBs.2.2.2 ?_ ?_
  · by_cases hne : ts = []
    · exact .inl hne
    · right
      have hpos : 0 < ts.length := List.length_pos_iff.2 hne
      rcases hWO.2 with ⟨_, hn⟩ | ⟨g, cap, cur, hv, hg, hh, _⟩
      · omega
      · injection hv with e1 e2 e3
        subst e1
        subst e2
        subst e3
        refine ⟨g, 0, rfl, fun j x hj => ?_⟩
        have hjl : j < ts.length := (List.getElem?_eq_some_iff.1 hj).1
        obtain rfl : ts[j] = x := (List.getElem?_eq_some_iff.1 hj).2
        have hspec := Classical.choose_spec (Classical.choose_spec (Classical.choose_spec (Classical.choose_spec (hkid j hjl))))
        have hcell := fun o (ho : o < 5) => (World.ownsRow.cellAt (g := g) (cap := c2) hWO (j * 5 + o) (by omega)).trans (hspec.2 o ho)
        simp only [dif_pos hjl]
        refine ⟨?_, ?_, ?_, ?_, ?_⟩
        · have := hcell 0 (by omega); rw [Nat.zero_add]; exact this
        · have := hcell 1 (by omega); rw [Nat.zero_add]; exact this
        · have := hcell 2 (by omega); rw [Nat.zero_add]; exact this
        · have := hcell 3 (by omega); rw [Nat.zero_add]; simpa [fiveC] using this
        · have := hcell 4 (by omega); rw [Nat.zero_add]; simpa [fiveC] using this
  · intro j x hj
    have hjl : j < ts.length := (List.getElem?_eq_some_iff.1 hj).1
    obtain rfl : ts[j] = x := (List.getElem?_eq_some_iff.1 hj).2
    have hspec := Classical.choose_spec (Classical.choose_spec (Classical.choose_spec (Classical.choose_spec (hkid j hjl))))
    simp only [dif_pos hjl]
    exact hspec.1

/-! ## A node more in such a row -/
/-! ## What is known of a node that a call gave, and of a row of this one node -/
def NodF (lo : Nat) (x : Nd) : Fact := fun v w => ∃ A c B c2 hi, v = .agg #[.int .i64 x.k, .int .i64 x.e, .int .i64 x.n, .slice A x.d.length c, .slice B x.ks.length c2] ∧ hi ≤ w.heap.size ∧ NdO lo hi w A c B c2 x
theorem stable_nod (lo : Nat) (x : Nd) : stable (NodF lo x) := by
  rintro v w w' ⟨A, c, B, c2, hi, e, h1, h2⟩ hb
  exact ⟨A, c, B, c2, hi, e, Nat.le_trans h1 hb.size, h2.below hb h1⟩
theorem Blk.keeps {W W' : World} {b : Nat} {cs : Array Value} (h : Blk W b cs) {S : Nat → Prop} (hk : Keeps S W W') (hS : ¬ S b) : Blk W' b cs := by
  have hb := hk.block b h.lt hS
  exact ⟨fun o => by rw [World.cell?_of_block (w := W) hb]; exact h.cell o, fun o => by rw [World.frozen?_of_block (w := W) hb]; exact h.free o, Nat.lt_of_lt_of_le h.lt hk.size⟩
theorem OwnN.mono {base base' : Nat} {w : World} {v : Value} {ts : List Nd} (h : OwnN base w v ts) (hb : base' ≤ base) : OwnN base' w v ts := by
  obtain ⟨vs, h1, h2⟩ := h
  refine ⟨vs, ⟨h1.1, ?_⟩, fun j hj => ?_⟩
  · rcases h1.2 with h3 | ⟨g, cap, cur, hv, hg, r⟩
    · exact .inl h3
    · exact .inr ⟨g, cap, cur, hv, by omega, r⟩
  · obtain ⟨A', c', B', c2', lo, hi, k1, k2⟩ := h2 j hj
    exact ⟨A', c', B', c2', lo, hi, by omega, k2⟩
/-- a store into another block -/
theorem OwnN.far {base : Nat} {w : World} {v : Value} {ts : List Nd} (h : OwnN base w v ts) {p : Addr} (hp : p.block < base) (u : Value) : OwnN base (w.setCell p u) v ts := by
  obtain ⟨vs, h1, h2⟩ := h
  refine ⟨vs, ownsRow_setCell_below h1 hp u, fun j hj => ?_⟩
  obtain ⟨A', c', B', c2', lo, hi, k1, k2, k3, k4, k5⟩ := h2 j hj
  exact ⟨A', c', B', c2', lo, hi, k1, by simpa using k2, k3, k4.to fun q q1 _ => Below.heap_setCell _ _ _ _ (by omega), k5⟩
theorem OwnN.cast {base : Nat} {w : World} {v : Value} {ts ts' : List Nd} (h : OwnN base w v ts) (e : ts = ts') : OwnN base w v ts' := e ▸ h
theorem got_agree {w w' : World} {base : Nat} {E : TypeId} {k : IntKind} {v : Value} {zs : List Int} (h : Got w base E k v zs) (hw : ∀ q, base ≤ q → q < w.heap.size → w'.heap[q]? = w.heap[q]?) : Got w' base E k v zs := by
  refine ⟨h.1, ?_⟩
  rcases h.2 with h3 | ⟨g, cap, cur, hv, hg, hh, r⟩
  · exact .inl h3
  · exact .inr ⟨g, cap, cur, hv, hg, (hw g hg (Array.getElem?_eq_some_iff.1 hh).1).trans hh, r⟩
end Go.Proofs.YtnmanhediiooaaaDoor

/- What the reference functions of layer 11 do, each by a contract. -/
namespace Go.Proofs.YtnmanhediiooaaaDoor
open Go.ChangeShapes Go.WideShapes Go.ChangeAt Go.RowKit
set_option linter.unusedVariables false
set_option linter.unusedSimpArgs false
set_option maxRecDepth 100000

set_option maxRecDepth 100000 in
theorem RefWords11_any (A : Option Addr) (c : Nat) (d : List Int) (w : World) (hr : Ri w .u8 A d) (hb : Bts d) (hm : d.length ≤ 1099511627776) :
    Calls Tryd.prog 29 #[.slice A d.length c] w fun r w' => r = .returned (.int .i64 (wordsT d)) ∧ w = w' := by
  have Hr := Lib.hid hr
  have Hb := Lib.hid hb
  have HW : Hid (wordsT d = wordsF d d.length) := Lib.hid rfl
  clear hr hb
  go_enter Tryd.func29, Tryd.ntmps29
  go_wp2
  go_loop [3, 4] (fun n i => ∃ k : Nat, k ≤ d.length ∧ i = .int .i64 k ∧ n = .int .i64 (wordsF d k)) (fun _ i => d.length - (intOf i).toNat)
  case atStart => exact ⟨0, by omega, rfl, rfl⟩
  case round =>
    obtain ⟨k, hk, rfl, rfl⟩ := hrel
    by_cases hlt : k < d.length
    · obtain ⟨g, off, rfl, hc⟩ := Hr.out.at hlt
      have hcell := hc k hlt
      have hz := Hb.out.at k
      have hlt2 : (k : Int) < (d.length : Int) := by omega
      have HS : Hid (wordsF d (k + 1) = if zat d k = 0 then wordsF d k else k / 8 + 1) := Lib.hid rfl
      clear hc
      generalize zat d k = z at *
      by_cases h0 : z = 0
      · subst h0
        go_wp2
        go_round
        case rel => exact ⟨k + 1, by omega, by go_num, by rw [HS.out, if_pos rfl]⟩
        case measure => simp [intOf]; omega
      · have hne : (z != 0) = true := by simpa using h0
        have HZ := Lib.hid h0
        clear h0
        go_wp2
        go_round
        case rel => exact ⟨k + 1, by omega, by go_num, by rw [HS.out, if_neg HZ.out]; go_num⟩
        case measure => simp [intOf]; omega
    · obtain rfl : k = d.length := by omega
      go_wp2
      go_ret
      exact ⟨by rw [HW.out]; rfl, rfl⟩

set_option maxRecDepth 100000 in
theorem RefPointers11_any (B : Option Addr) (c : Nat) (ks : List Nd) (w : World) (hr : KsR w B ks) (hm : ks.length ≤ 1099511627776) :
    Calls Tryd.prog 30 #[.slice B ks.length c] w fun r w' => r = .returned (.int .i64 (ptrsT ks)) ∧ w = w' := by
  have Hr := Lib.hid hr
  have HW : Hid (ptrsT ks = ptrsF ks ks.length) := Lib.hid rfl
  clear hr
  go_enter Tryd.func30, Tryd.ntmps30
  go_wp2
  go_loop [3, 4] (fun n i => ∃ k : Nat, k ≤ ks.length ∧ i = .int .i64 k ∧ n = .int .i64 (ptrsF ks k)) (fun _ i => ks.length - (intOf i).toNat)
  case atStart => exact ⟨0, by omega, rfl, rfl⟩
  case round =>
    obtain ⟨k, hk, rfl, rfl⟩ := hrel
    by_cases hlt : k < ks.length
    · obtain ⟨b, off, Aa, ca, Ba, cb, rfl, hcell, -⟩ := Hr.out.at hlt
      have hlt2 : (k : Int) < (ks.length : Int) := by omega
      have HS : Hid (ptrsF ks (k + 1) = if ks[k].k = 0 then ptrsF ks k else k + 1) := Lib.hid (by rw [← kAt_get hlt]; rfl)
      generalize ks[k].k = z at *
      by_cases h0 : z = 0
      · subst h0
        go_wp2
        go_round
        case rel => exact ⟨k + 1, by omega, by go_num, by rw [HS.out, if_pos rfl]⟩
        case measure => simp [intOf]; omega
      · have hne : (z != 0) = true := by simpa using h0
        have HZ := Lib.hid h0
        clear h0
        go_wp2
        go_round
        case rel => exact ⟨k + 1, by omega, by go_num, by rw [HS.out, if_neg HZ.out]; go_num⟩
        case measure => simp [intOf]; omega
    · obtain rfl : k = ks.length := by omega
      go_wp2
      go_ret
      exact ⟨by rw [HW.out]; rfl, rfl⟩

end Go.Proofs.YtnmanhediiooaaaDoor

/- What the reference's Copy gives: the same node in memory of its own. -/
namespace Go.Proofs.YtnmanhediiooaaaDoor
open Go.ChangeShapes Go.WideShapes Go.ChangeAt Go.RowKit
set_option linter.unusedVariables false
set_option linter.unusedSimpArgs false
set_option maxRecDepth 100000
attribute [local simp] AllK KnowsV look Is

theorem hold_it {p : Prop} (h : Hid p) : p := h.out
theorem abs_code10 {P : Program} {C : Code} {Q : Exit → Act → World → Prop} {a : Act} {V : World} (F : World → Prop) (hF : F V) (h : ∀ W, F W → C.wp P Q a W) : C.wp P Q a V := h V hF

end Go.Proofs.YtnmanhediiooaaaDoor

/- Nodes that a function builds: a node of its data and its row of kids, and what lasts of such values. -/
namespace Go.Proofs.YtnmanhediiooaaaDoor
open Go.ChangeShapes Go.WideShapes Go.ChangeAt Go.RowKit
set_option linter.unusedVariables false
set_option linter.unusedSimpArgs false
set_option maxRecDepth 100000

/-- a node out of its parts -/
theorem KsR.node {w : World} {B : Option Addr} {ks : List Nd} (h : KsR w B ks) {k e n : Int} {d : List Int} {A : Option Addr} {c c2 : Nat}
    (hk : -9223372036854775808 ≤ k ∧ k ≤ 9223372036854775807) (he : -9223372036854775808 ≤ e ∧ e ≤ 9223372036854775807) (hn : -9223372036854775808 ≤ n ∧ n ≤ 9223372036854775807)
    (hd : Ri w .u8 A d) (hby : Bts d) (hdl : d.length ≤ c) (hc : c ≤ maxLen) (hA : A = none → c = 0) (hkl : ks.length ≤ c2) (hc2 : c2 ≤ maxLen) (hB : B = none → c2 = 0) : NdR w A c B c2 (.mk k e n d ks) := by
  rcases h with rfl | ⟨b, off, hBe, h⟩
  · exact .mk k e n d [] A c B c2 (fun _ => none) (fun _ => 0) (fun _ => none) (fun _ => 0) hk he hn hd hby hdl hc hA hkl hc2 hB (.inl rfl) (fun j x hx => by simp at hx)
  · refine .mk k e n d ks A c B c2 (fun j => if h0 : j < ks.length then Classical.choose (h j h0) else none) (fun j => if h0 : j < ks.length then Classical.choose (Classical.choose_spec (h j h0)) else 0)
      (fun j => if h0 : j < ks.length then Classical.choose (Classical.choose_spec (Classical.choose_spec (h j h0))) else none) (fun j => if h0 : j < ks.length then Classical.choose (Classical.choose_spec (Classical.choose_spec (Classical.choose_spec (h j h0)))) else 0)
      hk he hn hd hby hdl hc hA hkl hc2 hB (.inr ⟨b, off, hBe, fun j x hj => ?_⟩) (fun j x hj => ?_)
    · have hjl : j < ks.length := (List.getElem?_eq_some_iff.1 hj).1
      obtain rfl : ks[j] = x := (List.getElem?_eq_some_iff.1 hj).2
      have hs := Classical.choose_spec (Classical.choose_spec (Classical.choose_spec (Classical.choose_spec (h j hjl))))
      simp only [dif_pos hjl]
      exact ⟨hs.1, hs.2.1, hs.2.2.1, hs.2.2.2.1, hs.2.2.2.2.1⟩
    · have hjl : j < ks.length := (List.getElem?_eq_some_iff.1 hj).1
      obtain rfl : ks[j] = x := (List.getElem?_eq_some_iff.1 hj).2
      have hs := Classical.choose_spec (Classical.choose_spec (Classical.choose_spec (Classical.choose_spec (h j hjl))))
      simp only [dif_pos hjl]
      exact hs.2.2.2.2.2

theorem nd0_here (w : World) (k : Int) (hk : -9223372036854775808 ≤ k ∧ k ≤ 9223372036854775807) : NdR w none 0 none 0 (.mk k 0 0 [] []) :=
  (show KsR w none [] from .inl rfl).node hk ⟨by decide, by decide⟩ ⟨by decide, by decide⟩ (Ri.nil _ _ _) (by intro z hz; cases hz) (by simp) (by unfold maxLen; omega) (fun _ => rfl) (by simp) (by unfold maxLen; omega) (fun _ => rfl)
theorem allN_atF {P : Nat → Prop} : ∀ {n s : Nat}, AllN P n s → ∀ j, s ≤ j → j < s + n → P j
  | 0, _, _, _, _, h => by omega
  | n + 1, s, h, j, h1, h2 => by
    by_cases e : s = j
    · subst e; exact h.1
    · exact allN_atF h.2 j (by omega) (by omega)
end Go.Proofs.YtnmanhediiooaaaDoor

/- What the reference's Trim gives: the trimmed node in memory of its own. -/
namespace Go.Proofs.YtnmanhediiooaaaDoor
open Go.ChangeShapes Go.WideShapes Go.ChangeAt Go.RowKit
set_option linter.unusedVariables false
set_option linter.unusedSimpArgs false
set_option maxRecDepth 100000
attribute [local simp] AllK KnowsV look Is

theorem valid_kids11 {k e n : Int} {d : List Int} {ks : List Nd} (h : validN (.mk k e n d ks) = true) : (∀ y ∈ ks, validN y = true) ∧ (k = 1 → d.length % 8 = 0) := by
  simp only [validN, Bool.and_eq_true] at h
  obtain ⟨h1, h2⟩ := h
  refine ⟨fun y hy => ?_, fun hk => ?_⟩
  · obtain ⟨j, hj, rfl⟩ := List.getElem_of_mem hy
    rcases Bool.eq_false_or_eq_true (validN ks[j]) with h3 | h3
    · exact h3
    · have := validK_no k e ks j hj (by rw [h3]; rfl)
      rw [h1] at this
      cases this
  · unfold headB at h2
    rw [if_neg (by omega), if_pos hk, decide_eq_true_iff] at h2
    exact h2.2.2.1
theorem trim_eq (k e n : Int) (d : List Int) (ks : List Nd) : trimN (.mk k e n d ks) = .mk k e n (d.take (if k = 1 then 8 * wordsT d else d.length)) ((trimK ks).take (if k = 1 then ptrsT ks else ks.length)) := by
  simp only [trimN]
  split
  · rfl
  · rw [List.take_length, ← trimK_length, List.take_length]

end Go.Proofs.YtnmanhediiooaaaDoor

/- What lies in memory although new variables of the type Node, whose first cell is still zero, are written: for statements that make a variable and what is stored into it in any order. -/
namespace Go.Proofs.YtnmanhediiooaaaDoor
open Go.ChangeShapes Go.WideShapes Go.ChangeAt Go.RowKit
set_option linter.unusedVariables false
set_option linter.unusedSimpArgs false
set_option maxRecDepth 100000

theorem Ri.agree {w W : World} {k : IntKind} {A : Option Addr} {zs : List Int} (h : Ri w k A zs) {N : Nat} (hw : ∀ q, q < N → W.heap[q]? = w.heap[q]?) (hN : w.heap.size ≤ N) : Ri W k A zs := by
  rcases h with rfl | ⟨b, off, rfl, h⟩
  · exact .inl rfl
  · refine .inr ⟨b, off, rfl, fun j hj => ?_⟩
    have hlt : b < w.heap.size := World.block_lt_of_cell? w ⟨b, off + j, none⟩ (h j hj)
    rw [World.cell?_of_block (w := w) (hw b (by omega))]
    exact h j hj
theorem NdR.agree {w W : World} {A : Option Addr} {c : Nat} {B : Option Addr} {c2 : Nat} {x : Nd} (h : NdR w A c B c2 x) {N : Nat} (hw : ∀ q, q < N → W.heap[q]? = w.heap[q]?) (hN : w.heap.size ≤ N) : NdR W A c B c2 x := by
  induction h with
  | mk k e n d ks A c B c2 FA Fc FB Fc2 hk he hn hd hby hdl hc hA hkl hc2 hB hcell hsub ih =>
    refine .mk k e n d ks A c B c2 FA Fc FB Fc2 hk he hn (hd.agree hw hN) hby hdl hc hA hkl hc2 hB ?_ ih
    rcases hcell with h | ⟨b, off, hBe, hcs⟩
    · exact .inl h
    · refine .inr ⟨b, off, hBe, fun j x hj => ?_⟩
      obtain ⟨h0, h1, h2, h3, h4⟩ := hcs j x hj
      have hlt : b < w.heap.size := World.block_lt_of_cell? w ⟨b, off + j * 5, none⟩ h0
      have hc := fun o => World.cell?_of_block (w := w) (a := ⟨b, o, none⟩) (hw b (by omega))
      exact ⟨(hc _).trans h0, (hc _).trans h1, (hc _).trans h2, (hc _).trans h3, (hc _).trans h4⟩

/-- the blocks that are no new variable of the type Node (of those from B on, such with another first cell than zero) -/
def OkB (B : Nat) (w : World) (k : Nat) : Prop := k < w.heap.size ∧ (k < B ∨ w.cell? ⟨k, 0, none⟩ ≠ some (.int .i64 0))
/-- P holds in each world that agrees with w on these blocks -/
def Rob (B : Nat) (w : World) (P : World → Prop) : Prop := ∀ W : World, (∀ k, OkB B w k → W.heap[k]? = w.heap[k]?) → P W
theorem Rob.on {B : Nat} {w w' : World} {P : World → Prop} (h : Rob B w P) (hb : Below w.heap.size w w') : Rob B w' P := fun W hW => h W fun k hk => by
  have e := hb.block k hk.1
  refine (hW k ⟨Nat.lt_of_lt_of_le hk.1 hb.size, ?_⟩).trans e
  rw [World.cell?_of_block (w := w) (a := ⟨k, 0, none⟩) e]
  exact hk.2
/-- a store into such a variable -/
theorem Rob.to {B : Nat} {w W : World} {P : World → Prop} (h : Rob B w P) {b : Nat} (hB : B ≤ b) (hz : w.cell? ⟨b, 0, none⟩ = some (.int .i64 0)) (hW : ∀ k, k ≠ b → W.heap[k]? = w.heap[k]?) : P W := h W fun k hk => hW k fun e => by
  subst e
  rcases hk.2 with h1 | h1
  · omega
  · exact h1 hz
theorem Rob.and {B : Nat} {w : World} {P P2 : World → Prop} (h : Rob B w P) (h2 : Rob B w P2) : Rob B w fun W => P W ∧ P2 W := fun W hW => ⟨h W hW, h2 W hW⟩
end Go.Proofs.YtnmanhediiooaaaDoor

/- Rows of the call's own of nodes that came in: 'append([]Node{}, a...)' as an operation that makes memory, and one node more. -/
namespace Go.Proofs.YtnmanhediiooaaaDoor
open Go.ChangeShapes Go.WideShapes Go.ChangeAt Go.RowKit
set_option linter.unusedVariables false
set_option linter.unusedSimpArgs false
set_option maxRecDepth 100000

theorem OwnK.below {W0 w w' : World} {base : Nat} {v : Value} {ts : List Nd} (h : OwnK W0 w base v ts) {N : Nat} (hb : Below N w w') (hN : w.heap.size ≤ N) : OwnK W0 w' base v ts := by
  obtain ⟨vs, h1, h2⟩ := h
  exact ⟨vs, ownsRow_below h1 hb hN, h2⟩
theorem OwnK.far {W0 w : World} {base : Nat} {v : Value} {ts : List Nd} (h : OwnK W0 w base v ts) {p : Addr} (hp : p.block < base) (u : Value) : OwnK W0 (w.setCell p u) base v ts := by
  obtain ⟨vs, h1, h2⟩ := h
  exact ⟨vs, ownsRow_setCell_below h1 hp u, h2⟩
end Go.Proofs.YtnmanhediiooaaaDoor

/- A statement whose order of evaluation is open and that ends in several stores, one after the other ('a, b, c = f(..)'): the operations l (the first late of them come before every store; those behind them, the results' parts, may come between the stores, and neither read memory nor write it), then the stores and one last operation (ts). One walk: l in the order of the text, then ts. -/
namespace Go.Proofs.YtnmanhediiooaaaDoor
open Go.RowKit
set_option linter.unusedVariables false
set_option linter.unusedSimpArgs false
set_option maxRecDepth 100000

/-- does operation i come before every store? (late: the numbers of those that need not) -/
def isA (late : List Nat) (i : Nat) : Bool := !late.contains i
def free (U : Fact) : Prop := ∀ v w w', U v w → U v w'
theorem free_is (u : Value) : free (Is u) := fun _ _ _ h => h
/-- an operation that neither reads memory nor writes it, with a known result -/
def PureOK (P : Program) (ops : Array Oper) (G : List (Tmp × Fact)) (a0 : Act) (o : Oper) (T : Fact) : Prop :=
  o.guard = none ∧ ∃ u, T = Is u ∧ ∀ a w, (∀ s ∈ o.looksAt ops, Knows G a0 a w s) → (execOp a.eval o).run P w = .ok (.value u) w

def ChainT (P : Program) (ops : Array Oper) (late : List Nat) (a0 : Act) (w0 : World) (E : Act → World → Prop) : List Oper → Nat → List (Tmp × Fact) → List (Tmp × Fact) → Prop
  | [], _, F, _ => ∀ a w, Below w0.heap.size w0 w → a.defers = a0.defers → a.tmps.size = a0.tmps.size → (∀ s, s < a0.tmps.size → Knows F a0 a w s) → E a w
  | o :: r, i, F, G => ∃ d T U, o.dst = some d ∧ stable T ∧ free U ∧ (∀ v w, T v w → U v w) ∧ (if isA late i = true then StepOK P ops F a0 w0 o T else PureOK P ops G a0 o T) ∧ ChainT P ops late a0 w0 E r (i + 1) ((d, T) :: F) ((d, U) :: G)

structure FactsT (P : Program) (ops : Array Oper) (l : List Oper) (late : List Nat) (a0 : Act) (w0 : World) (Ts Us : List Fact) (i : Nat) : Prop where
  len : Ts.length = i
  len2 : Us.length = i
  st : ∀ (j : Nat) (T : Fact), Ts[j]? = some T → stable T
  fr : ∀ (j : Nat) (U : Fact), Us[j]? = some U → free U
  weak : ∀ (j : Nat) (T U : Fact), Ts[j]? = some T → Us[j]? = some U → ∀ v w, T v w → U v w
  step : ∀ (j : Nat) (o : Oper) (T : Fact), l[j]? = some o → Ts[j]? = some T → if isA late j = true then StepOK P ops (factsTo l Ts j) a0 w0 o T else PureOK P ops (factsTo l Us j) a0 o T

theorem chainT_facts {P : Program} {ops : Array Oper} {a0 : Act} {w0 : World} {E : Act → World → Prop} {l : List Oper} {late : List Nat} :
    ∀ (r : List Oper) (i : Nat) (Ts Us : List Fact), l.drop i = r → i ≤ l.length → ChainT P ops late a0 w0 E r i (factsTo l Ts i) (factsTo l Us i) → FactsT P ops l late a0 w0 Ts Us i →
      ∃ Ts Us : List Fact, FactsT P ops l late a0 w0 Ts Us l.length ∧ ChainT P ops late a0 w0 E [] l.length (factsTo l Ts l.length) (factsTo l Us l.length) := by
  intro r
  induction r with
  | nil =>
    intro i Ts Us hd hi hc hF
    have : i = l.length := by
      have := congrArg List.length hd
      simp at this
      omega
    subst this
    exact ⟨Ts, Us, hF, hc⟩
  | cons o r ih =>
    intro i Ts Us hd hi hc hF
    obtain ⟨d, T, U, hdst, hs1, hs2, hw, hstep, hrest⟩ := hc
    have hlt : i < l.length := by
      have := congrArg List.length hd
      simp at this
      omega
    have hli : l[i]? = some o := by
      have := congrArg (fun x => x[0]?) hd
      simpa using this
    have hdi : dstAt l i = some d := by simp [dstAt, hli, hdst]
    have fT := factsTo_app (l := l) (T := T) hF.len
    have fU := factsTo_app (l := l) (T := U) hF.len2
    have gT : (Ts ++ [T])[i]? = some T := by rw [List.getElem?_append_right (by have := hF.len; omega)]; simp [hF.len]
    have gU : (Us ++ [U])[i]? = some U := by rw [List.getElem?_append_right (by have := hF.len2; omega)]; simp [hF.len2]
    refine ih (i + 1) (Ts ++ [T]) (Us ++ [U]) (by rw [← List.drop_drop, hd]; rfl) (by omega) ?_ ⟨by simp [hF.len], by simp [hF.len2], ?_, ?_, ?_, ?_⟩
    · have e1 : factsTo l (Ts ++ [T]) (i + 1) = (d, T) :: factsTo l Ts i := by rw [factsTo, hdi, gT, fT i (Nat.le_refl _)]
      have e2 : factsTo l (Us ++ [U]) (i + 1) = (d, U) :: factsTo l Us i := by rw [factsTo, hdi, gU, fU i (Nat.le_refl _)]
      rw [e1, e2]
      exact hrest
    · intro j V hV
      rcases get_app hF.len hV with ⟨_, h⟩ | ⟨_, rfl⟩
      · exact hF.st j V h
      · exact hs1
    · intro j V hV
      rcases get_app hF.len2 hV with ⟨_, h⟩ | ⟨_, rfl⟩
      · exact hF.fr j V h
      · exact hs2
    · intro j V V' hV hV'
      rcases get_app hF.len hV with ⟨h0, h⟩ | ⟨rfl, rfl⟩
      · rcases get_app hF.len2 hV' with ⟨_, h'⟩ | ⟨h1, _⟩
        · exact hF.weak j V V' h h'
        · omega
      · rcases get_app hF.len2 hV' with ⟨h1, _⟩ | ⟨_, rfl⟩
        · omega
        · exact hw
    · intro j o' V ho' hV
      rcases get_app hF.len hV with ⟨h0, h⟩ | ⟨rfl, rfl⟩
      · rw [fT j (by omega), fU j (by omega)]
        exact hF.step j o' V ho' h
      · rw [hli] at ho'
        injection ho' with ho'
        subst ho'
        rw [fT j (Nat.le_refl _), fU j (Nat.le_refl _)]
        exact hstep

def storeOf (o : Oper) : Option (Tmp × Tmp) := match o.op with
  | .store _ (.tmp p) (.tmp v) => some (p, v)
  | _ => none

def chainTB (n : Nat) (late : List Nat) (l ts : List Oper) : Bool :=
  (List.range l.length).all (fun i => match l[i]? with
    | none => true
    | some o =>
      (match o.dst with
       | none => false
       | some d => decide (d < n)) &&
      (List.range l.length).all (fun j => j == i || dstAt l j != o.dst) &&
      o.after.all (fun e => !Region.binds .any e || decide (e.on < i)) &&
      (o.looksAt (l ++ ts).toArray).all (fun s => decide (s < n) && (List.range l.length).all fun j => dstAt l j != some s || (o.after.any (fun e => Region.binds .any e && e.on == j) && (isA late i || isA late j)))) &&
  (List.range ts.length).all (fun k => match ts[k]? with
    | none => true
    | some o =>
      o.guard.isNone &&
      o.after.all (fun e => !Region.binds .any e || decide (e.on < l.length + k)) &&
      (List.range l.length).all (fun j => (!isA late j && decide (k + 1 < ts.length)) || o.after.any (fun e => Region.binds .any e && e.on == j)) &&
      (k == 0 || o.after.any (fun e => Region.binds .any e && e.on == l.length + k - 1)) &&
      (k + 1 == ts.length || (o.dst.isNone && match storeOf o with
        | none => false
        | some (p, v) => decide (p < n) && decide (v < n) && (List.range l.length).all fun j => (dstAt l j != some p && dstAt l j != some v) || o.after.any (fun e => Region.binds .any e && e.on == j))))

theorem chainTB_at {n : Nat} {late : List Nat} {l ts : List Oper} (h : chainTB n late l ts = true) {i : Nat} {o : Oper} (ho : l[i]? = some o) :
    (∃ d, o.dst = some d ∧ d < n) ∧ (∀ j, j < l.length → j ≠ i → dstAt l j ≠ o.dst) ∧ (∀ e ∈ o.after, Region.binds .any e = true → e.on < i) ∧
    (∀ s ∈ o.looksAt (l ++ ts).toArray, s < n ∧ ∀ j, j < l.length → dstAt l j = some s → (∃ e ∈ o.after, Region.binds .any e = true ∧ e.on = j) ∧ (isA late i = true ∨ isA late j = true)) := by
  have hlt : i < l.length := by
    rcases Nat.lt_or_ge i l.length with h1 | h1
    · exact h1
    · rw [List.getElem?_eq_none h1] at ho; cases ho
  unfold chainTB at h
  rw [Bool.and_eq_true, List.all_eq_true] at h
  have h1 := h.1 i (List.mem_range.2 hlt)
  rw [ho] at h1
  simp only [Bool.and_eq_true, List.all_eq_true, List.mem_range, Bool.or_eq_true, beq_iff_eq, bne_iff_ne, Bool.not_eq_true', decide_eq_true_eq, Array.all_eq_true_iff_forall_mem, Array.any_eq_true'] at h1
  obtain ⟨⟨⟨h2, h3⟩, h4⟩, h5⟩ := h1
  refine ⟨?_, fun j hj hne => ?_, fun e he hb => ?_, fun s hs => ⟨(h5 s hs).1, fun j hj hd => ?_⟩⟩
  · cases hd : o.dst with
    | none => rw [hd] at h2; cases h2
    | some d => rw [hd] at h2; exact ⟨d, rfl, by simpa using h2⟩
  · rcases h3 j hj with h | h
    · exact absurd h hne
    · exact h
  · rcases h4 e he with h | h
    · rw [h] at hb; cases hb
    · exact h
  · rcases (h5 s hs).2 j hj with h | ⟨⟨e, he, hb⟩, h2⟩
    · exact absurd hd h
    · exact ⟨⟨e, he, hb⟩, h2⟩

theorem chainTB_tail {n : Nat} {late : List Nat} {l ts : List Oper} (h : chainTB n late l ts = true) {k : Nat} {o : Oper} (ho : ts[k]? = some o) :
    o.guard = none ∧ (∀ e ∈ o.after, Region.binds .any e = true → e.on < l.length + k) ∧
    (∀ j, j < l.length → (isA late j = true ∨ k + 1 = ts.length) → ∃ e ∈ o.after, Region.binds .any e = true ∧ e.on = j) ∧
    (0 < k → ∃ e ∈ o.after, Region.binds .any e = true ∧ e.on = l.length + k - 1) ∧
    (k + 1 ≠ ts.length → o.dst = none ∧ ∃ t p v, o.op = .store t (.tmp p) (.tmp v) ∧ ∀ j, j < l.length → dstAt l j = some p ∨ dstAt l j = some v → ∃ e ∈ o.after, Region.binds .any e = true ∧ e.on = j) := by
  have hlt : k < ts.length := by
    rcases Nat.lt_or_ge k ts.length with h1 | h1
    · exact h1
    · rw [List.getElem?_eq_none h1] at ho; cases ho
  unfold chainTB at h
  rw [Bool.and_eq_true] at h
  have h1 := (List.all_eq_true.1 h.2) k (List.mem_range.2 hlt)
  rw [ho] at h1
  simp only [Bool.and_eq_true, List.all_eq_true, List.mem_range, Bool.or_eq_true, beq_iff_eq, bne_iff_ne, Bool.not_eq_true', decide_eq_true_eq, Array.all_eq_true_iff_forall_mem, Array.any_eq_true', Option.isNone_iff_eq_none] at h1
  obtain ⟨⟨⟨⟨h2, h3⟩, h4⟩, h5⟩, h6⟩ := h1
  refine ⟨h2, fun e he hb => ?_, fun j hj hor => ?_, fun hk => ?_, fun hne => ?_⟩
  · rcases h3 e he with h | h
    · rw [h] at hb; cases hb
    · exact h
  · rcases h4 j hj with ⟨h7, h8⟩ | ⟨e, he, hb⟩
    · rcases hor with h | h
      · rw [h7] at h; cases h
      · omega
    · exact ⟨e, he, hb⟩
  · rcases h5 with h | ⟨e, he, hb⟩
    · omega
    · exact ⟨e, he, hb⟩
  · rcases h6 with h | ⟨h7, h8⟩
    · exact absurd h hne
    · refine ⟨h7, ?_⟩
      unfold storeOf at h8
      split at h8
      · cases h8
      · rename_i p v hst
        split at hst
        · rename_i t p' v' hop
          injection hst with hst
          injection hst with e1 e2
          subst e1 e2
          simp only [Bool.and_eq_true, List.all_eq_true, List.mem_range, Bool.or_eq_true, beq_iff_eq, bne_iff_ne, decide_eq_true_eq, Array.any_eq_true'] at h8
          refine ⟨t, p', v', hop, fun j hj hd => ?_⟩
          rcases h8.2 j hj with h | ⟨e, he, hb⟩
          · rcases hd with hd | hd
            · exact absurd hd h.1
            · exact absurd hd h.2
          · exact ⟨e, he, hb⟩
        · cases hst
/-- the frames agree but for the results that are not there yet -/
structure Ph2 (l ts : List Oper) (late : List Nat) (b a : Act) (listed : Array Bool) (k : Nat) : Prop where
  size : listed.size = l.length + ts.length
  kle : k ≤ ts.length
  la : ∀ j, j < l.length → isA late j = true ∨ k = ts.length → listed.getD j false = true
  ldone : ∀ q, q < k → listed.getD (l.length + q) false = true
  lopen : ∀ q, k ≤ q → q < ts.length → listed.getD (l.length + q) true = false
  agree : ∀ s : Tmp, (∀ j, j < l.length → listed.getD j false = false → dstAt l j ≠ some s) → a.tmps.getD s undef = b.tmps.getD s undef
  defers : a.defers = b.defers
  tmps : a.tmps.size = b.tmps.size

theorem act_ext {a b : Act} (h1 : a.defers = b.defers) (h2 : a.tmps.size = b.tmps.size) (h3 : ∀ s, a.tmps.getD s undef = b.tmps.getD s undef) : a = b := by
  obtain ⟨ta, da⟩ := a
  obtain ⟨tb, db⟩ := b
  simp only at h1 h2
  subst h1
  congr 1
  apply Array.ext h2
  intro i hi hi'
  have := h3 i
  simpa [hi, hi'] using this

theorem eval_tmp (a : Act) (s : Tmp) : a.eval (.tmp s) = a.tmps.getD s undef := rfl

theorem drop_cons {α : Type} {l : List α} {k : Nat} {x : α} (h : l[k]? = some x) : l.drop k = x :: l.drop (k + 1) := by
  obtain ⟨hk, rfl⟩ := List.getElem?_eq_some_iff.1 h
  exact List.drop_eq_getElem_cons hk

theorem ph2_any {P : Program} {l ts : List Oper} {late : List Nat} {Q : Exit → Act → World → Prop} {b : Act} (hB : chainTB b.tmps.size late l ts = true)
    (hE : ∀ j o, l[j]? = some o → isA late j = false → o.guard = none ∧ ∃ d, o.dst = some d ∧ ∀ (a : Act) (w : World), (∀ s ∈ o.looksAt (l ++ ts).toArray, a.tmps.getD s undef = b.tmps.getD s undef) → (execOp a.eval o).run P w = .ok (.value (b.tmps.getD d undef)) w) :
    ∀ (fuel : Nat) (listed : Array Bool) (a : Act) (w : World) (k : Nat), Ph2 l ts late b a listed k → (∃ n, n ≤ fuel ∧ n = (List.range (l.length + ts.length)).countP (fun j => !listed.getD j true)) → wpList P (l ++ ts).toArray (OnlyN fun a w => Q .normal a w) (ts.drop k) b w → wpAny P .any (l ++ ts).toArray Q fuel listed a w := by
  have hgl : ∀ j, j < l.length → (l ++ ts).toArray[j]? = l[j]? := fun j hj => by rw [List.getElem?_toArray, List.getElem?_append_left hj]
  have hgt : ∀ q, (l ++ ts).toArray[l.length + q]? = ts[q]? := fun q => by
    rw [List.getElem?_toArray, List.getElem?_append_right (by omega)]; congr 1; omega
  have hff : ∀ {listed : Array Bool} {j : Nat}, j < listed.size → (listed.getD j true = false ↔ listed.getD j false = false) := by
    intro listed j hj
    simp [hj]
  have hdec : ∀ {listed : Array Bool} {i : Nat} {n f : Nat}, listed.size = l.length + ts.length → i < l.length + ts.length → listed.getD i true = false → n = (List.range (l.length + ts.length)).countP (fun j => !listed.getD j true) → n ≤ f + 1 → ∃ m, m ≤ f ∧ m = (List.range (l.length + ts.length)).countP (fun j => !(listed.setIfInBounds i true).getD j true) := by
    intro listed i n f hsz hi hu hn hf
    refine ⟨_, ?_, rfl⟩
    have hlt : (List.range (l.length + ts.length)).countP (fun j => !(listed.setIfInBounds i true).getD j true) < (List.range (l.length + ts.length)).countP (fun j => !listed.getD j true) := by
      refine countP_lt (i := i) (fun x _ hx => ?_) (List.mem_range.2 hi) (by simp [hu]) ?_
      · by_cases e : i = x
        · subst e; simp [hu]
        · rw [getD_set_ne true e] at hx; exact hx
      · have : i < listed.size := by omega
        simp [this]
    omega
  have hallEnd : ∀ (listed : Array Bool) (a : Act) (w : World), Ph2 l ts late b a listed ts.length → wpList P (l ++ ts).toArray (OnlyN fun a w => Q .normal a w) (ts.drop ts.length) b w → Region.ready .any (l ++ ts).toArray listed = [] ∧ Q .normal a w := by
    intro listed a w hP hw
    have hall : ∀ j, j < l.length + ts.length → listed.getD j false = true := by
      intro j hj
      by_cases h1 : j < l.length
      · exact hP.la j h1 (.inr rfl)
      · have := hP.ldone (j - l.length) (by omega)
        rwa [show l.length + (j - l.length) = j by omega] at this
    refine ⟨?_, ?_⟩
    · rw [List.eq_nil_iff_forall_not_mem]
      intro j hj
      obtain ⟨hu, o, ho, _⟩ := mem_ready.1 hj
      have hjl : j < l.length + ts.length := by
        rcases Nat.lt_or_ge j (l.length + ts.length) with h1 | h1
        · exact h1
        · rw [List.getElem?_toArray, List.getElem?_eq_none (by simpa using h1)] at ho; cases ho
      exact absurd (hall j hjl) (by rw [getD_ff hu]; simp)
    · have he : a = b := act_ext hP.defers hP.tmps fun s => hP.agree s fun j hj hn => by
        rw [hall j (by omega)] at hn; cases hn
      subst he
      rw [List.drop_length] at hw
      exact hw.2
  intro fuel
  induction fuel with
  | zero =>
    intro listed a w k hP hn hw
    obtain ⟨n, hn0, hn⟩ := hn
    have hk : k = ts.length := by
      refine Classical.byContradiction fun hne => ?_
      have hlt : k < ts.length := by have := hP.kle; omega
      have : 0 < (List.range (l.length + ts.length)).countP (fun j => !listed.getD j true) := List.countP_pos_iff.2 ⟨l.length + k, List.mem_range.2 (by omega), by simp [hP.lopen k (Nat.le_refl _) hlt]⟩
      omega
    subst hk
    exact hallEnd listed a w hP hw
  | succ fuel ih =>
    intro listed a w k hP hn hw
    obtain ⟨n, hn0, hn⟩ := hn
    by_cases hk : k = ts.length
    · subst hk
      obtain ⟨h1, h2⟩ := hallEnd listed a w hP hw
      exact ⟨fun _ => h2, fun i hi => by rw [h1] at hi; cases hi⟩
    have hkl : k < ts.length := by have := hP.kle; omega
    have hok : ts[k]? = some ts[k] := List.getElem?_eq_getElem hkl
    refine ⟨fun hr => ?_, fun i hi => ?_⟩
    · exfalso
      have hall : ∀ j, j < l.length → listed.getD j false = true := by
        intro j
        induction j using Nat.strongRecOn with
        | _ j ihj =>
          intro hj
          cases hb : listed.getD j false with
          | true => rfl
          | false =>
            exfalso
            have hj' : l[j]? = some l[j] := List.getElem?_eq_getElem hj
            have hc := chainTB_at hB hj'
            have hm : j ∈ Region.ready .any (l ++ ts).toArray listed := by
              rw [mem_ready]
              refine ⟨(hff (by rw [hP.size]; omega)).2 hb, l[j], by rw [hgl j hj, hj'], fun e he hbi => ihj e.on (hc.2.2.1 e he hbi) (Nat.lt_trans (hc.2.2.1 e he hbi) hj)⟩
            rw [hr] at hm
            cases hm
      have hm : l.length + k ∈ Region.ready .any (l ++ ts).toArray listed := by
        rw [mem_ready]
        refine ⟨hP.lopen k (Nat.le_refl _) hkl, ts[k], by rw [hgt k, hok], fun e he hb => ?_⟩
        have hlt := (chainTB_tail hB hok).2.1 e he hb
        by_cases h1 : e.on < l.length
        · exact hall _ h1
        · have := hP.ldone (e.on - l.length) (by omega)
          rwa [show l.length + (e.on - l.length) = e.on by omega] at this
      rw [hr] at hm
      cases hm
    · obtain ⟨hu, o, ho, hedges⟩ := mem_ready.1 hi
      have hisz : i < l.length + ts.length := by
        rcases Nat.lt_or_ge i (l.length + ts.length) with h1 | h1
        · exact h1
        · rw [List.getElem?_toArray, List.getElem?_eq_none (by simpa using h1)] at ho; cases ho
      by_cases hil : i < l.length
      · -- a result's part
        have hol : l[i]? = some o := by rw [← hgl i hil]; exact ho
        have hei : isA late i = false := by
          refine Bool.eq_false_iff.2 fun h => ?_
          have := hP.la i hil (.inl h)
          rw [getD_ff hu] at this
          cases this
        obtain ⟨hg, d, hd, hrun⟩ := hE i o hol hei
        obtain ⟨⟨d', hd', hdm⟩, hdis, hbe, hlook⟩ := chainTB_at hB hol
        rw [hd] at hd'
        injection hd' with hd'
        subst hd'
        have hdi : dstAt l i = some d := by simp [dstAt, hol, hd]
        have hds : d < a.tmps.size := by rw [hP.tmps]; exact hdm
        have hlooks : ∀ s ∈ o.looksAt (l ++ ts).toArray, a.tmps.getD s undef = b.tmps.getD s undef := fun s hs => hP.agree s fun j hj hnl hdj => by
          obtain ⟨-, h2⟩ := (hlook s hs).2 j hj hdj
          have := hP.la j hj (.inl (h2.resolve_left (by rw [hei]; simp)))
          rw [hnl] at this
          cases this
        refine wpOp_noWay ho (K := fun a' w' => a' = a.put o.dst (b.tmps.getD d undef) ∧ w' = w) ?_ ?_
        · rintro a' w' ⟨rfl, rfl⟩
          refine ih _ _ _ k ⟨by simpa using hP.size, hP.kle, fun j hj hor => getD_set_true (hP.la j hj hor), fun q hq => getD_set_true (hP.ldone q hq), fun q h1 h2 => by rw [getD_set_ne true (by omega)]; exact hP.lopen q h1 h2, fun s hs => ?_, by rw [hd]; exact hP.defers, by rw [hd]; simp [Act.put, hP.tmps]⟩ (hdec hP.size hisz hu hn hn0) hw
          rw [hd]
          by_cases e : d = s
          · subst e
            rw [getD_put_same hds]
          · rw [getD_put_ne e]
            refine hP.agree s fun j hj hnl hdj => ?_
            by_cases hji : j = i
            · subst hji
              rw [hdi] at hdj
              injection hdj with hdj
              exact e hdj
            · exact hs j hj (by rw [getD_set_ne false (fun h => hji h.symm)]; exact hnl) hdj
        · have hwn : Region.wanted o (yielded (l ++ ts).toArray a.tmps) = true := by unfold Region.wanted; rw [hg]
          rw [if_pos hwn]
          unfold Oper.wp
          rw [hrun a w hlooks]
          exact ⟨rfl, rfl⟩
      · -- the next of the stores
        obtain ⟨q, rfl⟩ : ∃ q, i = l.length + q := ⟨i - l.length, by omega⟩
        have hql : q < ts.length := by omega
        have hqk : k ≤ q := by
          refine Nat.le_of_not_lt fun h => ?_
          have := hP.ldone q h
          rw [getD_ff hu] at this
          cases this
        rw [hgt q] at ho
        obtain ⟨hg, hbe, hbl, hprev, hst⟩ := chainTB_tail hB ho
        obtain rfl : q = k := by
          refine Classical.byContradiction fun hne => ?_
          obtain ⟨e, he, hb, hon⟩ := hprev (by omega)
          have h1 := hedges e he hb
          have h2 := hP.lopen (q - 1) (by omega) (by omega)
          rw [hon, show l.length + q - 1 = l.length + (q - 1) by omega, getD_ff h2] at h1
          cases h1
        have hwn : ∀ a : Act, Region.wanted o (yielded (l ++ ts).toArray a.tmps) = true := fun a => by unfold Region.wanted; rw [hg]
        rw [drop_cons ho] at hw
        have hwl : o.wp P b w (wpList P (l ++ ts).toArray (OnlyN fun a w => Q .normal a w) (ts.drop (q + 1))) (OnlyN fun a w => Q .normal a w) := by
          unfold wpList at hw
          rw [if_pos (hwn b)] at hw
          rcases hw with hw | ⟨_, a', w', he, _⟩
          · exact hw
          · cases he
        have hgo : (l ++ ts).toArray[l.length + q]? = some o := by rw [hgt q]; exact ho
        by_cases hlast : q + 1 = ts.length
        · -- the last one: all else is there
          have hall : ∀ j, j < l.length → listed.getD j false = true := fun j hj => by
            obtain ⟨e, he, hb, hon⟩ := hbl j hj (.inr hlast)
            rw [← hon]; exact hedges e he hb
          have hab : a = b := act_ext hP.defers hP.tmps fun s => hP.agree s fun j hj hn => by rw [hall j hj] at hn; cases hn
          subst hab
          refine wpOp_noWay hgo (K := wpList P (l ++ ts).toArray (OnlyN fun a w => Q .normal a w) (ts.drop (q + 1))) (fun a' w' hw' => ?_) ?_
          · rw [hlast, List.drop_length] at hw'
            have hempty : Region.ready .any (l ++ ts).toArray (listed.setIfInBounds (l.length + q) true) = [] := by
              rw [List.eq_nil_iff_forall_not_mem]
              intro j hj
              obtain ⟨hu', o', ho', _⟩ := mem_ready.1 hj
              have hjl : j < l.length + ts.length := by
                rcases Nat.lt_or_ge j (l.length + ts.length) with h1 | h1
                · exact h1
                · rw [List.getElem?_toArray, List.getElem?_eq_none (by simpa using h1)] at ho'; cases ho'
              have hu2 := getD_ff hu'
              by_cases h1 : j < l.length
              · rw [getD_set_ne false (by omega), hall j h1] at hu2; cases hu2
              · by_cases h2 : j = l.length + q
                · subst h2
                  have : l.length + q < listed.size := by rw [hP.size]; omega
                  simp [this] at hu'
                · have := hP.ldone (j - l.length) (by omega)
                  rw [show l.length + (j - l.length) = j by omega] at this
                  rw [getD_set_ne false (fun h => h2 h.symm), this] at hu2
                  cases hu2
            cases fuel with
            | zero => exact ⟨hempty, hw'.2⟩
            | succ f => exact ⟨fun _ => hw'.2, fun i hi => by rw [hempty] at hi; cases hi⟩
          · rw [if_pos (hwn a)]
            unfold Oper.wp at hwl ⊢
            generalize (execOp a.eval o).run P w = r at *
            cases r with
            | ok n w' =>
              cases n <;> simp only [Oper.upon] at hwl ⊢ <;>
                first
                  | exact hwl
                  | exact Calls.mono hwl (fun e w'' he => by
                      cases e with
                      | returned v => exact he
                      | panicked c => exact absurd he.1 (by simp)
                      | outgrown => obtain ⟨_, _, h', _⟩ := he; cases h')
                  | exact hwl.elim
            | halt x w' =>
              cases x <;> simp only [Oper.upon] at hwl ⊢ <;>
                first
                  | exact hwl.elim
                  | exact absurd hwl.1 (by simp)
        · obtain ⟨hdn, t, p, v, hop, hdat⟩ := hst hlast
          have hpv : ∀ s, (s = p ∨ s = v) → a.tmps.getD s undef = b.tmps.getD s undef := fun s hs => hP.agree s fun j hj hnl hdj => by
            obtain ⟨e, he, hb, hon⟩ := hdat j hj (by rcases hs with rfl | rfl; exact .inl hdj; exact .inr hdj)
            have := hedges e he hb
            rw [hon, hnl] at this
            cases this
          have hex : execOp a.eval o = execOp b.eval o := by
            unfold execOp
            rw [hop]
            simp only [eval_tmp, hpv p (.inl rfl), hpv v (.inr rfl)]
          refine wpOp_noWay hgo (K := fun a' w' => a' = a ∧ wpList P (l ++ ts).toArray (OnlyN fun a w => Q .normal a w) (ts.drop (q + 1)) b w') ?_ ?_
          · rintro a' w' ⟨rfl, hw'⟩
            refine ih _ _ _ (q + 1) ⟨by simpa using hP.size, by omega, fun j hj hor => ?_, fun r hr => ?_, fun r h1 h2 => ?_, fun s hs => hP.agree s fun j hj hnl => hs j hj (by rw [getD_set_ne false (by omega)]; exact hnl), hP.defers, hP.tmps⟩ (hdec hP.size hisz hu hn hn0) hw'
            · rcases hor with h | h
              · exact getD_set_true (hP.la j hj (.inl h))
              · exact absurd h hlast
            · by_cases e : r = q
              · subst e
                have : l.length + r < listed.size := by rw [hP.size]; omega
                simp [this]
              · exact getD_set_true (hP.ldone r (by omega))
            · rw [getD_set_ne true (by omega)]; exact hP.lopen r (by omega) h2
          · rw [if_pos (hwn a)]
            unfold Oper.wp at hwl ⊢
            rw [hex]
            have hsk : ∀ n w', (execOp b.eval o).run P w = .ok n w' → n = .skip := by
              intro n w' h
              unfold execOp at h
              rw [hop] at h
              simp only [Sem.run_bind, Sem.run_pure] at h
              cases hr : (Instr.storeAt t (b.eval (.tmp p)) (b.eval (.tmp v))).run P w with
              | ok x w2 => rw [hr] at h; simp at h; exact h.1.symm
              | halt x w2 => rw [hr] at h; simp at h
            generalize hrr : (execOp b.eval o).run P w = r at *
            cases r with
            | ok n w' =>
              obtain rfl := hsk n w' rfl
              simp only [Oper.upon, hdn] at hwl ⊢
              exact ⟨rfl, hwl⟩
            | halt x w' =>
              cases x <;> simp only [Oper.upon] at hwl ⊢ <;>
                first
                  | exact hwl.elim
                  | exact absurd hwl.1 (by simp)
/-- is the result of slot s still to come? -/
def Pend (l : List Oper) (listed : Array Bool) (s : Nat) : Prop := ∃ j, j < l.length ∧ listed.getD j false = false ∧ dstAt l j = some s
/-- the frame with the results that are not there yet -/
noncomputable def fillB (l : List Oper) (listed : Array Bool) (u : Nat → Value) (a : Act) : Act :=
  { a with tmps := Array.ofFn fun s : Fin a.tmps.size => open Classical in if h : Pend l listed s.1 then u (Classical.choose h) else a.tmps.getD s.1 undef }
theorem fillB_yes {l : List Oper} {listed : Array Bool} {u : Nat → Value} {a : Act} {j d : Nat} (hj : j < l.length) (hn : listed.getD j false = false) (hd : dstAt l j = some d) (hs : d < a.tmps.size) (hu : ∀ j', j' < l.length → dstAt l j' = some d → j' = j) : (fillB l listed u a).tmps.getD d undef = u j := by
  have h : Pend l listed d := ⟨j, hj, hn, hd⟩
  have hc := Classical.choose_spec h
  have he : Classical.choose h = j := hu _ hc.1 hc.2.2
  unfold fillB
  rw [Array.getD_eq_getD_getElem?, Array.getElem?_ofFn, dif_pos hs, Option.getD_some]
  refine (dif_pos h).trans ?_
  rw [he]
theorem fillB_no {l : List Oper} {listed : Array Bool} {u : Nat → Value} {a : Act} {s : Nat} (h : ∀ j, j < l.length → listed.getD j false = false → dstAt l j ≠ some s) : (fillB l listed u a).tmps.getD s undef = a.tmps.getD s undef := by
  have hn : ¬ Pend l listed s := fun ⟨j, h1, h2, h3⟩ => h j h1 h2 h3
  by_cases hs : s < a.tmps.size
  · simp [fillB, hs, hn]
  · simp [fillB, hs]

theorem inv1_any {P : Program} {l ts : List Oper} {late : List Nat} {Ts Us : List Fact} {a0 : Act} {w0 : World} {Q : Exit → Act → World → Prop} (hts : 0 < ts.length) (hB : chainTB a0.tmps.size late l ts = true)
    (hF : FactsT P (l ++ ts).toArray l late a0 w0 Ts Us l.length)
    (hend : ChainT P (l ++ ts).toArray late a0 w0 (fun a w => wpList P (l ++ ts).toArray (OnlyN fun a w => Q .normal a w) ts a w) [] l.length (factsTo l Ts l.length) (factsTo l Us l.length)) :
    ∀ (fuel : Nat) (listed : Array Bool) (a : Act) (w : World), listed.size = l.length + ts.length → (∀ q, q < ts.length → listed.getD (l.length + q) true = false) → (∃ n, n ≤ fuel ∧ n = (List.range (l.length + ts.length)).countP (fun j => !listed.getD j true)) → Inv l Ts a0 w0 listed a w → wpAny P .any (l ++ ts).toArray Q fuel listed a w := by
  have hgl : ∀ j, j < l.length → (l ++ ts).toArray[j]? = l[j]? := fun j hj => by rw [List.getElem?_toArray, List.getElem?_append_left hj]
  have hgt : ∀ q, (l ++ ts).toArray[l.length + q]? = ts[q]? := fun q => by
    rw [List.getElem?_toArray, List.getElem?_append_right (by omega)]; congr 1; omega
  have hl1 := hF.len
  have hl2 := hF.len2
  have hpure : ∀ j o, l[j]? = some o → isA late j = false → o.guard = none ∧ ∃ u, Ts[j]? = some (Is u) ∧ ∀ a w, (∀ s ∈ o.looksAt (l ++ ts).toArray, Knows (factsTo l Us j) a0 a w s) → (execOp a.eval o).run P w = .ok (.value u) w := by
    intro j o ho hj
    have hjl : j < l.length := (List.getElem?_eq_some_iff.1 ho).1
    have hT : Ts[j]? = some (Ts[j]'(by omega)) := List.getElem?_eq_getElem (by omega)
    have h := hF.step j o _ ho hT
    rw [if_neg (by rw [hj]; simp)] at h
    obtain ⟨hg, u, hu, hr⟩ := h
    exact ⟨hg, u, by rw [hT, hu], hr⟩
  intro fuel
  induction fuel with
  | zero =>
    intro listed a w hsz hop hn hI
    exfalso
    obtain ⟨n, hn0, hn⟩ := hn
    have : 0 < (List.range (l.length + ts.length)).countP (fun j => !listed.getD j true) := List.countP_pos_iff.2 ⟨l.length + 0, List.mem_range.2 (by omega), by simp only [hop 0 hts]; rfl⟩
    omega
  | succ fuel ih =>
    intro listed a w hsz hop hn hI
    have hff : ∀ {j : Nat}, j < listed.size → (listed.getD j true = false ↔ listed.getD j false = false) := by
      intro j hj
      simp [hj]
    refine ⟨fun hr => ?_, fun i hi => ?_⟩
    · exfalso
      have hall : ∀ j, j < l.length → listed.getD j false = true := by
        intro j
        induction j using Nat.strongRecOn with
        | _ j ihj =>
          intro hj
          cases hb : listed.getD j false with
          | true => rfl
          | false =>
            exfalso
            have hj' : l[j]? = some l[j] := List.getElem?_eq_getElem hj
            have hc := chainTB_at hB hj'
            have hm : j ∈ Region.ready .any (l ++ ts).toArray listed := by
              rw [mem_ready]
              exact ⟨(hff (by rw [hsz]; omega)).2 hb, l[j], by rw [hgl j hj, hj'], fun e he hbi => ihj e.on (hc.2.2.1 e he hbi) (Nat.lt_trans (hc.2.2.1 e he hbi) hj)⟩
            rw [hr] at hm
            cases hm
      have hok : ts[0]? = some ts[0] := List.getElem?_eq_getElem hts
      have hm : l.length + 0 ∈ Region.ready .any (l ++ ts).toArray listed := by
        rw [mem_ready]
        exact ⟨hop 0 hts, ts[0], by rw [hgt 0, hok], fun e he hb => hall _ (by have := (chainTB_tail hB hok).2.1 e he hb; omega)⟩
      rw [hr] at hm
      cases hm
    · obtain ⟨hu, o, ho, hedges⟩ := mem_ready.1 hi
      have hisz : i < l.length + ts.length := by
        rcases Nat.lt_or_ge i (l.length + ts.length) with h1 | h1
        · exact h1
        · rw [List.getElem?_toArray, List.getElem?_eq_none (by simpa using h1)] at ho; cases ho
      by_cases hil : i < l.length
      · have hol : l[i]? = some o := by rw [← hgl i hil]; exact ho
        obtain ⟨⟨d, hd, hdm⟩, hdis, hbe, hlook⟩ := chainTB_at hB hol
        have hdi : dstAt l i = some d := by simp [dstAt, hol, hd]
        have hTi : Ts[i]? = some (Ts[i]'(by omega)) := List.getElem?_eq_getElem (by omega)
        have hK : ∀ (F : List Fact), F.length = l.length → (∀ (j : Nat) (d : Tmp) (V : Fact), listed.getD j false = true → dstAt l j = some d → F[j]? = some V → V (a.tmps.getD d undef) w) → ∀ s ∈ o.looksAt (l ++ ts).toArray, Knows (factsTo l F i) a0 a w s := by
          intro F hlF hdone s hs
          unfold Knows
          cases hl : look (factsTo l F i) s with
          | some V =>
            obtain ⟨j, hj, hdj, hVj⟩ := mem_factsTo (look_some hl)
            obtain ⟨⟨e, he, hb, rfl⟩, -⟩ := (hlook s hs).2 j (by omega) hdj
            exact hdone _ s V (hedges e he hb) hdj hVj
          | none =>
            refine hI.rest s fun j hj hdj => ?_
            have hjl := dst_lt hdj
            obtain ⟨⟨e, he, hb, rfl⟩, -⟩ := (hlook s hs).2 j hjl hdj
            have hlt := hbe e he hb
            have hV : F[e.on]? = some (F[e.on]'(by omega)) := List.getElem?_eq_getElem (by omega)
            obtain ⟨V, hV'⟩ := look_mem ⟨_, factsTo_mem (i := i) hlt hdj hV, rfl⟩
            rw [hV'] at hl
            cases hl
        have hS : if Region.wanted o (yielded (l ++ ts).toArray a.tmps) then o.wp P a w (After (Ts[i]'(by omega)) a o.dst w) NoWay else (Ts[i]'(by omega)) undef w := by
          by_cases he : isA late i = true
          · have h := hF.step i o _ hol hTi
            rw [if_pos he] at h
            exact h a w hI.below (hK Ts hl1 fun j d V h1 h2 h3 => hI.done j d V h1 h2 h3)
          · obtain ⟨hg, u, hTu, hrun⟩ := hpure i o hol (Bool.eq_false_iff.2 he)
            rw [hTi] at hTu
            injection hTu with hTu
            have hwn : Region.wanted o (yielded (l ++ ts).toArray a.tmps) = true := by unfold Region.wanted; rw [hg]
            rw [if_pos hwn]
            have hr := hrun a w (hK Us hl2 fun j d V h1 h2 h3 => by
              have hjl := dst_lt h2
              have hT : Ts[j]? = some (Ts[j]'(by omega)) := List.getElem?_eq_getElem (by omega)
              exact hF.weak j _ V hT h3 _ _ (hI.done j d _ h1 h2 hT))
            unfold Oper.wp
            rw [hr]
            exact ⟨u, rfl, by rw [hTu]; rfl, Below.refl _ _⟩
        refine wpOp_noWay ho (K := After (Ts[i]'(by omega)) a o.dst w) ?_ ?_
        · rintro a' w' ⟨v, rfl, hT, hbel⟩
          have hds : d < a.tmps.size := by rw [hI.size]; exact hdm
          refine ih _ _ _ (by simpa using hsz) (fun q hq => by rw [getD_set_ne true (by omega)]; exact hop q hq) ?_ ⟨hI.below.trans (hbel.mono hI.below.size), ?_, ?_, ?_, ?_⟩
          · obtain ⟨n, hn0, hn⟩ := hn
            refine ⟨_, ?_, rfl⟩
            have hlt : (List.range (l.length + ts.length)).countP (fun j => !(listed.setIfInBounds i true).getD j true) < (List.range (l.length + ts.length)).countP (fun j => !listed.getD j true) := by
              refine countP_lt (i := i) (fun x _ hx => ?_) (List.mem_range.2 hisz) (by simp [hu]) ?_
              · by_cases e : i = x
                · subst e; simp [hu]
                · rw [getD_set_ne true e] at hx; exact hx
              · have : i < listed.size := by omega
                simp [this]
            omega
          · rw [hd]; exact hI.defers
          · rw [hd]; simp [Act.put, hI.size]
          · intro j d' T hj hdj hTj
            rw [hd]
            rcases getD_set_cases hj with rfl | hj2
            · rw [hdi] at hdj
              injection hdj with hdj
              subst hdj
              rw [hTi] at hTj
              injection hTj with hTj
              subst hTj
              rw [getD_put_same hds]
              exact hT
            · have hne : d ≠ d' := by
                rintro rfl
                have hji : j ≠ i := by
                  rintro rfl
                  rw [getD_ff hu] at hj2
                  cases hj2
                exact hdis j (dst_lt hdj) hji (by rw [hdj, hd])
              rw [getD_put_ne hne]
              exact hF.st j T hTj _ _ _ (hI.done j d' T hj2 hdj hTj) hbel
          · intro s hs
            have hne : d ≠ s := by
              rintro rfl
              refine hs i ?_ hdi
              have : i < listed.size := by omega
              simp [this]
            rw [hd, getD_put_ne hne]
            refine hI.rest s fun j hj hdj => hs j (getD_set_true hj) hdj
        · by_cases hw : Region.wanted o (yielded (l ++ ts).toArray a.tmps) = true
          · rw [if_pos hw] at hS ⊢
            exact hS
          · rw [if_neg hw] at hS ⊢
            exact ⟨undef, rfl, hS, Below.refl _ _⟩
      · -- the first store: the other results are put in, and the second half begins
        obtain ⟨q, rfl⟩ : ∃ q, i = l.length + q := ⟨i - l.length, by omega⟩
        have hql : q < ts.length := by omega
        rw [hgt q] at ho
        obtain ⟨hg, hbe, hbl, hprev, hst⟩ := chainTB_tail hB ho
        obtain rfl : q = 0 := by
          refine Classical.byContradiction fun hne => ?_
          obtain ⟨e, he, hb, hon⟩ := hprev (by omega)
          have h1 := hedges e he hb
          have h2 := hop (q - 1) (by omega)
          rw [hon, show l.length + q - 1 = l.length + (q - 1) by omega, getD_ff h2] at h1
          cases h1
        have hA : ∀ j, j < l.length → isA late j = true → listed.getD j false = true := fun j hj hje => by
          obtain ⟨e, he, hb, hon⟩ := hbl j hj (.inl hje)
          rw [← hon]; exact hedges e he hb
        have hdu : ∀ j j' d, j < l.length → j' < l.length → dstAt l j = some d → dstAt l j' = some d → j' = j := fun j j' d hj hj' h h' => by
          refine Classical.byContradiction fun hne => ?_
          have hj2 : l[j]? = some l[j] := List.getElem?_eq_getElem hj
          have hd2 : l[j].dst = some d := by simpa [dstAt, hj2] using h
          exact (chainTB_at hB hj2).2.1 j' hj' hne (by rw [h', hd2])
        obtain ⟨u, hu2⟩ : ∃ u : Nat → Value, ∀ j, j < l.length → isA late j = false → Ts[j]? = some (Is (u j)) := by
          have hex : ∀ j, ∃ u, j < l.length → isA late j = false → Ts[j]? = some (Is u) := fun j => by
            by_cases h : j < l.length ∧ isA late j = false
            · obtain ⟨-, u, hu, -⟩ := hpure j _ (List.getElem?_eq_getElem h.1) h.2
              exact ⟨u, fun _ _ => hu⟩
            · exact ⟨undef, fun h1 h2 => absurd ⟨h1, h2⟩ h⟩
          exact ⟨fun j => Classical.choose (hex j), fun j h1 h2 => Classical.choose_spec (hex j) h1 h2⟩
        have hbs : (fillB l listed u a).tmps.size = a.tmps.size := by simp [fillB]
        have hbd : ∀ j d, j < l.length → isA late j = false → dstAt l j = some d → (fillB l listed u a).tmps.getD d undef = u j := fun j d hj he hd => by
          have hj2 : l[j]? = some l[j] := List.getElem?_eq_getElem hj
          obtain ⟨⟨d', hd', hdm⟩, -⟩ := chainTB_at hB hj2
          have hdd : d' = d := by
            have : dstAt l j = some d' := by simp [dstAt, hj2, hd']
            rw [hd] at this
            injection this with this
            exact this.symm
          subst hdd
          cases hn : listed.getD j false with
          | false => exact fillB_yes hj hn hd (by rw [hI.size]; exact hdm) (fun j' hj' h' => hdu j j' _ hj hj' hd h')
          | true =>
            rw [fillB_no (fun j' hj' hn' h' => by
              obtain rfl := hdu j j' _ hj hj' hd h'
              rw [hn] at hn'; cases hn')]
            exact hI.done j _ _ hn hd (hu2 j hj he)
        have hba : ∀ s, (∀ j, j < l.length → dstAt l j = some s → isA late j = true) → (fillB l listed u a).tmps.getD s undef = a.tmps.getD s undef := fun s hs => fillB_no fun j hj hn hd => by
          rw [hA j hj (hs j hj hd)] at hn; cases hn
        have hph : Ph2 l ts late (fillB l listed u a) a listed 0 := ⟨hsz, Nat.zero_le _, fun j hj hor => by
          rcases hor with h | h
          · exact hA j hj h
          · omega, fun q hq => by omega, fun q _ hq => hop q hq, fun s hs => (fillB_no hs).symm, rfl, hbs.symm⟩
        have hwl := hend (fillB l listed u a) w hI.below hI.defers (by rw [hbs]; exact hI.size) fun s hs => by
          unfold Knows
          cases hl : look (factsTo l Ts l.length) s with
          | some T =>
            obtain ⟨j, hj, hd, hT⟩ := mem_factsTo (look_some hl)
            by_cases he : isA late j = false
            · rw [hbd j s hj he hd]
              rw [hu2 j hj he] at hT
              injection hT with hT
              subst hT
              rfl
            · have he' : isA late j = true := by simpa using he
              rw [hba s (fun j' hj' hd' => by obtain rfl := hdu j j' _ hj hj' hd hd'; exact he')]
              exact hI.done j s T (hA j hj he') hd hT
          | none =>
            have hnd : ∀ j, j < l.length → dstAt l j ≠ some s := fun j hj hd => by
              have hT : Ts[j]? = some (Ts[j]'(by omega)) := List.getElem?_eq_getElem (by omega)
              obtain ⟨T, hT'⟩ := look_mem ⟨_, factsTo_mem (i := l.length) hj hd hT, rfl⟩
              rw [hT'] at hl
              cases hl
            rw [fillB_no (fun j hj _ => hnd j hj)]
            exact hI.rest s fun j _ hd => hnd j (dst_lt hd) hd
        refine (ph2_any (by rw [hbs, hI.size]; exact hB) ?_ (fuel + 1) listed a w 0 hph hn (by simpa using hwl)).2 _ hi
        intro j o ho hj
        have hjl : j < l.length := (List.getElem?_eq_some_iff.1 ho).1
        obtain ⟨hg, u', hTu, hrun⟩ := hpure j o ho hj
        obtain ⟨⟨d, hd, hdm⟩, hdis, hbe, hlook⟩ := chainTB_at hB ho
        have hdj : dstAt l j = some d := by simp [dstAt, ho, hd]
        refine ⟨hg, d, hd, fun a' w' hag => ?_⟩
        have huu : u' = u j := by
          have h2 := hu2 j hjl hj
          rw [hTu] at h2
          injection h2 with h2
          have h3 : Is u' u' w := rfl
          rw [h2] at h3
          exact h3
        rw [hbd j d hjl hj hdj, ← huu]
        refine hrun a' w' fun s hs => ?_
        have hsA : ∀ j', j' < l.length → dstAt l j' = some s → isA late j' = true := fun j' hj' hd' => by
          obtain ⟨-, h2⟩ := (hlook s hs).2 j' hj' hd'
          exact h2.resolve_left (by rw [hj]; simp)
        have hsv : a'.tmps.getD s undef = a.tmps.getD s undef := by rw [hag s hs, hba s hsA]
        unfold Knows
        rw [hsv]
        cases hl : look (factsTo l Us j) s with
        | some V =>
          obtain ⟨j', hj', hd', hV⟩ := mem_factsTo (look_some hl)
          have hT : Ts[j']? = some (Ts[j']'(by omega)) := List.getElem?_eq_getElem (by omega)
          exact hF.fr j' V hV _ w w' (hF.weak j' _ V hT hV _ _ (hI.done j' s _ (hA j' (by omega) (hsA j' (by omega) hd')) hd' hT))
        | none =>
          refine hI.rest s fun j' hj' hd' => ?_
          have hjl' := dst_lt hd'
          obtain ⟨⟨e, he, hb, rfl⟩, -⟩ := (hlook s hs).2 j' hjl' hd'
          have hlt := hbe e he hb
          have hV : Us[e.on]? = some (Us[e.on]'(by omega)) := List.getElem?_eq_getElem (by omega)
          obtain ⟨V, hV'⟩ := look_mem ⟨_, factsTo_mem (i := j) hlt hd' hV, rfl⟩
          rw [hV'] at hl
          cases hl

/-- the rule -/
theorem wp_region_t {P : Program} {id : Nat} {ops : Array Oper} (l ts : List Oper) (late : List Nat) {Q : Exit → Act → World → Prop} {a : Act} {w : World} (hops : ops = (l ++ ts).toArray) (hts : 0 < ts.length) (hm : P.follows .mixedOrders = true) (hB : chainTB a.tmps.size late l ts = true)
    (h : ChainT P (l ++ ts).toArray late a w.drew (fun a w => wpList P (l ++ ts).toArray (OnlyN fun a w => Q .normal a w) ts a w) l 0 [] []) : (Code.region id ops true).wp P Q a w := by
  subst hops
  obtain ⟨Ts, Us, hF, hend⟩ := chainT_facts (l := l) l 0 [] [] rfl (Nat.zero_le _) h ⟨rfl, rfl, fun j T hT => by simp at hT, fun j T hT => by simp at hT, fun j T U hT => by simp at hT, fun j o T _ hT => by simp at hT⟩
  refine wp_region_any hm ?_
  have hff : ∀ j b, j < l.length + ts.length → (Array.replicate (l ++ ts).toArray.size false).getD j b = false := by
    intro j b hlt
    simp [hlt]
  refine inv1_any hts hB hF hend _ _ _ _ (by simp) (fun q hq => hff _ _ (by omega)) ⟨_, ?_, rfl⟩ ⟨Below.refl _ _, rfl, rfl, ?_, fun s _ => rfl⟩
  · refine Nat.le_trans List.countP_le_length ?_
    simp
  · intro j d T hj
    exfalso
    have h0 : (Array.replicate (l ++ ts).toArray.size false).getD j false = false := by
      simp only [Array.getD_eq_getD_getElem?, Array.getElem?_replicate]
      split <;> rfl
    rw [h0] at hj
    cases hj

/-! ## The steps -/
section
variable {P : Program} {ops : Array Oper} {late : List Nat} {a0 : Act} {w0 : World} {E : Act → World → Prop} {o : Oper} {r : List Oper} {i : Nat} {F G : List (Tmp × Fact)} {d : Tmp}

/-- an operation that leaves a known value -/
theorem t_val {u : Value} (L : List Tmp) (hi : isA late i = true) (hd : o.dst = some d) (hL : (L.all fun s => (o.looksAt ops).contains s) = true) (hg : GuardOK ops F a0 o)
    (h : ∀ ρ w, Below w0.heap.size w0 w → Plain ρ → AllK F a0 w ρ L → (execOp ρ o).run P w = .ok (.value u) w) (hr : ChainT P ops late a0 w0 E r (i + 1) ((d, Is u) :: F) ((d, Is u) :: G)) : ChainT P ops late a0 w0 E (o :: r) i F G := by
  refine ⟨d, Is u, Is u, hd, stable_is u, free_is u, fun _ _ h => h, ?_, hr⟩
  rw [if_pos (hi)]
  intro a w hb hk
  rw [if_pos (wanted_of hg hk)]
  unfold Oper.wp
  rw [h a.eval w hb (plain_eval a) (allK_of hk hL)]
  exact ⟨u, rfl, rfl, Below.refl _ _⟩
/-- a call -/
theorem t_call {T : Fact} (U : Fact) (f : FuncId) (L : List Tmp) (hi : isA late i = true) (hd : o.dst = some d) (hL : (L.all fun s => (o.looksAt ops).contains s) = true) (hg : GuardOK ops F a0 o) (hs : stable T) (hf : free U) (hTU : ∀ v w, T v w → U v w)
    (h : ∀ ρ w, Below w0.heap.size w0 w → Plain ρ → AllK F a0 w ρ L → ∃ args, (execOp ρ o).run P w = .ok (.enter f args) w ∧ Calls P f args w fun e w' => ∃ v, e = .returned v ∧ T v w' ∧ Below w.heap.size w w') (hr : ChainT P ops late a0 w0 E r (i + 1) ((d, T) :: F) ((d, U) :: G)) : ChainT P ops late a0 w0 E (o :: r) i F G := by
  refine ⟨d, T, U, hd, hs, hf, hTU, ?_, hr⟩
  rw [if_pos (hi)]
  intro a w hb hk
  rw [if_pos (wanted_of hg hk)]
  obtain ⟨args, h1, h2⟩ := h a.eval w hb (plain_eval a) (allK_of hk hL)
  unfold Oper.wp
  rw [h1]
  refine h2.mono fun e w' ⟨v, he, hT, hbel⟩ => ?_
  subst he
  exact ⟨v, rfl, hT, hbel⟩
/-- a part of a result, which neither reads memory nor writes it -/
theorem t_pure {u : Value} (L : List Tmp) (hi : isA late i = false) (hd : o.dst = some d) (hL : (L.all fun s => (o.looksAt ops).contains s) = true) (hg : o.guard = none)
    (h : ∀ ρ w, Plain ρ → AllK G a0 w ρ L → (execOp ρ o).run P w = .ok (.value u) w) (hr : ChainT P ops late a0 w0 E r (i + 1) ((d, Is u) :: F) ((d, Is u) :: G)) : ChainT P ops late a0 w0 E (o :: r) i F G := by
  refine ⟨d, Is u, Is u, hd, stable_is u, free_is u, fun _ _ h => h, ?_, hr⟩
  rw [if_neg (by rw [hi]; exact Bool.false_ne_true)]
  exact ⟨hg, u, rfl, fun a w hk => h a.eval w (plain_eval a) (allK_of hk hL)⟩
/-- the end: the frame slot by slot -/
theorem t_end_lit (n : Nat) (hn : a0.tmps.size = n)
    (h : ∀ (f : Tmp → Value) (w : World), Below w0.heap.size w0 w → AllN (fun s => KnowsV F a0 w s (f s)) n 0 → E { tmps := (frameL f n 0).toArray, defers := a0.defers } w) : ChainT P ops late a0 w0 E [] i F G := by
  intro a w hb hd hs hk
  have e : a = { tmps := (frameL (fun s => a.tmps.getD s undef) n 0).toArray, defers := a0.defers } := by
    obtain ⟨tm, df⟩ := a
    simp only at hd hs
    subst hd
    congr 1
    apply Array.ext'
    apply List.ext_getElem?
    intro j
    by_cases hj : j < n
    · rw [show ((frameL (fun s => tm.getD s undef) n 0).toArray.toList) = frameL (fun s => tm.getD s undef) n 0 from rfl, frameL_get _ _ _ _ hj]
      have : j < tm.size := by omega
      simp [this]
    · rw [show ((frameL (fun s => tm.getD s undef) n 0).toArray.toList) = frameL (fun s => tm.getD s undef) n 0 from rfl]
      rw [List.getElem?_eq_none (by simp; omega), List.getElem?_eq_none (by rw [frameL_length]; omega)]
  rw [e]
  exact h _ w hb (allN_of n 0 fun j _ hj => hk j (by rw [hn]; omega))
end
theorem wp_region_t15_2 {P : Program} {id : Nat} {o0 o1 o2 o3 o4 o5 o6 o7 o8 o9 o10 o11 o12 o13 o14 t0 t1 : Oper} (late : List Nat) {Q : Exit → Act → World → Prop} {a : Act} {w : World} (hm : P.follows .mixedOrders = true) (hB : chainTB a.tmps.size late [o0, o1, o2, o3, o4, o5, o6, o7, o8, o9, o10, o11, o12, o13, o14] [t0, t1] = true)
    (h : ChainT P #[o0, o1, o2, o3, o4, o5, o6, o7, o8, o9, o10, o11, o12, o13, o14, t0, t1] late a w.drew (fun a w => wpList P #[o0, o1, o2, o3, o4, o5, o6, o7, o8, o9, o10, o11, o12, o13, o14, t0, t1] (OnlyN fun a w => Q .normal a w) [t0, t1] a w) [o0, o1, o2, o3, o4, o5, o6, o7, o8, o9, o10, o11, o12, o13, o14] 0 [] []) : (Code.region id #[o0, o1, o2, o3, o4, o5, o6, o7, o8, o9, o10, o11, o12, o13, o14, t0, t1] true).wp P Q a w :=
  wp_region_t [o0, o1, o2, o3, o4, o5, o6, o7, o8, o9, o10, o11, o12, o13, o14] [t0, t1] late rfl (by simp) hm hB h
theorem wp_region_t13_2 {P : Program} {id : Nat} {o0 o1 o2 o3 o4 o5 o6 o7 o8 o9 o10 o11 o12 t0 t1 : Oper} (late : List Nat) {Q : Exit → Act → World → Prop} {a : Act} {w : World} (hm : P.follows .mixedOrders = true) (hB : chainTB a.tmps.size late [o0, o1, o2, o3, o4, o5, o6, o7, o8, o9, o10, o11, o12] [t0, t1] = true)
    (h : ChainT P #[o0, o1, o2, o3, o4, o5, o6, o7, o8, o9, o10, o11, o12, t0, t1] late a w.drew (fun a w => wpList P #[o0, o1, o2, o3, o4, o5, o6, o7, o8, o9, o10, o11, o12, t0, t1] (OnlyN fun a w => Q .normal a w) [t0, t1] a w) [o0, o1, o2, o3, o4, o5, o6, o7, o8, o9, o10, o11, o12] 0 [] []) : (Code.region id #[o0, o1, o2, o3, o4, o5, o6, o7, o8, o9, o10, o11, o12, t0, t1] true).wp P Q a w :=
  wp_region_t [o0, o1, o2, o3, o4, o5, o6, o7, o8, o9, o10, o11, o12] [t0, t1] late rfl (by simp) hm hB h
end Go.Proofs.YtnmanhediiooaaaDoor

/- What the reference's Valid does to nodes. -/
namespace Go.Proofs.YtnmanhediiooaaaDoor
open Go.ChangeShapes Go.WideShapes Go.ChangeAt Go.RowKit
set_option linter.unusedVariables false
set_option linter.unusedSimpArgs false
set_option maxRecDepth 100000
attribute [local simp] AllK KnowsV look Is
def GotB (base : Nat) (l : List Int) : Fact := fun v w => Got w base 5 .u8 v l
theorem stable_gotb (base : Nat) (l : List Int) : stable (GotB base l) := fun v w w' h hb => Got.below h hb (Nat.le_refl _)
theorem bytesI_bd (e c : Int) (h0 : 0 ≤ c) (h1 : c ≤ 536870911) : 0 ≤ bytesI e c ∧ bytesI e c ≤ 4294967296 := by
  have h := bitsI_mul e c h0
  unfold bytesI
  omega
theorem allN_at10 {P : Nat → Prop} : ∀ {n s : Nat}, AllN P n s → ∀ j, s ≤ j → j < s + n → P j
  | 0, _, _, _, _, h => by omega
  | n + 1, s, h, j, h1, h2 => by
    by_cases e : s = j
    · subst e; exact h.1
    · exact allN_at10 h.2 j (by omega) (by omega)
attribute [local irreducible] headB trimL bytesI

set_option maxHeartbeats 4000000 in
set_option maxRecDepth 100000 in
theorem RefValid_node : ∀ (x : Nd) (A : Option Addr) (c : Nat) (B : Option Addr) (c2 : Nat) (w : World), NdR w A c B c2 x → sizeN x ≤ 1099511627776 →
    Calls Tryd.prog 12 #[.agg #[.int .i64 x.k, .int .i64 x.e, .int .i64 x.n, .slice A x.d.length c, .slice B x.ks.length c2]] w fun r w' => r = .returned (.bool (validN x)) ∧ Below w.heap.size w w' := by
  refine Nd.ind ?_
  intro k e n d ks ih A c B c2 w hx hs
  simp only [Nd.k, Nd.e, Nd.n, Nd.d, Nd.ks]
  have HX := Lib.hid hx
  have HI := Lib.hid ih
  have HO := Lib.hid hx.open
  have hso : sizeN (.mk k e n d ks) = 1 + d.length + sizeK ks := by simp only [sizeN]
  rw [hso] at hs
  have hkl := sizeK_length ks
  have HV : Hid (validN (.mk k e n d ks) = (validK k e ks && headB k e n d ks)) := Lib.hid (by simp only [validN])
  have HDM : Hid (d.length ≤ 140737488355327) := Lib.hid (by omega)
  have HBT := Lib.hid hx.open.2.2.2.2.1
  have HL0 : Hid (((ks.length : Int) == 0) = decide (ks = [])) := Lib.hid (by cases ks <;> simp; omega)
  clear hx ih hso
  generalize validN (.mk k e n d ks) = V at *
  go_enter Tryd.func12, Tryd.ntmps12
  go_wp2
  go_loopw [3] (fun i wr => ∃ j : Nat, j ≤ ks.length ∧ i = .int .i64 j ∧ validK k e (ks.take j) = true ∧ Blk wr w.heap.size #[.int .i64 k, .int .i64 e, .int .i64 n, .slice A d.length c, .slice B ks.length c2] ∧ Below w.heap.size w wr) (fun i _ => ks.length - (intOf i).toNat)
  case atStart => exact ⟨0, by omega, rfl, by simp [validK], Blk.fresh _ _ _, (Below.refl _ _).alloc (Nat.le_refl _) _⟩
  case round =>
    obtain ⟨j, hj, rfl, hvk, hB, hbr⟩ := hrel
    have HB := Lib.hid hB
    have HR := Lib.hid hbr
    have HVK := Lib.hid hvk
    clear hbr hvk
    obtain ⟨x1, y1, z1⟩ := hB
    by_cases hlt : j < ks.length
    · obtain ⟨b, off, Aa, ca, Ba, cb, rfl, k0, k1, k2, k3, k4, hsub⟩ := HX.out.kids.atIn HR.out (Nat.le_refl _) hlt
      have hz := sizeN_kid (List.getElem_mem hlt)
      have HC := Lib.hid (HI.out ks[j] (List.getElem_mem hlt) Aa ca Ba cb wr (hsub.on HR.out (Nat.le_refl _)) (by omega))
      have HT := Lib.hid (validK_take k e ks j hlt)
      have HN := Lib.hid (validK_no k e ks j hlt)
      have hcc : ∀ w', Below wr.heap.size wr w' → w'.cell? ⟨b, off + j * 5, none⟩ = some (.int .i64 ks[j].k) := fun w' hb => (hb.cell (p := ⟨b, off + j * 5, none⟩) (World.block_lt_of_cell? wr ⟨b, off + j * 5, none⟩ k0)).trans k0
      have HCC := Lib.hid hcc
      clear hsub hcc
      generalize ks[j] = kx at *
      go_wp2_with fail
      refine HC.out.mono ?_
      rintro r w2 ⟨rfl, hb2⟩
      have k0' := HCC.out w2 hb2
      have HB2 : Hid (Below w.heap.size w w2) := Lib.hid (bel_on HR.out hb2)
      have B2 := HB.out.below hb2
      have HBB := Lib.hid B2
      clear hb2 x1 y1 z1 k0 k1 k2 k3 k4 HB HR
      obtain ⟨x1, y1, z1⟩ := B2
      cases hvx : validN kx with
      | false =>
        have HRR : Hid (V = false) := Lib.hid (by rw [HV.out, HN.out (by rw [hvx]; rfl)]; rfl)
        clear hvx
        go_wp2
        go_ret
        exact ⟨by rw [HRR.out]; rfl, HB2.out⟩
      | true =>
        by_cases hbad : k = 2 ∧ e = 7 ∧ kx.k ≠ 1
        · have HRR : Hid (V = false) := Lib.hid (by rw [HV.out, HN.out (by rw [hvx]; simp [hbad.1, hbad.2.1, hbad.2.2])]; rfl)
          obtain ⟨rfl, rfl, hk1⟩ := hbad
          have t1 : (kx.k != 1) = true := by simpa using hk1
          clear hvx hk1
          go_wp2
          go_ret
          exact ⟨by rw [HRR.out]; rfl, HB2.out⟩
        · have HOK : Hid (validK k e (ks.take (j + 1)) = true) := Lib.hid (by rw [HT.out, HVK.out, hvx]; simp [hbad])
          have hor : (k == 2) = false ∨ ((k == 2) = true ∧ (e == 7) = false) ∨ ((k == 2) = true ∧ (e == 7) = true ∧ (kx.k != 1) = false) := by
            by_cases h1 : k = 2
            · by_cases h2 : e = 7
              · right; right; exact ⟨by simpa using h1, by simpa using h2, by simp; exact Decidable.not_not.1 (fun h => hbad ⟨h1, h2, h⟩)⟩
              · right; left; exact ⟨by simpa using h1, by simpa using h2⟩
            · left; simpa using h1
          clear hbad hvx
          rcases hor with t1 | ⟨t1, t2⟩ | ⟨t1, t2, t3⟩ <;>
          ( go_wp2
            go_roundw
            case rel => exact ⟨j + 1, by omega, by go_num, HOK.out, HBB.out, HB2.out⟩
            case measure => simp [intOf]; omega)
    · obtain rfl : j = ks.length := by omega
      have HV2 : Hid (V = headB k e n d ks) := Lib.hid (by
        have h := HVK.out
        rw [List.take_length] at h
        rw [HV.out, h]
        rfl)
      clear HV HVK
      by_cases h0 : k = 0
      · have HH : Hid (headB k e n d ks = decide (e = 0 ∧ n = 0 ∧ d.length = 0 ∧ ks.length = 0)) := Lib.hid (by unfold headB; rw [if_pos h0])
        subst h0
        go_wp2
        all_goals
          go_ret
          refine ⟨?_, HR.out⟩
          rw [HV2.out, HH.out]
          congr 2
          first | (simp_all; done) | (have hl0 := HL0.out; simp_all; done) | (simp_all; first | omega | (intro hq; omega) | (rw [decide_eq_true (show d.length ≤ 524280 by omega), Bool.true_and, decide_eq_decide]; omega))
      by_cases h1 : k = 1
      · have HH : Hid (headB k e n d ks = decide (e = 0 ∧ n = 0 ∧ d.length % 8 = 0 ∧ d.length ≤ 524280 ∧ ks.length ≤ 65535)) := Lib.hid (by unfold headB; rw [if_neg h0, if_pos h1])
        subst h1
        have hd8 : ((d.length : Int) % 8 = 0) ↔ d.length % 8 = 0 := by omega
        go_wp2
        all_goals
          go_ret
          refine ⟨?_, HR.out⟩
          rw [HV2.out, HH.out]
          congr 2
          first | (simp_all; done) | (have hl0 := HL0.out; simp_all; done) | (simp_all; first | omega | (intro hq; omega) | (rw [decide_eq_true (show d.length ≤ 524280 by omega), Bool.true_and, decide_eq_decide]; omega))
      by_cases h2 : k = 2
      · have HH : Hid (headB k e n d ks = decide (0 ≤ n ∧ n ≤ 536870911 ∧ 0 ≤ e ∧ e ≤ 7 ∧ (6 ≤ e → d.length = 0 ∧ (ks.length : Int) = n) ∧ (e < 6 → ks.length = 0 ∧ (d.length : Int) = bytesI e n ∧ trimL d e n = d))) := Lib.hid (by unfold headB; rw [if_neg h0, if_neg h1, if_pos h2])
        clear h0 h1
        subst h2
        by_cases hr : 0 ≤ n ∧ n ≤ 536870911 ∧ 0 ≤ e ∧ e ≤ 7
        case neg =>
          have HF : Hid (V = false) := Lib.hid (by rw [HV2.out, HH.out, decide_eq_false_iff_not]; intro h; exact hr ⟨h.1, h.2.1, h.2.2.1, h.2.2.2.1⟩)
          have hor : n < 0 ∨ (0 ≤ n ∧ 536870911 < n) ∨ (0 ≤ n ∧ n ≤ 536870911 ∧ e < 0) ∨ (0 ≤ n ∧ n ≤ 536870911 ∧ 0 ≤ e ∧ 7 < e) := by omega
          clear hr
          rcases hor with hr | ⟨hr, hr2⟩ | ⟨hr, hr2, hr3⟩ | ⟨hr, hr2, hr3, hr4⟩ <;>
          ( go_wp2
            go_ret
            exact ⟨by rw [HF.out]; rfl, HR.out⟩)
        obtain ⟨hn0, hn1, he0, he1⟩ := hr
        by_cases he : 6 ≤ e
        · go_wp2
          all_goals
            go_ret
            refine ⟨?_, HR.out⟩
            rw [HV2.out, HH.out]
            congr 2
            first | (simp_all; done) | (have hl0 := HL0.out; simp_all; done) | (simp_all; first | omega | (rw [decide_eq_false (show ¬ e < 6 by omega)]; rw [Bool.eq_iff_iff]; simp))
        have he6 : e < 6 := by omega
        have HD : Hid (Ri w .u8 A d) := Lib.hid HO.out.2.2.2.1
        have HRD0 : Hid (Ri wr .u8 A d) := Lib.hid (HD.out.below HR.out (Nat.le_refl _))
        by_cases hk0 : ks.length = 0
        case neg =>
          have HF : Hid (V = false) := Lib.hid (by rw [HV2.out, HH.out, decide_eq_false_iff_not]; intro h; exact hk0 (h.2.2.2.2.2 he6).1)
          have t1 : ((ks.length : Int) != 0) = true := by simp; intro h; rw [h] at hk0; exact hk0 rfl
          clear hk0
          go_wp2_with fail
          rename_i KK hKK
          refine wp_region_chain (by kernel_rfl) (by kernel_rfl) ?_
          refine chain_val (u := ?_) [1] rfl (by kernel_rfl) trivial (fun ρ wc hbc hcn hk => ?_) ?_; rotate_left
          · obtain ⟨hcn, -⟩ := hcn
            simp at hk
            go_simp
            rfl
          refine chain_val (u := ?_) [125] rfl (by kernel_rfl) trivial (fun ρ wc hbc hcn hk => ?_) ?_; rotate_left
          · obtain ⟨hcn, -⟩ := hcn
            simp at hk
            obtain ⟨hcc, -⟩ := bcell hbc
            simp at hcc
            go_simp
            rfl
          refine chain_val (u := ?_) [126] rfl (by kernel_rfl) trivial (fun ρ wc hbc hcn hk => ?_) ?_; rotate_left
          · obtain ⟨hcn, -⟩ := hcn
            simp at hk
            go_simp
            rfl
          refine chain_val (u := ?_) [127] rfl (by kernel_rfl) trivial (fun ρ wc hbc hcn hk => ?_) ?_; rotate_left
          · obtain ⟨hcn, -⟩ := hcn
            simp at hk
            go_simp
            rfl
          refine chain_val (u := ?_) [128] rfl (by kernel_rfl) trivial (fun ρ wc hbc hcn hk => ?_) ?_; rotate_left
          · obtain ⟨hcn, -⟩ := hcn
            simp at hk
            go_simp
            rfl
          refine chain_skip (s := 129) (c := true) rfl rfl (by decide +kernel) rfl rfl (fun w x hx => by simpa using hx) ?_
          refine chain_skip (s := 129) (c := true) rfl rfl (by decide +kernel) rfl rfl (fun w x hx => by simpa using hx) ?_
          refine chain_skip (s := 129) (c := true) rfl rfl (by decide +kernel) rfl rfl (fun w x hx => by simpa using hx) ?_
          refine chain_skip (s := 129) (c := true) rfl rfl (by decide +kernel) rfl rfl (fun w x hx => by simpa using hx) ?_
          refine chain_skip (s := 129) (c := true) rfl rfl (by decide +kernel) rfl rfl (fun w x hx => by simpa using hx) ?_
          refine chain_skip (s := 129) (c := true) rfl rfl (by decide +kernel) rfl rfl (fun w x hx => by simpa using hx) ?_
          refine chain_skip (s := 129) (c := true) rfl rfl (by decide +kernel) rfl rfl (fun w x hx => by simpa using hx) ?_
          refine chain_skip (s := 129) (c := true) rfl rfl (by decide +kernel) rfl rfl (fun w x hx => by simpa using hx) ?_
          refine chain_skip (s := 129) (c := true) rfl rfl (by decide +kernel) rfl rfl (fun w x hx => by simpa using hx) ?_
          refine chain_val (u := ?_) [129, 138] rfl (by kernel_rfl) trivial (fun ρ wc hbc hcn hk => ?_) ?_; rotate_left
          · obtain ⟨hcn, -⟩ := hcn
            simp at hk
            go_simp
            rfl
          refine chain_end_lit 150 rfl (fun ff w7 hb7 hk => ?_)
          refine hKK _ _ ?_
          clear hKK KK
          simp [AllN] at hk
          simp only [frameL, hk]
          have HB7 : Hid (Below w.heap.size w w7) := Lib.hid (bel_on (bel_drew HR.out) hb7)
          clear hb7 hk
          go_wp2
          go_ret
          exact ⟨by rw [HF.out]; rfl, HB7.out⟩
        have t1 : ((ks.length : Int) != 0) = false := by simp; exact List.eq_nil_of_length_eq_zero hk0
        have hbb := bytesI_bd e n hn0 hn1
        go_wp2_with fail
        rename_i KK hKK
        refine wp_region_chain (by kernel_rfl) (by kernel_rfl) ?_
        refine chain_val (u := ?_) [1] rfl (by kernel_rfl) trivial (fun ρ wc hbc hcn hk => ?_) ?_; rotate_left
        · obtain ⟨hcn, -⟩ := hcn
          simp at hk
          go_simp
          rfl
        refine chain_val (u := ?_) [125] rfl (by kernel_rfl) trivial (fun ρ wc hbc hcn hk => ?_) ?_; rotate_left
        · obtain ⟨hcn, -⟩ := hcn
          simp at hk
          obtain ⟨hcc, -⟩ := bcell hbc
          simp at hcc
          go_simp
          rfl
        refine chain_val (u := ?_) [126] rfl (by kernel_rfl) trivial (fun ρ wc hbc hcn hk => ?_) ?_; rotate_left
        · obtain ⟨hcn, -⟩ := hcn
          simp at hk
          go_simp
          rfl
        refine chain_val (u := ?_) [127] rfl (by kernel_rfl) trivial (fun ρ wc hbc hcn hk => ?_) ?_; rotate_left
        · obtain ⟨hcn, -⟩ := hcn
          simp at hk
          go_simp
          rfl
        refine chain_val (u := ?_) [128] rfl (by kernel_rfl) trivial (fun ρ wc hbc hcn hk => ?_) ?_; rotate_left
        · obtain ⟨hcn, -⟩ := hcn
          simp at hk
          go_simp
          rfl
        refine chain_val (u := ?_) [1] rfl (by kernel_rfl) ⟨129, by decide +kernel, rfl, fun w x hx => by simpa using hx⟩ (fun ρ wc hbc hcn hk => ?_) ?_; rotate_left
        · obtain ⟨hcn, -⟩ := hcn
          simp at hk
          go_simp
          rfl
        refine chain_val (u := ?_) [130] rfl (by kernel_rfl) ⟨129, by decide +kernel, rfl, fun w x hx => by simpa using hx⟩ (fun ρ wc hbc hcn hk => ?_) ?_; rotate_left
        · obtain ⟨hcn, -⟩ := hcn
          simp at hk
          obtain ⟨hcc, -⟩ := bcell hbc
          simp at hcc
          go_simp
          rfl
        refine chain_val (u := ?_) [131] rfl (by kernel_rfl) ⟨129, by decide +kernel, rfl, fun w x hx => by simpa using hx⟩ (fun ρ wc hbc hcn hk => ?_) ?_; rotate_left
        · obtain ⟨hcn, -⟩ := hcn
          simp at hk
          go_simp
          rfl
        refine chain_val (u := ?_) [1] rfl (by kernel_rfl) ⟨129, by decide +kernel, rfl, fun w x hx => by simpa using hx⟩ (fun ρ wc hbc hcn hk => ?_) ?_; rotate_left
        · obtain ⟨hcn, -⟩ := hcn
          simp at hk
          go_simp
          rfl
        refine chain_val (u := ?_) [133] rfl (by kernel_rfl) ⟨129, by decide +kernel, rfl, fun w x hx => by simpa using hx⟩ (fun ρ wc hbc hcn hk => ?_) ?_; rotate_left
        · obtain ⟨hcn, -⟩ := hcn
          simp at hk
          obtain ⟨hcc, -⟩ := bcell hbc
          simp at hcc
          go_simp
          rfl
        refine chain_val (u := ?_) [1] rfl (by kernel_rfl) ⟨129, by decide +kernel, rfl, fun w x hx => by simpa using hx⟩ (fun ρ wc hbc hcn hk => ?_) ?_; rotate_left
        · obtain ⟨hcn, -⟩ := hcn
          simp at hk
          go_simp
          rfl
        refine chain_val (u := ?_) [135] rfl (by kernel_rfl) ⟨129, by decide +kernel, rfl, fun w x hx => by simpa using hx⟩ (fun ρ wc hbc hcn hk => ?_) ?_; rotate_left
        · obtain ⟨hcn, -⟩ := hcn
          simp at hk
          obtain ⟨hcc, -⟩ := bcell hbc
          simp at hcc
          go_simp
          rfl
        refine chain_call (T := Is ?_) 27 [134, 136] rfl (by kernel_rfl) ⟨129, by decide +kernel, rfl, fun w x hx => by simpa using hx⟩ (stable_is _) (fun ρ wc hbc hcn hk => ?_) ?_; rotate_left
        · obtain ⟨hcn, hfn⟩ := hcn
          simp at hk
          refine ⟨_, by go_simp; rfl, ?_⟩
          refine (RefBytes6_any _ _ _ hn0 hn1).mono ?_
          rintro e w' ⟨rfl, rfl⟩
          refine ⟨_, rfl, ?_, Below.refl _ _⟩
          unfold Is
          rfl
        refine chain_val (u := ?_) [132, 137] rfl (by kernel_rfl) ⟨129, by decide +kernel, rfl, fun w x hx => by simpa using hx⟩ (fun ρ wc hbc hcn hk => ?_) ?_; rotate_left
        · obtain ⟨hcn, -⟩ := hcn
          simp at hk
          go_simp
          rfl
        refine chain_val (u := ?_) [129, 138] rfl (by kernel_rfl) trivial (fun ρ wc hbc hcn hk => ?_) ?_; rotate_left
        · obtain ⟨hcn, -⟩ := hcn
          simp at hk
          go_simp
          rfl
        refine chain_end_lit 150 rfl (fun ff w7 hb7 hk => ?_)
        refine hKK _ _ ?_
        clear hKK KK
        simp [AllN] at hk
        simp only [frameL, hk]
        have HB7 : Hid (Below w.heap.size w w7) := Lib.hid (bel_on (bel_drew HR.out) hb7)
        have B7 := HB.out.drew.below hb7
        have hrd : Ri wr.drew .u8 A d := HRD0.out
        have HRD7 := Lib.hid (hrd.below hb7 (Nat.le_refl _))
        clear hb7 hk x1 y1 z1 hrd
        obtain ⟨x1, y1, z1⟩ := B7
        by_cases hbl : (d.length : Int) = bytesI e n
        case neg =>
          have HF : Hid (V = false) := Lib.hid (by rw [HV2.out, HH.out, decide_eq_false_iff_not]; intro h; exact hbl (h.2.2.2.2.2 he6).2.1)
          have t2 : ((d.length : Int) != bytesI e n) = true := by simpa using hbl
          clear hbl
          go_wp2
          go_ret
          exact ⟨by rw [HF.out]; rfl, HB7.out⟩
        have t2 : ((d.length : Int) != bytesI e n) = false := by simpa using hbl
        have HBL : Hid (bytesI e n ≤ d.length) := Lib.hid (by omega)
        have HF : Hid (V = sameB (trimL d e n) d) := Lib.hid (by
          rw [HV2.out, HH.out]
          unfold sameB
          rw [decide_eq_decide]
          exact ⟨fun h => (h.2.2.2.2.2 he6).2.2, fun h => ⟨hn0, hn1, he0, he1, fun h6 => absurd h6 (by omega), fun _ => ⟨hk0, hbl, h⟩⟩⟩)
        have HBLL := Lib.hid hbl
        clear hbl
        go_wp2_with fail
        rename_i KK hKK
        have HRD : Hid (Ri w7.drew .u8 A d) := Lib.hid HRD7.out
        refine wp_region_chain (by kernel_rfl) (by kernel_rfl) ?_
        refine chain_val (u := ?_) [1] rfl (by kernel_rfl) trivial (fun ρ wc hbc hcn hk => ?_) ?_; rotate_left
        · obtain ⟨hcn, -⟩ := hcn
          simp at hk
          go_simp
          rfl
        refine chain_val (u := ?_) [140] rfl (by kernel_rfl) trivial (fun ρ wc hbc hcn hk => ?_) ?_; rotate_left
        · obtain ⟨hcn, -⟩ := hcn
          simp at hk
          obtain ⟨hcc, -⟩ := bcell hbc
          simp at hcc
          go_simp
          rfl
        refine chain_val (u := ?_) [1] rfl (by kernel_rfl) trivial (fun ρ wc hbc hcn hk => ?_) ?_; rotate_left
        · obtain ⟨hcn, -⟩ := hcn
          simp at hk
          go_simp
          rfl
        refine chain_val (u := ?_) [142] rfl (by kernel_rfl) trivial (fun ρ wc hbc hcn hk => ?_) ?_; rotate_left
        · obtain ⟨hcn, -⟩ := hcn
          simp at hk
          obtain ⟨hcc, -⟩ := bcell hbc
          simp at hcc
          go_simp
          rfl
        refine chain_val (u := ?_) [1] rfl (by kernel_rfl) trivial (fun ρ wc hbc hcn hk => ?_) ?_; rotate_left
        · obtain ⟨hcn, -⟩ := hcn
          simp at hk
          go_simp
          rfl
        refine chain_val (u := ?_) [144] rfl (by kernel_rfl) trivial (fun ρ wc hbc hcn hk => ?_) ?_; rotate_left
        · obtain ⟨hcn, -⟩ := hcn
          simp at hk
          obtain ⟨hcc, -⟩ := bcell hbc
          simp at hcc
          go_simp
          rfl
        refine chain_call (T := GotB w7.heap.size (trimL d e n)) 28 [141, 143, 145] rfl (by kernel_rfl) trivial (stable_gotb _ _) (fun ρ wc hbc hcn hk => ?_) ?_
        · obtain ⟨hcn, hfn⟩ := hcn
          simp at hk
          refine ⟨_, by go_simp; rfl, ?_⟩
          refine (RefTrim_any A c d e n _ (HRD.out.below hbc (Nat.le_refl _)) HBT.out HDM.out hn0 hn1 HBL.out).mono ?_
          rintro r w' ⟨v, rfl, hg, hb⟩
          exact ⟨_, rfl, hg.mono hbc.size, hb⟩
        refine chain_val (u := ?_) [1] rfl (by kernel_rfl) trivial (fun ρ wc hbc hcn hk => ?_) ?_; rotate_left
        · obtain ⟨hcn, -⟩ := hcn
          simp at hk
          go_simp
          rfl
        refine chain_val (u := ?_) [147] rfl (by kernel_rfl) trivial (fun ρ wc hbc hcn hk => ?_) ?_; rotate_left
        · obtain ⟨hcn, -⟩ := hcn
          simp at hk
          obtain ⟨hcc, -⟩ := bcell hbc
          simp at hcc
          go_simp
          rfl
        refine chain_call (T := Is (.bool (sameB (trimL d e n) d))) 17 [146, 148] rfl (by kernel_rfl) trivial (stable_is _) (fun ρ wc hbc hcn hk => ?_) ?_
        · obtain ⟨hcn, hfn⟩ := hcn
          simp at hk
          obtain ⟨hk1, hk2⟩ := hk
          obtain ⟨Av, cv, hv, hv1, hv2, hvr⟩ := Got.slice hk1
          refine ⟨_, by go_simp; rfl, ?_⟩
          refine (Same_any Av A cv c (trimL d e n) d _ hvr (HRD.out.below hbc (Nat.le_refl _)) (by unfold maxLen at hv2; omega) (by have := HDM.out; omega)).mono ?_
          rintro r w' ⟨rfl, m, rfl⟩
          exact ⟨_, rfl, rfl, bel_drewN (Below.refl _ _) m⟩
        refine chain_val (u := ?_) [149] rfl (by kernel_rfl) trivial (fun ρ wc hbc hcn hk => ?_) ?_; rotate_left
        · obtain ⟨hcn, -⟩ := hcn
          simp at hk
          go_simp
          rfl
        refine chain_end_lit 150 rfl (fun ff w8 hb8 hk => ?_)
        refine hKK _ _ ?_
        clear hKK KK
        have h146 := allN_at10 hk 146 (by omega) (by omega)
        simp [AllN] at hk
        simp only [frameL, hk]
        have HB8 : Hid (Below w.heap.size w w8) := Lib.hid (bel_on (bel_drew HB7.out) hb8)
        clear hb8 hk h146 x1 y1 z1
        rw [← HF.out]
        go_wp2
        go_ret
        exact ⟨rfl, HB8.out⟩
      have HH : Hid (headB k e n d ks = false) := Lib.hid (by unfold headB; rw [if_neg h0, if_neg h1, if_neg h2])
      have t0 : (k == 0) = false := by simpa using h0
      have t1 : (k == 1) = false := by simpa using h1
      have t2 : (k == 2) = false := by simpa using h2
      clear h0 h1 h2
      go_wp2
      go_ret
      exact ⟨by rw [HV2.out, HH.out]; rfl, HR.out⟩
end Go.Proofs.YtnmanhediiooaaaDoor

/- The traversal of the reference: Value. -/
namespace Go.Proofs.YtnmanhediiooaaaDoor
open Go.ChangeShapes Go.WideShapes Go.ChangeAt Go.RowKit
set_option linter.unusedVariables false
set_option linter.unusedSimpArgs false
set_option maxRecDepth 100000

attribute [local simp] AllK KnowsV look Is
def TupF (lo : Nat) (x : Val) : Fact := fun v w => ∃ u, v = .tuple #[u, .agg #[.int .i64 x.m], .int .i64 x.e] ∧ NodF lo x.n u w
def TupU (x : Val) : Fact := fun v _ => ∃ u, v = .tuple #[u, .agg #[.int .i64 x.m], .int .i64 x.e]
theorem TupF.u {lo : Nat} {x : Val} {v : Value} {w : World} (h : TupF lo x v w) : TupU x v w := ⟨h.choose, h.choose_spec.1⟩
theorem NodF.lower {lo lo' : Nat} {x : Nd} {v : Value} {w : World} (h : NodF lo x v w) (hl : lo' ≤ lo) : NodF lo' x v w := by
  obtain ⟨A, c, B, c2, hi, h1, h2, h3⟩ := h
  exact ⟨A, c, B, c2, hi, h1, h2, h3.wide hl (Nat.le_refl _)⟩
end Go.Proofs.YtnmanhediiooaaaDoor

/- The traversal's results are well-formed. -/
namespace Go.Proofs.YtnmanhediiooaaaDoor
open Go.ChangeShapes Go.WideShapes Go.ChangeAt Go.RowKit
set_option linter.unusedVariables false
set_option linter.unusedSimpArgs false
set_option maxRecDepth 100000

theorem runK_all {f : Int → Nat → Val} {m : Int} (Q : Nd → Prop) : ∀ n, (∀ m i, i < n → (f m i).e = 0 → Q (f m i).n) → ∀ y ∈ (runK f m n).ks, Q y
  | 0, _, y, hy => by cases hy
  | n + 1, hs, y, hy => by
    have ih := runK_all (f := f) (m := m) Q n (fun m i hi => hs m i (by omega))
    by_cases h1 : (runK f m n).e = 0
    · by_cases h2 : (f (runK f m n).m n).e = 0
      · rw [runK_ok h1 h2] at hy
        rcases List.mem_append.1 hy with h | h
        · exact ih y h
        · rw [List.mem_singleton] at h
          subst h
          exact hs _ n (by omega) h2
      · rw [runK_no h1 h2] at hy
        cases hy
    · rw [runK_keep h1 (Nat.le_succ n)] at hy
      exact ih y hy
theorem validK_allD {k e : Int} : ∀ ks : List Nd, (∀ y ∈ ks, validN y = true ∧ (k = 2 → e = 7 → y.k = 1)) → validK k e ks = true
  | [], _ => by simp [validK]
  | x :: xs, h => by
    have h1 := h x (List.mem_cons_self ..)
    have h2 := validK_allD (k := k) (e := e) xs (fun y hy => h y (List.mem_cons_of_mem _ hy))
    simp only [validK, h1.1, h2, Bool.true_and, Bool.and_true, Bool.not_eq_true', decide_eq_false_iff_not]
    intro h3
    exact h3.2.2 (h1.2 h3.1 h3.2.1)
theorem valid_nd0 : validN nd0 = true := by decide
theorem datW_le (ls : List (List Int)) (s a n : Int) : (datW ls s a n).length ≤ n.toNat := by
  unfold datW
  split
  · unfold sliceL
    rw [List.length_take]
    omega
  · simp
theorem trimL_twice (b : List Int) (e c : Int) : trimL (trimL b e c) e c = trimL b e c := by
  apply ext_zat
  · rw [trimL_length, trimL_length]
  · intro i hi
    rw [trimL_length] at hi
    rw [trimL_zat _ _ _ _ hi, trimL_zat _ _ _ _ hi]
    unfold trimAt
    rw [trimL_zat _ _ _ _ hi]
    unfold trimAt
    split
    · rw [Int.emod_emod_of_dvd _ (Int.dvd_refl _)]
    · rfl
theorem structV_valid {val : Int → Int → Int → Val} (hv : ∀ m s a, validN (val m s a).n = true) (ls : List (List Int)) (m : Int) (o : Ob) (h1 : 0 ≤ o.d) (h2 : o.d ≤ 65535) (h3 : 0 ≤ o.p) (h4 : o.p ≤ 65535) :
    validN (structV val ls m o).n = true ∧ ((structV val ls m o).e = 0 → (structV val ls m o).n.k = 1) := by
  unfold structV
  split
  · rename_i h
    exact ⟨valid_nd0, fun h0 => absurd h0 h⟩
  · rename_i h
    have h0 : (runK (fun m i => val m o.sg (o.at' + o.d + i)) m o.p.toNat).e = 0 := Classical.byContradiction h
    have hl := runK_length h0
    have hk : validK 1 0 (runK (fun m i => val m o.sg (o.at' + o.d + i)) m o.p.toNat).ks = true := validK_allD _ fun y hy => ⟨runK_all (fun y => validN y = true) _ (fun m i _ _ => hv _ _ _) y hy, fun h => by omega⟩
    have hd := datW_le ls o.sg o.at' o.d
    refine ⟨?_, fun _ => rfl⟩
    show (validK 1 0 _ && headB 1 0 0 _ _) = true
    rw [hk, Bool.true_and]
    unfold headB
    rw [if_neg (by omega), if_pos rfl, decide_eq_true_iff, bytesOf_length, hl]
    omega
theorem listV_valid {val : Int → Int → Int → Val} (hv : ∀ m s a, validN (val m s a).n = true) (ls : List (List Int)) (m : Int) (o : Ob) (h1 : 0 ≤ o.d) (h2 : o.d ≤ 65535) (h3 : 0 ≤ o.p) (h4 : o.p ≤ 65535) (h5 : 0 ≤ o.n) (h6 : o.n ≤ 536870911) (h7 : 6 ≤ o.el) (h8 : o.el ≤ 7) :
    validN (listV val ls m o).n = true := by
  unfold listV
  split
  · exact valid_nd0
  · rename_i h
    have h0 : (runK (elemV val ls o) m o.n.toNat).e = 0 := Classical.byContradiction h
    have hl := runK_length h0
    have hk : validK 2 o.el (runK (elemV val ls o) m o.n.toNat).ks = true := validK_allD _ fun y hy => runK_all (fun y => validN y = true ∧ ((2 : Int) = 2 → o.el = 7 → y.k = 1)) _ (fun m i _ => by
      unfold elemV
      split
      · rename_i h9
        exact fun _ => ⟨hv _ _ _, fun _ h => by omega⟩
      · have h9 := structV_valid hv ls m (eleO o i) h1 h2 h3 h4
        exact fun he => ⟨h9.1, fun _ _ => h9.2 he⟩) y hy
    show (validK 2 o.el _ && headB 2 o.el o.n [] _) = true
    rw [hk, Bool.true_and]
    unfold headB
    rw [if_neg (by omega), if_neg (by omega), if_pos rfl, decide_eq_true_iff, hl]
    refine ⟨h5, h6, by omega, h8, fun _ => ⟨rfl, by omega⟩, fun h => by omega⟩
theorem valV_valid {ls : List (List Int)} (hw : Wd2 ls) (hm : ls.length ≤ 40) (hf : ∀ j, (seg ls j).length ≤ 20000000) : ∀ r m s a, validN (valV ls r m s a).n = true
  | 0, m, s, a => by
    unfold valV
    split <;> exact valid_nd0
  | r + 1, m, s, a => by
    have ih := fun m s a => valV_valid hw hm hf r m s a
    have hb := objF_num hw hm hf s a rfl
    unfold valV
    split
    · exact valid_nd0
    · unfold bodyV
      generalize objF ls s a = q at *
      split
      · exact valid_nd0
      · split
        · exact valid_nd0
        · split
          · exact (structV_valid ih ls _ q.1 (by omega) (by omega) (by omega) (by omega)).1
          · split
            · rename_i h
              have hz := trimL_length (bytesOf (datW ls q.1.sg q.1.at' q.1.cost)) q.1.el q.1.n
              have hy : 0 ≤ bytesI q.1.el q.1.n := by
                have := bitsI_mul q.1.el q.1.n (by omega)
                unfold bytesI
                omega
              show (validK 2 q.1.el [] && headB 2 q.1.el q.1.n _ []) = true
              unfold headB
              rw [if_neg (by omega), if_neg (by omega), if_pos rfl]
              simp only [validK, Bool.true_and]
              rw [decide_eq_true_iff, trimL_twice, hz]
              refine ⟨by omega, by omega, by omega, by omega, fun h => by omega, fun _ => ⟨rfl, by omega, rfl⟩⟩
            · exact listV_valid ih ls _ q.1 (by omega) (by omega) (by omega) (by omega) (by omega) (by omega) (by omega) (by omega)

/-! ## How large a result is: its cost bounds it -/
theorem runK_size {f : Int → Nat → Val} {m b : Int} (hb : 0 ≤ b) : ∀ n, (∀ m i, i < n → (f m i).m ≤ m ∧ (sizeN (f m i).n : Int) ≤ b + 10 * (m - (f m i).m)) → (runK f m n).m ≤ m ∧ (sizeK (runK f m n).ks : Int) ≤ n * b + 10 * (m - (runK f m n).m)
  | 0, _ => ⟨Int.le_refl _, by simp [runK, sizeK]⟩
  | n + 1, hs => by
    have ih := runK_size (f := f) (m := m) hb n (fun m i hi => hs m i (by omega))
    have hnb : ((n + 1 : Nat) : Int) * b = n * b + b := by rw [Int.natCast_add, Int.add_mul]; simp
    by_cases h1 : (runK f m n).e = 0
    · have h3 := hs (runK f m n).m n (by omega)
      by_cases h2 : (f (runK f m n).m n).e = 0
      · rw [runK_ok h1 h2, hnb]
        simp only [sizeK_append, sizeK, Nat.add_zero, Int.natCast_add]
        omega
      · rw [runK_no h1 h2, hnb]
        have h4 : 0 ≤ (n : Int) * b := Int.mul_nonneg (by omega) hb
        simp only [sizeK]
        omega
    · rw [runK_keep h1 (Nat.le_succ n), hnb]
      omega
theorem sizeN_mk (k e n : Int) (d : List Int) (ks : List Nd) : sizeN (.mk k e n d ks) = 1 + d.length + sizeK ks := by simp [sizeN]
theorem structV_size {val : Int → Int → Int → Val} (hv : ∀ m s a, (val m s a).m ≤ m ∧ (sizeN (val m s a).n : Int) ≤ 1 + 10 * (m - (val m s a).m)) (ls : List (List Int)) (m : Int) (o : Ob) (h1 : 0 ≤ o.d) (h3 : 0 ≤ o.p) :
    (structV val ls m o).m ≤ m ∧ (sizeN (structV val ls m o).n : Int) ≤ 1 + 8 * o.d + o.p + 10 * (m - (structV val ls m o).m) := by
  have hr := runK_size (f := fun m i => val m o.sg (o.at' + o.d + i)) (m := m) (b := 1) (by omega) o.p.toNat (fun m i _ => hv _ _ _)
  have hd := datW_le ls o.sg o.at' o.d
  unfold structV
  split
  · refine ⟨hr.1, ?_⟩
    show (1 : Int) ≤ 1 + 8 * o.d + o.p + 10 * (m - (runK (fun m i => val m o.sg (o.at' + o.d + i)) m o.p.toNat).m)
    omega
  · refine ⟨hr.1, ?_⟩
    show ((sizeN (.mk 1 0 0 (bytesOf (datW ls o.sg o.at' o.d)) (runK (fun m i => val m o.sg (o.at' + o.d + i)) m o.p.toNat).ks) : Nat) : Int) ≤ 1 + 8 * o.d + o.p + 10 * (m - (runK (fun m i => val m o.sg (o.at' + o.d + i)) m o.p.toNat).m)
    rw [sizeN_mk, bytesOf_length]
    omega
theorem listV_size {val : Int → Int → Int → Val} (hv : ∀ m s a, (val m s a).m ≤ m ∧ (sizeN (val m s a).n : Int) ≤ 1 + 10 * (m - (val m s a).m)) (ls : List (List Int)) (m : Int) (o : Ob) (h1 : 0 ≤ o.d) (h3 : 0 ≤ o.p) (h5 : 0 ≤ o.n) :
    (listV val ls m o).m ≤ m ∧ (sizeN (listV val ls m o).n : Int) ≤ 1 + o.n * (1 + 8 * o.d + o.p) + 10 * (m - (listV val ls m o).m) := by
  have hr := runK_size (f := elemV val ls o) (m := m) (b := 1 + 8 * o.d + o.p) (by omega) o.n.toNat (fun m i _ => by
    unfold elemV
    split
    · have := hv m o.sg (o.at' + i); omega
    · exact structV_size hv ls m (eleO o i) h1 h3)
  have hn : ((o.n.toNat : Nat) : Int) = o.n := by omega
  rw [hn] at hr
  have h6 : 0 ≤ o.n * (1 + 8 * o.d + o.p) := Int.mul_nonneg h5 (by omega)
  unfold listV
  split
  · refine ⟨hr.1, ?_⟩
    show (1 : Int) ≤ 1 + o.n * (1 + 8 * o.d + o.p) + 10 * (m - (runK (elemV val ls o) m o.n.toNat).m)
    omega
  · refine ⟨hr.1, ?_⟩
    show ((sizeN (.mk 2 o.el o.n [] (runK (elemV val ls o) m o.n.toNat).ks) : Nat) : Int) ≤ 1 + o.n * (1 + 8 * o.d + o.p) + 10 * (m - (runK (elemV val ls o) m o.n.toNat).m)
    rw [sizeN_mk]
    simp only [List.length_nil]
    omega
/-- the cost of a located object covers its nodes -/
theorem objF_cover {ls : List (List Int)} (hw : Wd2 ls) (hm : ls.length ≤ 40) (hf : ∀ j, (seg ls j).length ≤ 20000000) (s a : Int) (q : Ob × Int) (hq : objF ls s a = q) (h1 : ¬ q.2 ≠ 0) :
    (q.1.k = 1 → 8 * q.1.d + q.1.p ≤ 10 * q.1.cost) ∧ (¬ q.1.k = 1 → q.1.n * (1 + 8 * q.1.d + q.1.p) ≤ 10 * q.1.cost ∨ q.1.el < 6) ∧ (¬ q.1.k = 1 → q.1.el < 6 → bytesI q.1.el q.1.n ≤ 8 * q.1.cost) := by
  have h := objF_cases hw (by omega) (fun j => by have := hf j; omega) s a
  rw [hq] at h
  obtain ⟨⟨k, sg, at', d, p, el, n, cost⟩, e⟩ := q
  simp only [ob0, Ob.mk.injEq] at h h1 ⊢
  rcases h with ⟨⟨rfl, rfl, rfl, rfl, rfl, rfl, rfl, rfl⟩, h4⟩ | ⟨-, rfl, rfl, rfl, h5, h6, h7, h8, rfl, h9⟩ | ⟨-, rfl, h4, h5, h6, h7, rfl, rfl, rfl, h8⟩ | ⟨-, rfl, rfl, h4, h5, h6, h7, h8, h9, c, h10, h11, h12, h13, rfl⟩
  · exact ⟨fun h => by omega, fun _ => .inr (by omega), fun _ _ => by show (0 : Int) ≤ _; omega⟩
  · exact ⟨fun _ => by omega, fun h => absurd rfl h, fun h => absurd rfl h⟩
  · have hb := bitsI_mul el n h6
    refine ⟨fun h => by omega, fun _ => ?_, fun _ hl => ?_⟩
    · by_cases hl : el < 6
      · exact .inr hl
      · have he : el = 6 := by omega
        subst he
        left
        unfold wordsI bitsI
        simp
        omega
    · unfold wordsI bytesI
      rw [if_neg (by omega)]
      omega
  · refine ⟨fun h => by omega, fun _ => .inl ?_, fun _ h => by omega⟩
    have e1 : n * (1 + 8 * d + p) = n + 8 * (n * d) + n * p := by rw [Int.mul_add, Int.mul_add, Int.mul_one, ← Int.mul_assoc, Int.mul_comm n 8, Int.mul_assoc]
    have e2 : n * (d + p) = n * d + n * p := Int.mul_add _ _ _
    have h14 : 0 ≤ n * d := Int.mul_nonneg h4 h6
    have h15 : 0 ≤ n * p := Int.mul_nonneg h4 h8
    rw [e1]
    split
    · omega
    · rename_i hdp
      have h16 : n * 1 ≤ n * (d + p) := Int.mul_le_mul_of_nonneg_left (by omega) h4
      omega
theorem valV_size {ls : List (List Int)} (hw : Wd2 ls) (hm : ls.length ≤ 40) (hf : ∀ j, (seg ls j).length ≤ 20000000) : ∀ r m s a, (valV ls r m s a).m ≤ m ∧ (sizeN (valV ls r m s a).n : Int) ≤ 1 + 10 * (m - (valV ls r m s a).m)
  | 0, m, s, a => by
    unfold valV
    split <;> exact ⟨Int.le_refl _, by show (1 : Int) ≤ 1 + 10 * (m - m); omega⟩
  | r + 1, m, s, a => by
    have ih := fun m s a => valV_size hw hm hf r m s a
    have hb := objF_num hw hm hf s a rfl
    have hc := objF_cover hw hm hf s a _ rfl
    unfold valV
    split
    · exact ⟨Int.le_refl _, by show (1 : Int) ≤ 1 + 10 * (m - m); omega⟩
    · unfold bodyV
      generalize objF ls s a = q at *
      split
      · exact ⟨Int.le_refl _, by show (1 : Int) ≤ 1 + 10 * (m - m); omega⟩
      · rename_i h1
        have hc := hc h1
        split
        · exact ⟨Int.le_refl _, by show (1 : Int) ≤ 1 + 10 * (m - m); omega⟩
        · split
          · rename_i h3
            have h4 := structV_size ih ls (m - q.1.cost) q.1 (by omega) (by omega)
            have h5 := hc.1 h3
            omega
          · rename_i h3
            split
            · rename_i h4
              have h5 := hc.2.2 h3 h4
              refine ⟨by show m - q.1.cost ≤ m; omega, ?_⟩
              show ((sizeN (.mk 2 q.1.el q.1.n (trimL (bytesOf (datW ls q.1.sg q.1.at' q.1.cost)) q.1.el q.1.n) []) : Nat) : Int) ≤ 1 + 10 * (m - (m - q.1.cost))
              rw [sizeN_mk, trimL_length]
              simp only [sizeK]
              omega
            · rename_i h4
              have h5 := (hc.2.1 h3).resolve_right h4
              have h6 := listV_size ih ls (m - q.1.cost) q.1 (by omega) (by omega) (by omega)
              omega
end Go.Proofs.YtnmanhediiooaaaDoor

/- As XRegionT, where the facts of the operations may speak of the blocks that the statement's own allocations have made (`av`): so it is known that a variable made there lies outside the memory of a call's result, whatever their order. -/
namespace Go.Proofs.YtnmanhediiooaaaDoor
open Go.RowKit
set_option linter.unusedVariables false
set_option linter.unusedSimpArgs false
set_option maxRecDepth 100000

/-- a fact that may speak of the blocks of the statement's own allocations -/
def FactU : Type := List Nat → Fact
structure Ext (av : List Nat) (w : World) (av' : List Nat) : Prop where
  old : ∀ b ∈ av, b ∈ av'
  new : ∀ b ∈ av', b ∈ av ∨ w.heap.size ≤ b
theorem Ext.refl (av : List Nat) (w : World) : Ext av w av := ⟨fun _ h => h, fun _ h => .inl h⟩
theorem Ext.cons (av : List Nat) (w : World) : Ext av w (w.heap.size :: av) := ⟨fun _ h => List.mem_cons_of_mem _ h, fun b h => by
  rcases List.mem_cons.1 h with rfl | h
  · exact .inr (Nat.le_refl _)
  · exact .inl h⟩
/-! ## The steps -/
section
variable {P : Program} {ops : Array Oper} {late : List Nat} {a0 : Act} {w0 : World} {E : Act → World → Prop} {o : Oper} {r : List Oper} {i : Nat} {F : List Nat → List (Tmp × Fact)} {G : List (Tmp × Fact)} {d : Tmp}

end
end Go.Proofs.YtnmanhediiooaaaDoor

/- Facts of drawn regions that know the region's own variables: nodes of a call's result, variables. -/
namespace Go.Proofs.YtnmanhediiooaaaDoor
open Go.ChangeShapes Go.WideShapes Go.ChangeAt Go.RowKit
set_option linter.unusedVariables false
set_option linter.unusedSimpArgs false
set_option maxRecDepth 100000

/-- a node of the call's own, apart from the region's own variables -/
def NodAv (base : Nat) (x : Nd) : FactU := fun av v w => ∃ A c B c2 lo hi, v = .agg #[.int .i64 x.k, .int .i64 x.e, .int .i64 x.n, .slice A x.d.length c, .slice B x.ks.length c2] ∧ base ≤ lo ∧ hi ≤ w.heap.size ∧ NdO lo hi w A c B c2 x ∧ ∀ b ∈ av, b < lo ∨ hi ≤ b
theorem NodAv.of {base : Nat} {x : Nd} {av : List Nat} {v : Value} {w w' : World} (h : NodF w.heap.size x v w') (hav : ∀ b ∈ av, b < w.heap.size) (hb : base ≤ w.heap.size) : NodAv base x av v w' := by
  obtain ⟨A, c, B, c2, hi, e, h1, h2⟩ := h
  exact ⟨A, c, B, c2, w.heap.size, hi, e, hb, h1, h2, fun b hm => .inl (hav b hm)⟩
theorem NodAv.zero (base : Nat) (av : List Nat) (w : World) : NodAv base nd0 av (.agg #[.int .i64 0, .int .i64 0, .int .i64 0, .slice none 0 0, .slice none 0 0]) w :=
  ⟨none, 0, none, 0, base, 0, rfl, Nat.le_refl _, Nat.zero_le _, fun W _ => nd0_here W 0 (by decide), fun b _ => .inr (Nat.zero_le _)⟩
/-- a result of which the first part is such a node -/
def Tup2Av (base : Nat) (x : Nd) (r : Value) : FactU := fun av v w => ∃ u, v = .tuple #[u, r] ∧ NodAv base x av u w
def Tup3Av (base : Nat) (x : Nd) (r r' : Value) : FactU := fun av v w => ∃ u, v = .tuple #[u, r, r'] ∧ NodAv base x av u w
def Tup2W (r : Value) : Fact := fun v _ => ∃ u, v = .tuple #[u, r]
def Tup3W (r r' : Value) : Fact := fun v _ => ∃ u, v = .tuple #[u, r, r']
theorem Tup2Av.w {base : Nat} {x : Nd} {r : Value} {av : List Nat} {v : Value} {w : World} (h : Tup2Av base x r av v w) : Tup2W r v w := ⟨h.choose, h.choose_spec.1⟩
theorem Tup3Av.w {base : Nat} {x : Nd} {r r' : Value} {av : List Nat} {v : Value} {w : World} (h : Tup3Av base x r r' av v w) : Tup3W r r' v w := ⟨h.choose, h.choose_spec.1⟩
/-- stores into blocks that are no part of a node leave it -/
theorem NdO.apart {lo hi : Nat} {w w' : World} {A : Option Addr} {c : Nat} {B : Option Addr} {c2 : Nat} {x : Nd} (h : NdO lo hi w A c B c2 x) (S : Nat → Prop) (hS : ∀ b, S b → b < lo ∨ hi ≤ b) (hw : ∀ k, ¬ S k → w'.heap[k]? = w.heap[k]?) : NdO lo hi w' A c B c2 x :=
  h.to fun k h1 h2 => hw k fun hk => by rcases hS k hk with h | h <;> omega
end Go.Proofs.YtnmanhediiooaaaDoor

/- The reference's Message. -/
namespace Go.Proofs.YtnmanhediiooaaaDoor
open Go.ChangeShapes Go.WideShapes Go.ChangeAt Go.RowKit
set_option linter.unusedVariables false
set_option linter.unusedSimpArgs false
set_option maxRecDepth 100000
attribute [local simp] AllK KnowsV look Is
/-- what a message denotes, and the error -/
def msgV (ls : List (List Int)) (D X : Int) : Nd × Int := if 0 < ls.length ∧ (seg ls 0).length = 0 then (nd0, 0) else if (valV ls D.toNat (startI X) 0 0).e ≠ 0 then (nd0, (valV ls D.toNat (startI X) 0 0).e) else (trimN (valV ls D.toNat (startI X) 0 0).n, 0)

end Go.Proofs.YtnmanhediiooaaaDoor

/- The reference's Measure. -/
namespace Go.Proofs.YtnmanhediiooaaaDoor
open Go.ChangeShapes Go.WideShapes Go.ChangeAt Go.RowKit
set_option linter.unusedVariables false
set_option linter.unusedSimpArgs false
set_option maxRecDepth 100000
/-- what was charged, and the error -/
def measV (ls : List (List Int)) (D X : Int) : Int × Int := if 0 < ls.length ∧ (seg ls 0).length = 0 then (0, 0) else if (valV ls D.toNat (startI X) 0 0).e ≠ 0 then (0, (valV ls D.toNat (startI X) 0 0).e) else (startI X - (valV ls D.toNat (startI X) 0 0).m, 0)

end Go.Proofs.YtnmanhediiooaaaDoor

/- The traversal as a function: depth, errors, other limits, longer messages. -/
namespace Go.Proofs.YtnmanhediiooaaaDoor
open Go.ChangeShapes Go.WideShapes Go.ChangeAt Go.RowKit
set_option linter.unusedVariables false
set_option linter.unusedSimpArgs false
set_option maxRecDepth 100000

/-! ## Depth -/
theorem depthK_all {r : Nat} : ∀ ks : List Nd, (∀ y ∈ ks, depthN y ≤ r) → depthK ks ≤ r
  | [], _ => Nat.zero_le _
  | x :: xs, h => by
    have h1 := h x (List.mem_cons_self ..)
    have h2 := depthK_all xs fun y hy => h y (List.mem_cons_of_mem _ hy)
    show max (depthN x) (depthK xs) ≤ r
    omega
theorem depthG_all {r : Nat} : ∀ ks : List Nd, (∀ y ∈ ks, depthK y.ks ≤ r) → depthG ks ≤ r
  | [], _ => Nat.zero_le _
  | .mk k e n d l :: xs, h => by
    have h1 : depthK l ≤ r := h _ (List.mem_cons_self ..)
    have h2 := depthG_all xs fun y hy => h y (List.mem_cons_of_mem _ hy)
    show max (depthK l) (depthG xs) ≤ r
    omega
theorem structV_depth {val : Int → Int → Int → Val} {r : Nat} (hv : ∀ m s a, depthN (val m s a).n ≤ r) (ls : List (List Int)) (m : Int) (o : Ob) : depthN (structV val ls m o).n ≤ r + 1 ∧ depthK (structV val ls m o).n.ks ≤ r := by
  unfold structV
  split
  · exact ⟨Nat.zero_le _, Nat.zero_le _⟩
  · have h : depthK (runK (fun m i => val m o.sg (o.at' + o.d + i)) m o.p.toNat).ks ≤ r := depthK_all _ (runK_all (fun y => depthN y ≤ r) _ fun m i _ _ => hv m _ _)
    refine ⟨?_, h⟩
    show (if (1 : Int) = 0 then 0 else 1 + if (1 : Int) = 2 ∧ (0 : Int) = 7 then _ else depthK _) ≤ r + 1
    rw [if_neg (by omega), if_neg (by omega)]
    omega
theorem listV_depth {val : Int → Int → Int → Val} {r : Nat} (hv : ∀ m s a, depthN (val m s a).n ≤ r) (ls : List (List Int)) (m : Int) (o : Ob) (h6 : 6 ≤ o.el) (h7 : o.el ≤ 7) : depthN (listV val ls m o).n ≤ r + 1 := by
  unfold listV
  split
  · exact Nat.zero_le _
  · show (if (2 : Int) = 0 then 0 else 1 + if (2 : Int) = 2 ∧ o.el = 7 then depthG _ else depthK _) ≤ r + 1
    rw [if_neg (by omega)]
    split
    · rename_i h
      have hg : depthG (runK (elemV val ls o) m o.n.toNat).ks ≤ r := depthG_all _ (runK_all (fun y => depthK y.ks ≤ r) _ fun m i _ _ => by
        unfold elemV
        rw [if_neg (by omega)]
        exact (structV_depth hv ls m (eleO o i)).2)
      omega
    · rename_i h
      have hk : depthK (runK (elemV val ls o) m o.n.toNat).ks ≤ r := depthK_all _ (runK_all (fun y => depthN y ≤ r) _ fun m i _ _ => by
        unfold elemV
        rw [if_pos (by omega)]
        exact hv m _ _)
      omega
theorem valV_depth {ls : List (List Int)} (hw : Wd2 ls) (hm : ls.length ≤ 40) (hf : ∀ j, (seg ls j).length ≤ 20000000) : ∀ r m s a, depthN (valV ls r m s a).n ≤ r
  | 0, m, s, a => by
    unfold valV
    split <;> exact Nat.zero_le _
  | r + 1, m, s, a => by
    have ih := fun m s a => valV_depth hw hm hf r m s a
    have hb := objF_num hw hm hf s a rfl
    unfold valV
    split
    · exact Nat.zero_le _
    · unfold bodyV
      generalize objF ls s a = q at *
      split
      · exact Nat.zero_le _
      · split
        · exact Nat.zero_le _
        · split
          · exact (structV_depth ih ls _ q.1).1
          · split
            · rename_i h
              show (if (2 : Int) = 0 then 0 else 1 + if (2 : Int) = 2 ∧ q.1.el = 7 then _ else depthK []) ≤ r + 1
              rw [if_neg (by omega), if_neg (by omega)]
              show 1 + 0 ≤ r + 1
              omega
            · exact listV_depth ih ls _ q.1 (by omega) (by omega)

/-! ## Errors -/
def errOK (e : Int) : Prop := e = 0 ∨ 2 ≤ e ∧ e ≤ 8
theorem runK_e {f : Int → Nat → Val} {m : Int} : ∀ n, (∀ m i, i < n → errOK (f m i).e) → errOK (runK f m n).e
  | 0, _ => .inl rfl
  | n + 1, h => by
    have ih := runK_e (m := m) n fun m i hi => h m i (by omega)
    by_cases h1 : (runK f m n).e = 0
    · by_cases h2 : (f (runK f m n).m n).e = 0
      · rw [runK_ok h1 h2]; exact .inl rfl
      · rw [runK_no h1 h2]; exact h _ n (by omega)
    · rw [runK_keep h1 (Nat.le_succ n)]; exact ih
theorem structV_e {val : Int → Int → Int → Val} (hv : ∀ m s a, errOK (val m s a).e) (ls : List (List Int)) (m : Int) (o : Ob) : errOK (structV val ls m o).e := by
  have h := runK_e (f := fun m i => val m o.sg (o.at' + o.d + i)) (m := m) o.p.toNat fun m i _ => hv m _ _
  unfold structV
  split
  · exact h
  · exact .inl rfl
theorem listV_e {val : Int → Int → Int → Val} (hv : ∀ m s a, errOK (val m s a).e) (ls : List (List Int)) (m : Int) (o : Ob) : errOK (listV val ls m o).e := by
  have h := runK_e (f := elemV val ls o) (m := m) o.n.toNat fun m i _ => by
    unfold elemV
    split
    · exact hv m _ _
    · exact structV_e hv ls m _
  unfold listV
  split
  · exact h
  · exact .inl rfl
theorem followF_e (ls : List (List Int)) (s a : Int) : errOK (followF ls s a).e := by
  unfold followF
  repeat' split
  all_goals simp [folE, errOK]
theorem objF_e {ls : List (List Int)} (hw : Wd2 ls) (hm : ls.length ≤ 40) (hf : ∀ j, (seg ls j).length ≤ 20000000) (s a : Int) : errOK (objF ls s a).2 := by
  rcases objF_cases hw (by omega) (fun j => by have := hf j; omega) s a with ⟨_, h | h⟩ | ⟨h, _⟩ | ⟨h, _⟩ | ⟨h, _⟩
  · exact .inl h
  · exact .inr (by omega)
  · exact .inl h
  · exact .inl h
  · exact .inl h
theorem valV_e {ls : List (List Int)} (hw : Wd2 ls) (hm : ls.length ≤ 40) (hf : ∀ j, (seg ls j).length ≤ 20000000) : ∀ r m s a, errOK (valV ls r m s a).e
  | 0, m, s, a => by
    unfold valV
    split
    · exact followF_e ls s a
    · exact .inr ⟨by show (2 : Int) ≤ 7; omega, by show (7 : Int) ≤ 8; omega⟩
  | r + 1, m, s, a => by
    have ih := fun m s a => valV_e hw hm hf r m s a
    have he := objF_e hw hm hf s a
    unfold valV
    split
    · exact followF_e ls s a
    · unfold bodyV
      generalize objF ls s a = q at *
      split
      · exact he
      · split
        · exact .inr ⟨by show (2 : Int) ≤ 8; omega, by show (8 : Int) ≤ 8; omega⟩
        · split
          · exact structV_e ih ls _ _
          · split
            · exact .inl rfl
            · exact listV_e ih ls _ _

/-! ## Another budget, a greater depth, a longer message: what succeeds there -/
/-- f' does with k more what f does -/
def Sim (f f' : Int → Nat → Val) (k : Int) (n : Nat) : Prop := ∀ m i, i < n → 0 ≤ m → (f m i).e = 0 → 0 ≤ (f m i).m + k → f' (m + k) i = ⟨(f m i).n, (f m i).m + k, 0⟩
/-- meters do not grow -/
def Mon (f : Int → Nat → Val) (n : Nat) : Prop := ∀ m i, i < n → 0 ≤ m → 0 ≤ (f m i).m ∧ (f m i).m ≤ m
theorem runK_mon {f : Int → Nat → Val} {m : Int} (h0 : 0 ≤ m) (n : Nat) (h : Mon f n) : 0 ≤ (runK f m n).m ∧ (runK f m n).m ≤ m :=
  runK_ind (fun x => 0 ≤ x ∧ x ≤ m) ⟨h0, Int.le_refl _⟩ n fun m' i hi hm => by have := h m' i hi hm.1; omega
theorem runK_succ0 {f : Int → Nat → Val} {m : Int} {n : Nat} (h : (runK f m (n + 1)).e = 0) : (runK f m n).e = 0 ∧ (f (runK f m n).m n).e = 0 := by
  by_cases h1 : (runK f m n).e = 0
  · by_cases h2 : (f (runK f m n).m n).e = 0
    · exact ⟨h1, h2⟩
    · rw [runK_no h1 h2] at h; exact absurd h h2
  · rw [runK_keep h1 (Nat.le_succ n)] at h; exact absurd h h1
theorem runK_sim {f f' : Int → Nat → Val} {m k : Int} (h0 : 0 ≤ m) : ∀ n, Mon f n → Sim f f' k n → (runK f m n).e = 0 → 0 ≤ (runK f m n).m + k → runK f' (m + k) n = ⟨(runK f m n).ks, (runK f m n).m + k, 0⟩
  | 0, _, _, _, _ => rfl
  | n + 1, hM, hS, he, hk => by
    obtain ⟨e1, e2⟩ := runK_succ0 he
    have hM' : Mon f n := fun m i hi => hM m i (by omega)
    have b1 := runK_mon h0 n hM'
    have b2 := hM (runK f m n).m n (by omega) b1.1
    rw [runK_ok e1 e2] at hk ⊢
    simp only at hk ⊢
    have ih := runK_sim h0 n hM' (fun m i hi => hS m i (by omega)) e1 (by omega)
    have hs := hS (runK f m n).m n (by omega) b1.1 e2 hk
    have i1 : (runK f' (m + k) n).e = 0 := by rw [ih]
    have i2 : (f' (runK f' (m + k) n).m n).e = 0 := by rw [ih]; simp only; rw [hs]
    rw [runK_ok i1 i2, ih]
    simp only
    rw [hs]
/-- f' runs out of budget where f would have fallen below -k -/
def Low (f f' : Int → Nat → Val) (k : Int) (n : Nat) : Prop := ∀ m i, i < n → 0 ≤ m → 0 ≤ m + k → (f m i).e = 0 → (f m i).m + k < 0 → (f' (m + k) i).e = 8
theorem runK_low {f f' : Int → Nat → Val} {m k : Int} (h0 : 0 ≤ m) (hk0 : 0 ≤ m + k) : ∀ n, Mon f n → Sim f f' k n → Low f f' k n → (runK f m n).e = 0 → (runK f m n).m + k < 0 → (runK f' (m + k) n).e = 8
  | 0, _, _, _, _, hk => by
    exfalso
    have : m + k < 0 := hk
    omega
  | n + 1, hM, hS, hL, he, hk => by
    obtain ⟨e1, e2⟩ := runK_succ0 he
    have hM' : Mon f n := fun m i hi => hM m i (by omega)
    have hS' : Sim f f' k n := fun m i hi => hS m i (by omega)
    have b1 := runK_mon h0 n hM'
    rw [runK_ok e1 e2] at hk
    simp only at hk
    by_cases h1 : 0 ≤ (runK f m n).m + k
    · have ih := runK_sim h0 n hM' hS' e1 h1
      have hl := hL (runK f m n).m n (by omega) b1.1 h1 e2 hk
      have i1 : (runK f' (m + k) n).e = 0 := by rw [ih]
      have i2 : (f' (runK f' (m + k) n).m n).e = 8 := by rw [ih]; exact hl
      rw [runK_no i1 (by rw [i2]; omega)]
      exact i2
    · have ih := runK_low h0 hk0 n hM' hS' (fun m i hi => hL m i (by omega)) e1 (by omega)
      rw [runK_keep (by rw [ih]; omega) (Nat.le_succ n)]
      exact ih

/-- all that is in bounds of ls is there in ls', too -/
structure ExtM (ls ls' : List (List Int)) : Prop where
  has : ∀ s a, hasB ls s a = true → hasB ls' s a = true
  word : ∀ s a, hasB ls s a = true → wordV ls' s a = wordV ls s a
  inb : ∀ s a n, inB ls s a n = true → inB ls' s a n = true
  dat : ∀ s a n, inB ls s a n = true → sliceL ls' s a n = sliceL ls s a n
theorem ExtM.refl (ls : List (List Int)) : ExtM ls ls := ⟨fun _ _ h => h, fun _ _ _ => rfl, fun _ _ _ h => h, fun _ _ _ _ => rfl⟩
theorem ExtM.datW {ls ls' : List (List Int)} (h : ExtM ls ls') (s a n : Int) (hi : inB ls s a n = true) : datW ls' s a n = datW ls s a n := by
  unfold Proofs.YtnmanhediiooaaaDoor.datW
  rw [if_pos hi, if_pos (h.inb s a n hi), h.dat s a n hi]
theorem hasB_of_in {ls : List (List Int)} {s a n : Int} (h : inB ls s a n = true) (h1 : 1 ≤ n) : hasB ls s a = true := by
  have := inB_iff.1 h
  unfold hasB
  rw [decide_eq_true_iff]
  omega
theorem inB_part {ls : List (List Int)} {s a n : Int} (h : inB ls s a n = true) {b k : Int} (h1 : a ≤ b) (h2 : 0 ≤ k) (h3 : b + k ≤ a + n) : inB ls s b k = true := by
  have := inB_iff.1 h
  exact inB_iff.2 (by omega)
theorem followF_ext {ls ls' : List (List Int)} (h : ExtM ls ls') (s a : Int) (he : (followF ls s a).e = 0) : followF ls' s a = followF ls s a := by
  unfold followF at he ⊢
  by_cases h1 : hasB ls s a = false
  · rw [if_pos h1] at he; exact absurd he (by simp [folE])
  have h1' : hasB ls s a = true := by simpa using h1
  rw [if_neg h1] at he
  rw [if_neg h1, if_neg (by rw [h.has s a h1']; simp), h.word s a h1']
  generalize wordV ls s a = x at *
  by_cases h2 : (x % 4 == 2) = false
  · rw [if_pos h2, if_pos h2]
  rw [if_neg h2] at he
  rw [if_neg h2, if_neg h2]
  by_cases h3 : hasB ls (x / 4294967296) (x % 4294967296 / 8) = false
  · rw [if_pos h3] at he; exact absurd he (by simp [folE])
  have h3' : hasB ls (x / 4294967296) (x % 4294967296 / 8) = true := by simpa using h3
  rw [if_neg h3] at he
  rw [if_neg h3, if_neg (by rw [h.has _ _ h3']; simp), h.word _ _ h3']
  generalize wordV ls (x / 4294967296) (x % 4294967296 / 8) = y at *
  by_cases h4 : x / 4 % 2 = 0
  · rw [if_pos h4, if_pos h4]
  rw [if_neg h4] at he
  rw [if_neg h4, if_neg h4]
  by_cases h5 : hasB ls (x / 4294967296) (x % 4294967296 / 8 + 1) = false
  · rw [if_pos h5] at he; exact absurd he (by simp [folE])
  have h5' : hasB ls (x / 4294967296) (x % 4294967296 / 8 + 1) = true := by simpa using h5
  rw [if_neg h5, if_neg (by rw [h.has _ _ h5']; simp), h.word _ _ h5']
theorem objP_ext {ls ls' : List (List Int)} (h : ExtM ls ls') (q : Ptr) (hc : 0 ≤ q.c) (s b : Int) (he : (objP ls q s b).2 = 0) : objP ls' q s b = objP ls q s b := by
  unfold objP at he ⊢
  by_cases h1 : q.k = 3
  · rw [if_pos h1, if_pos h1]
  rw [if_neg h1] at he
  rw [if_neg h1, if_neg h1]
  by_cases h2 : q.k = 0
  · rw [if_pos h2] at he
    rw [if_pos h2, if_pos h2]
    by_cases h3 : inB ls s (b + q.o) (q.d + q.p) = true
    · rw [if_pos h3, if_pos (h.inb _ _ _ h3)]
    · rw [if_neg h3] at he; exact absurd he (by simp)
  rw [if_neg h2] at he
  rw [if_neg h2, if_neg h2]
  by_cases h3 : inB ls s (b + q.o) (wordsI q.el q.c) = false
  · rw [if_pos h3] at he; exact absurd he (by simp)
  have h3' : inB ls s (b + q.o) (wordsI q.el q.c) = true := by simpa using h3
  rw [if_neg h3, if_neg (by rw [h.inb _ _ _ h3']; simp)]
  by_cases h4 : q.el = 7
  · rw [if_pos h4, if_pos h4]
    have hw : hasB ls s (b + q.o) = true := hasB_of_in h3' (by rw [h4]; unfold wordsI; simp; omega)
    unfold compF
    rw [h.word _ _ hw]
  · rw [if_neg h4, if_neg h4]
theorem objF_ext {ls ls' : List (List Int)} (h : ExtM ls ls') (hw : Wd2 ls) (hm : ls.length ≤ 40) (hf : ∀ j, (seg ls j).length ≤ 20000000) (s a : Int) (h0 : ¬ ((followF ls s a).e ≠ 0 ∨ (followF ls s a).w = 0)) (he : (objF ls s a).2 = 0) : objF ls' s a = objF ls s a := by
  have hb := followF_bd hw (by omega) (fun j => by have := hf j; omega) s a
  have hp := decP_bd (followF ls s a).w hb.1 hb.2.1
  have hfe : (followF ls s a).e = 0 := Classical.byContradiction fun h => h0 (.inl h)
  unfold objF at he ⊢
  rw [followF_ext h s a hfe]
  rw [if_neg h0] at he
  rw [if_neg h0, if_neg h0]
  exact objP_ext h _ (by omega) _ _ he

theorem structV_sim {ls ls' : List (List Int)} {val val' : Int → Int → Int → Val} {k : Int} (hv : ∀ m s a, 0 ≤ m → (val m s a).e = 0 → 0 ≤ (val m s a).m + k → val' (m + k) s a = ⟨(val m s a).n, (val m s a).m + k, 0⟩) (hM : ∀ m s a, 0 ≤ m → 0 ≤ (val m s a).m ∧ (val m s a).m ≤ m)
    (m : Int) (o : Ob) (hd : datW ls' o.sg o.at' o.d = datW ls o.sg o.at' o.d) (h0 : 0 ≤ m) (he : (structV val ls m o).e = 0) (hk : 0 ≤ (structV val ls m o).m + k) :
    structV val' ls' (m + k) o = ⟨(structV val ls m o).n, (structV val ls m o).m + k, 0⟩ := by
  unfold structV at he hk ⊢
  by_cases h : (runK (fun m i => val m o.sg (o.at' + o.d + i)) m o.p.toNat).e = 0
  · rw [if_neg (fun h' => h' h)] at hk
    rw [if_neg (show ¬ (runK (fun m i => val m o.sg (o.at' + o.d + i)) m o.p.toNat).e ≠ 0 from fun h' => h' h)]
    have hs := runK_sim (f := fun m i => val m o.sg (o.at' + o.d + i)) (f' := fun m i => val' m o.sg (o.at' + o.d + i)) (k := k) h0 o.p.toNat (fun m i _ hm => hM m _ _ hm) (fun m i _ hm he hk => hv m _ _ hm he hk) h hk
    rw [hs, hd]
    rw [if_neg (fun h' => h' rfl)]
  · rw [if_pos h] at he
    exact absurd he h
theorem listV_sim {ls ls' : List (List Int)} {val val' : Int → Int → Int → Val} {k : Int} (hv : ∀ m s a, 0 ≤ m → (val m s a).e = 0 → 0 ≤ (val m s a).m + k → val' (m + k) s a = ⟨(val m s a).n, (val m s a).m + k, 0⟩) (hM : ∀ m s a, 0 ≤ m → 0 ≤ (val m s a).m ∧ (val m s a).m ≤ m)
    (m : Int) (o : Ob) (hd : o.el = 7 → ∀ i : Nat, i < o.n.toNat → datW ls' (eleO o i).sg (eleO o i).at' (eleO o i).d = datW ls (eleO o i).sg (eleO o i).at' (eleO o i).d) (h6 : 6 ≤ o.el) (h7 : o.el ≤ 7) (h0 : 0 ≤ m) (he : (listV val ls m o).e = 0) (hk : 0 ≤ (listV val ls m o).m + k) :
    listV val' ls' (m + k) o = ⟨(listV val ls m o).n, (listV val ls m o).m + k, 0⟩ := by
  unfold listV at he hk ⊢
  by_cases h : (runK (elemV val ls o) m o.n.toNat).e = 0
  · rw [if_neg (fun h' => h' h)] at hk
    rw [if_neg (show ¬ (runK (elemV val ls o) m o.n.toNat).e ≠ 0 from fun h' => h' h)]
    have hs := runK_sim (f := elemV val ls o) (f' := elemV val' ls' o) (k := k) h0 o.n.toNat (fun m i _ hm => by
      unfold elemV
      split
      · exact hM m _ _ hm
      · exact structV_m hM ls m _ hm) (fun m i hi hm he hk => by
      unfold elemV at he hk ⊢
      by_cases h66 : o.el = 6
      · rw [if_pos h66] at he hk ⊢
        rw [if_pos h66]
        exact hv m _ _ hm he hk
      · rw [if_neg h66] at he hk ⊢
        rw [if_neg h66]
        exact structV_sim hv hM m _ (hd (by omega) i hi) hm he hk) h hk
    rw [hs]
    rw [if_neg (fun h' => h' rfl)]
  · rw [if_pos h] at he
    exact absurd he h
/-- the words of a located object are in bounds, those of its elements, too -/
theorem objF_in {ls : List (List Int)} (hw : Wd2 ls) (hm : ls.length ≤ 40) (hf : ∀ j, (seg ls j).length ≤ 20000000) (s a : Int) (q : Ob × Int) (hq : objF ls s a = q) (h1 : ¬ q.2 ≠ 0) :
    (q.1.k = 1 → inB ls q.1.sg q.1.at' q.1.d = true) ∧ (¬ q.1.k = 1 → q.1.el < 6 → inB ls q.1.sg q.1.at' q.1.cost = true ∨ q.1 = ob0) ∧ (¬ q.1.k = 1 → q.1.el = 7 → ∀ i : Nat, i < q.1.n.toNat → inB ls (eleO q.1 i).sg (eleO q.1 i).at' (eleO q.1 i).d = true) := by
  have h := objF_cases hw (by omega) (fun j => by have := hf j; omega) s a
  rw [hq] at h
  obtain ⟨⟨k, sg, at', d, p, el, n, cost⟩, e⟩ := q
  simp only [ob0, Ob.mk.injEq] at h h1 ⊢
  rcases h with ⟨⟨rfl, rfl, rfl, rfl, rfl, rfl, rfl, rfl⟩, h4⟩ | ⟨-, rfl, rfl, rfl, h5, h6, h7, h8, rfl, h9⟩ | ⟨-, rfl, h4, h5, h6, h7, rfl, rfl, rfl, h8⟩ | ⟨-, rfl, rfl, h4, h5, h6, h7, h8, h9, c, h10, h11, h12, h13, rfl⟩
  · exact ⟨fun h => by omega, fun _ _ => .inr (by simp), fun _ h => by omega⟩
  · exact ⟨fun _ => inB_part h9 (Int.le_refl _) h5 (by omega), fun h => absurd rfl h, fun h => absurd rfl h⟩
  · exact ⟨fun h => by omega, fun _ _ => .inl h8, fun _ h => by omega⟩
  · refine ⟨fun h => by omega, fun _ h => by omega, fun _ _ i hi => ?_⟩
    have hin : (i : Int) + 1 ≤ n := by omega
    have e1 : ((i : Int) + 1) * (d + p) ≤ n * (d + p) := Int.mul_le_mul_of_nonneg_right hin (by omega)
    rw [Int.add_mul, Int.one_mul] at e1
    have e2 : 0 ≤ (i : Int) * (d + p) := Int.mul_nonneg (by omega) (by omega)
    exact inB_part h13 (by show at' - 1 ≤ at' + (i : Int) * (d + p); omega) h6 (by show at' + (i : Int) * (d + p) + d ≤ at' - 1 + (c + 1); omega)
theorem valV_sim {ls ls' : List (List Int)} (h : ExtM ls ls') (hw : Wd2 ls) (hm : ls.length ≤ 40) (hf : ∀ j, (seg ls j).length ≤ 20000000) {k : Int} : ∀ r r' m s a, r ≤ r' → 0 ≤ m → (valV ls r m s a).e = 0 → 0 ≤ (valV ls r m s a).m + k → valV ls' r' (m + k) s a = ⟨(valV ls r m s a).n, (valV ls r m s a).m + k, 0⟩
  | 0, r', m, s, a, hr, h0, he, hk => by
    unfold valV at he hk ⊢
    by_cases hn : (followF ls s a).e ≠ 0 ∨ (followF ls s a).w = 0
    · rw [if_pos hn] at he
      have hfe : (followF ls s a).e = 0 := he
      have hn' : (followF ls' s a).e ≠ 0 ∨ (followF ls' s a).w = 0 := by rw [followF_ext h s a hfe]; exact hn
      rw [if_pos hn]
      cases r' <;> (simp only; rw [if_pos hn', followF_ext h s a hfe, hfe]; rfl)
    · rw [if_neg hn] at he
      exact absurd he (by simp [errV])
  | r + 1, r', m, s, a, hr, h0, he, hk => by
    obtain ⟨r'', rfl⟩ : ∃ x, r' = x + 1 := ⟨r' - 1, by omega⟩
    have ih := fun m s a h0 he hk => valV_sim h hw hm hf (k := k) r r'' m s a (by omega) h0 he hk
    have hM := fun m s a h0 => valV_m hw hm hf r m s a h0
    unfold valV at he hk ⊢
    by_cases hn : (followF ls s a).e ≠ 0 ∨ (followF ls s a).w = 0
    · rw [if_pos hn] at he
      have hfe : (followF ls s a).e = 0 := he
      have hn' : (followF ls' s a).e ≠ 0 ∨ (followF ls' s a).w = 0 := by rw [followF_ext h s a hfe]; exact hn
      rw [if_pos hn, if_pos hn', followF_ext h s a hfe, hfe]
      rfl
    · have hfe : (followF ls s a).e = 0 := Classical.byContradiction fun h => hn (.inl h)
      have hn' : ¬ ((followF ls' s a).e ≠ 0 ∨ (followF ls' s a).w = 0) := by rw [followF_ext h s a hfe]; exact hn
      rw [if_neg hn] at he hk
      rw [if_neg hn, if_neg hn']
      by_cases h1 : (objF ls s a).2 ≠ 0
      · unfold bodyV at he
        rw [if_pos h1] at he
        exact absurd he h1
      have hin := objF_in hw hm hf s a _ rfl h1
      have hnm := objF_num hw hm hf s a rfl
      rw [objF_ext h hw hm hf s a hn (Classical.byContradiction h1)]
      unfold bodyV at he hk ⊢
      generalize objF ls s a = q at *
      rw [if_neg h1] at he hk
      rw [if_neg h1, if_neg h1]
      by_cases h2 : m < q.1.cost
      · rw [if_pos h2] at he
        exact absurd he (by simp [errV])
      rw [if_neg h2] at he hk
      rw [if_neg h2]
      have hmk : m + k - q.1.cost = m - q.1.cost + k := by omega
      rw [hmk]
      by_cases h3 : q.1.k = 1
      · rw [if_pos h3] at he hk
        rw [if_pos h3, if_pos h3]
        have hb := structV_m hM ls (m - q.1.cost) q.1 (by omega)
        rw [if_neg (by omega)]
        exact structV_sim ih hM _ _ (h.datW _ _ _ (hin.1 h3)) (by omega) he hk
      rw [if_neg h3] at he hk
      rw [if_neg h3, if_neg h3]
      by_cases h4 : q.1.el < 6
      · rw [if_pos h4] at he hk
        rw [if_pos h4, if_pos h4]
        simp only at hk
        rw [if_neg (by omega)]
        rcases hin.2.1 h3 h4 with h5 | h5
        · rw [h.datW _ _ _ h5]
        · rw [h5]
          simp [ob0, Proofs.YtnmanhediiooaaaDoor.datW, sliceL]
      · rw [if_neg h4] at he hk
        rw [if_neg h4, if_neg h4]
        have hb := listV_m hM ls (m - q.1.cost) q.1 (by omega)
        rw [if_neg (by omega)]
        exact listV_sim ih hM _ _ (fun h7 i hi => h.datW _ _ _ (hin.2.2 h3 h7 i hi)) (by omega) (by omega) (by omega) he hk

/-! ## One word too few -/
theorem structV_low {ls : List (List Int)} {val : Int → Int → Int → Val} {k : Int} (hv : ∀ m s a, 0 ≤ m → (val m s a).e = 0 → 0 ≤ (val m s a).m + k → val (m + k) s a = ⟨(val m s a).n, (val m s a).m + k, 0⟩) (hM : ∀ m s a, 0 ≤ m → 0 ≤ (val m s a).m ∧ (val m s a).m ≤ m)
    (hL : ∀ m s a, 0 ≤ m → 0 ≤ m + k → (val m s a).e = 0 → (val m s a).m + k < 0 → (val (m + k) s a).e = 8)
    (m : Int) (o : Ob) (h0 : 0 ≤ m) (hk0 : 0 ≤ m + k) (he : (structV val ls m o).e = 0) (hk : (structV val ls m o).m + k < 0) : (structV val ls (m + k) o).e = 8 := by
  unfold structV at he hk ⊢
  by_cases h : (runK (fun m i => val m o.sg (o.at' + o.d + i)) m o.p.toNat).e = 0
  · rw [if_neg (fun h' => h' h)] at hk
    have hs := runK_low (f := fun m i => val m o.sg (o.at' + o.d + i)) (f' := fun m i => val m o.sg (o.at' + o.d + i)) (k := k) h0 hk0 o.p.toNat (fun m i _ hm => hM m _ _ hm) (fun m i _ hm he hk => hv m _ _ hm he hk) (fun m i _ hm hm2 he hk => hL m _ _ hm hm2 he hk) h hk
    rw [if_pos (by rw [hs]; omega)]
    exact hs
  · rw [if_pos h] at he
    exact absurd he h
theorem listV_low {ls : List (List Int)} {val : Int → Int → Int → Val} {k : Int} (hv : ∀ m s a, 0 ≤ m → (val m s a).e = 0 → 0 ≤ (val m s a).m + k → val (m + k) s a = ⟨(val m s a).n, (val m s a).m + k, 0⟩) (hM : ∀ m s a, 0 ≤ m → 0 ≤ (val m s a).m ∧ (val m s a).m ≤ m)
    (hL : ∀ m s a, 0 ≤ m → 0 ≤ m + k → (val m s a).e = 0 → (val m s a).m + k < 0 → (val (m + k) s a).e = 8)
    (m : Int) (o : Ob) (h6 : 6 ≤ o.el) (h7 : o.el ≤ 7) (h0 : 0 ≤ m) (hk0 : 0 ≤ m + k) (he : (listV val ls m o).e = 0) (hk : (listV val ls m o).m + k < 0) : (listV val ls (m + k) o).e = 8 := by
  unfold listV at he hk ⊢
  by_cases h : (runK (elemV val ls o) m o.n.toNat).e = 0
  · rw [if_neg (fun h' => h' h)] at hk
    have hs := runK_low (f := elemV val ls o) (f' := elemV val ls o) (k := k) h0 hk0 o.n.toNat (fun m i _ hm => by
      unfold elemV
      split
      · exact hM m _ _ hm
      · exact structV_m hM ls m _ hm) (fun m i hi hm he hk => by
      unfold elemV at he hk ⊢
      by_cases h66 : o.el = 6
      · rw [if_pos h66] at he hk ⊢
        rw [if_pos h66]
        exact hv m _ _ hm he hk
      · rw [if_neg h66] at he hk ⊢
        rw [if_neg h66]
        exact structV_sim hv hM m _ rfl hm he hk) (fun m i hi hm hm2 he hk => by
      unfold elemV at he hk ⊢
      by_cases h66 : o.el = 6
      · rw [if_pos h66] at he hk ⊢
        exact hL m _ _ hm hm2 he hk
      · rw [if_neg h66] at he hk ⊢
        exact structV_low hv hM hL m _ hm hm2 he hk) h hk
    rw [if_pos (by rw [hs]; omega)]
    exact hs
  · rw [if_pos h] at he
    exact absurd he h
theorem valV_low {ls : List (List Int)} (hw : Wd2 ls) (hm : ls.length ≤ 40) (hf : ∀ j, (seg ls j).length ≤ 20000000) {k : Int} : ∀ r m s a, 0 ≤ m → 0 ≤ m + k → (valV ls r m s a).e = 0 → (valV ls r m s a).m + k < 0 → (valV ls r (m + k) s a).e = 8
  | 0, m, s, a, h0, hk0, he, hk => by
    unfold valV at he hk ⊢
    by_cases hn : (followF ls s a).e ≠ 0 ∨ (followF ls s a).w = 0
    · rw [if_pos hn] at he hk
      have : m + k < 0 := hk
      omega
    · rw [if_neg hn] at he
      exact absurd he (by simp [errV])
  | r + 1, m, s, a, h0, hk0, he, hk => by
    have ih := fun m s a h0 hk0 he hk => valV_low hw hm hf (k := k) r m s a h0 hk0 he hk
    have hS := fun m s a h0 he hk => valV_sim (ExtM.refl ls) hw hm hf (k := k) r r m s a (Nat.le_refl _) h0 he hk
    have hM := fun m s a h0 => valV_m hw hm hf r m s a h0
    unfold valV at he hk ⊢
    by_cases hn : (followF ls s a).e ≠ 0 ∨ (followF ls s a).w = 0
    · rw [if_pos hn] at he hk
      have : m + k < 0 := hk
      omega
    · rw [if_neg hn] at he hk
      rw [if_neg hn]
      have hnm := objF_num hw hm hf s a rfl
      unfold bodyV at he hk ⊢
      generalize objF ls s a = q at *
      by_cases h1 : q.2 ≠ 0
      · rw [if_pos h1] at he
        exact absurd he h1
      rw [if_neg h1] at he hk
      rw [if_neg h1]
      by_cases h2 : m < q.1.cost
      · rw [if_pos h2] at he
        exact absurd he (by simp [errV])
      rw [if_neg h2] at he hk
      by_cases h2' : m + k < q.1.cost
      · rw [if_pos h2']
        rfl
      rw [if_neg h2']
      have hmk : m + k - q.1.cost = m - q.1.cost + k := by omega
      rw [hmk]
      by_cases h3 : q.1.k = 1
      · rw [if_pos h3] at he hk
        rw [if_pos h3]
        exact structV_low hS hM ih _ _ (by omega) (by omega) he hk
      rw [if_neg h3] at he hk
      rw [if_neg h3]
      by_cases h4 : q.1.el < 6
      · rw [if_pos h4] at he hk
        simp only at hk
        omega
      · rw [if_neg h4] at he hk
        rw [if_neg h4]
        exact listV_low hS hM ih _ _ (by omega) (by omega) (by omega) (by omega) he hk
end Go.Proofs.YtnmanhediiooaaaDoor
