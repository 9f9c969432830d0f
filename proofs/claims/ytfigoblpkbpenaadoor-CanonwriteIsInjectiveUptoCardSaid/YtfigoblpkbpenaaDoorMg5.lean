/- The texts Node (what is wanted of them), one after the other. -/
import Derived.Test.YtfigoblpkbpenaaDoorMg1
import Derived.Test.YtfigoblpkbpenaaDoorMg2
import Derived.Test.YtfigoblpkbpenaaDoorMg3
import Derived.Test.YtfigoblpkbpenaaDoorMg4
import Derived.Laws.OwnMore
/- Nodes: trees as Lean data, and what it means that a node lies in memory. -/
namespace Go.Proofs.YtfigoblpkbpenaaDoor
open Go.ChangeShapes Go.WideShapes Go.ChangeAt Go.RowKit
set_option linter.unusedVariables false
set_option linter.unusedSimpArgs false
set_option maxRecDepth 100000

inductive Nd where
  | mk (k e n : Int) (d : List Int) (ks : List Nd)
namespace Nd
def k : Nd → Int | .mk k _ _ _ _ => k
def e : Nd → Int | .mk _ e _ _ _ => e
def n : Nd → Int | .mk _ _ n _ _ => n
def d : Nd → List Int | .mk _ _ _ d _ => d
def ks : Nd → List Nd | .mk _ _ _ _ ks => ks
end Nd
theorem Nd.ind {P : Nd → Prop} (h : ∀ k e n d ks, (∀ x ∈ ks, P x) → P (.mk k e n d ks)) : ∀ x, P x :=
  Nd.rec (motive_1 := P) (motive_2 := fun l => ∀ x ∈ l, P x) (fun k e n d ks ih => h k e n d ks ih) (fun x hx => by cases hx) (fun a l ha hl x hx => by
    rcases List.mem_cons.1 hx with rfl | hx
    · exact ha
    · exact hl x hx)

/-- the node that all functions start from -/
def nd0 : Nd := .mk 0 0 0 [] []

/-- a node that stands as five cells: its data at A (capacity c), its kids at B (capacity c2) -/
inductive NdR (w : World) : Option Addr → Nat → Option Addr → Nat → Nd → Prop
  | mk (k e n : Int) (d : List Int) (ks : List Nd) (A : Option Addr) (c : Nat) (B : Option Addr) (c2 : Nat) (FA : Nat → Option Addr) (Fc : Nat → Nat) (FB : Nat → Option Addr) (Fc2 : Nat → Nat)
    (hk : -9223372036854775808 ≤ k ∧ k ≤ 9223372036854775807) (he : -9223372036854775808 ≤ e ∧ e ≤ 9223372036854775807) (hn : -9223372036854775808 ≤ n ∧ n ≤ 9223372036854775807)
    (hd : Ri w .u8 A d) (hb : Bts d) (hdl : d.length ≤ c) (hc : c ≤ maxLen) (hA : A = none → c = 0) (hkl : ks.length ≤ c2) (hc2 : c2 ≤ maxLen) (hB : B = none → c2 = 0)
    (hcell : ks = [] ∨ ∃ b off, B = some ⟨b, off, none⟩ ∧ ∀ j x, ks[j]? = some x → w.cell? ⟨b, off + j * 5, none⟩ = some (.int .i64 x.k) ∧ w.cell? ⟨b, off + j * 5 + 1, none⟩ = some (.int .i64 x.e) ∧ w.cell? ⟨b, off + j * 5 + 2, none⟩ = some (.int .i64 x.n) ∧
      w.cell? ⟨b, off + j * 5 + 3, none⟩ = some (.slice (FA j) x.d.length (Fc j)) ∧ w.cell? ⟨b, off + j * 5 + 4, none⟩ = some (.slice (FB j) x.ks.length (Fc2 j)))
    (hsub : ∀ j x, ks[j]? = some x → NdR w (FA j) (Fc j) (FB j) (Fc2 j) x) : NdR w A c B c2 (.mk k e n d ks)

theorem NdR.on {w w' : World} {A : Option Addr} {c : Nat} {B : Option Addr} {c2 : Nat} {x : Nd} (h : NdR w A c B c2 x) {N : Nat} (hb : Below N w w') (hN : w.heap.size ≤ N) : NdR w' A c B c2 x := by
  induction h with
  | mk k e n d ks A c B c2 FA Fc FB Fc2 hk he hn hd hby hdl hc hA hkl hc2 hB hcell hsub ih =>
    refine .mk k e n d ks A c B c2 FA Fc FB Fc2 hk he hn (hd.below hb hN) hby hdl hc hA hkl hc2 hB ?_ ih
    rcases hcell with h | ⟨b, off, hBe, hcs⟩
    · exact .inl h
    · refine .inr ⟨b, off, hBe, fun j x hj => ?_⟩
      obtain ⟨h0, h1, h2, h3, h4⟩ := hcs j x hj
      have hlt : b < w.heap.size := World.block_lt_of_cell? w ⟨b, off + j * 5, none⟩ h0
      have hc := fun o => hb.cell (p := ⟨b, o, none⟩) (by show b < N; omega)
      exact ⟨(hc _).trans h0, (hc _).trans h1, (hc _).trans h2, (hc _).trans h3, (hc _).trans h4⟩

/-- what is known of a node that lies there -/
theorem NdR.open {w : World} {A : Option Addr} {c : Nat} {B : Option Addr} {c2 : Nat} {k e n : Int} {d : List Int} {ks : List Nd} (h : NdR w A c B c2 (.mk k e n d ks)) :
    (-9223372036854775808 ≤ k ∧ k ≤ 9223372036854775807) ∧ (-9223372036854775808 ≤ e ∧ e ≤ 9223372036854775807) ∧ (-9223372036854775808 ≤ n ∧ n ≤ 9223372036854775807) ∧
    Ri w .u8 A d ∧ Bts d ∧ d.length ≤ c ∧ c ≤ 9223372036854775807 ∧ (A = none → c = 0) ∧ ks.length ≤ c2 ∧ c2 ≤ 9223372036854775807 ∧ (B = none → c2 = 0) := by
  cases h with
  | mk _ _ _ _ _ _ _ _ _ FA Fc FB Fc2 hk he hn hd hby hdl hc hA hkl hc2 hB hcell hsub =>
    unfold maxLen at hc hc2
    exact ⟨hk, he, hn, hd, hby, hdl, by omega, hA, hkl, by omega, hB⟩

/-- its kid j: the five cells and what they hold -/
theorem NdR.kid {w : World} {A : Option Addr} {c : Nat} {B : Option Addr} {c2 : Nat} {k e n : Int} {d : List Int} {ks : List Nd} (h : NdR w A c B c2 (.mk k e n d ks)) {j : Nat} (hj : j < ks.length) :
    ∃ b off A' c' B' c2', B = some ⟨b, off, none⟩ ∧ w.cell? ⟨b, off + j * 5, none⟩ = some (.int .i64 (ks[j]).k) ∧ w.cell? ⟨b, off + j * 5 + 1, none⟩ = some (.int .i64 (ks[j]).e) ∧ w.cell? ⟨b, off + j * 5 + 2, none⟩ = some (.int .i64 (ks[j]).n) ∧
      w.cell? ⟨b, off + j * 5 + 3, none⟩ = some (.slice A' (ks[j]).d.length c') ∧ w.cell? ⟨b, off + j * 5 + 4, none⟩ = some (.slice B' (ks[j]).ks.length c2') ∧ NdR w A' c' B' c2' (ks[j]) := by
  cases h with
  | mk _ _ _ _ _ _ _ _ _ FA Fc FB Fc2 hk he hn hd hby hdl hc hA hkl hc2 hB hcell hsub =>
    rcases hcell with h | ⟨b, off, hBe, hcs⟩
    · subst h; simp at hj
    · have hx : ks[j]? = some ks[j] := List.getElem?_eq_getElem hj
      obtain ⟨h0, h1, h2, h3, h4⟩ := hcs j _ hx
      exact ⟨b, off, _, _, _, _, hBe, h0, h1, h2, h3, h4, hsub j _ hx⟩

mutual
/-- the nodes and bytes of a node -/
def sizeN : Nd → Nat
  | .mk _ _ _ d ks => 1 + d.length + sizeK ks
def sizeK : List Nd → Nat
  | [] => 0
  | x :: xs => sizeN x + sizeK xs
end
theorem sizeK_append (a b : List Nd) : sizeK (a ++ b) = sizeK a + sizeK b := by
  induction a with
  | nil => simp [sizeK]
  | cons x xs ih => simp only [List.cons_append, sizeK, ih]; omega
theorem sizeK_take (l : List Nd) (j : Nat) (h : j < l.length) : sizeK (l.take (j + 1)) = sizeK (l.take j) + sizeN l[j] := by
  rw [List.take_succ_eq_append_getElem h, sizeK_append]
  simp [sizeK]
theorem sizeK_take_le (l : List Nd) (j : Nat) : sizeK (l.take j) ≤ sizeK l := by
  have := sizeK_append (l.take j) (l.drop j)
  rw [List.take_append_drop] at this
  omega
theorem sizeN_kid {l : List Nd} {x : Nd} (h : x ∈ l) : sizeN x ≤ sizeK l := by
  induction l with
  | nil => cases h
  | cons y ys ih =>
    simp only [sizeK]
    rcases List.mem_cons.1 h with rfl | h
    · omega
    · have := ih h; omega
theorem sizeK_length (l : List Nd) : l.length ≤ sizeK l := by
  induction l with
  | nil => simp [sizeK]
  | cons x xs ih =>
    have : 1 ≤ sizeN x := by cases x; simp only [sizeN]; omega
    simp only [List.length_cons, sizeK]; omega

mutual
/-- the nesting of a node -/
def nestN : Nd → Nat
  | .mk _ _ _ _ ks => nestK ks + 1
def nestK : List Nd → Nat
  | [] => 0
  | x :: xs => max (nestN x) (nestK xs)
end
theorem nestK_append (a b : List Nd) : nestK (a ++ b) = max (nestK a) (nestK b) := by
  induction a with
  | nil => simp [nestK]
  | cons x xs ih => simp only [List.cons_append, nestK, ih]; omega
theorem nestK_take (l : List Nd) (j : Nat) (h : j < l.length) : nestK (l.take (j + 1)) = max (nestK (l.take j)) (nestN l[j]) := by
  rw [List.take_succ_eq_append_getElem h, nestK_append]
  simp [nestK]
theorem nest_size : ∀ x : Nd, nestN x ≤ sizeN x := Nd.ind (by
  intro k e n d ks ih
  simp only [nestN, sizeN]
  have : nestK ks ≤ sizeK ks := by
    induction ks with
    | nil => simp [nestK, sizeK]
    | cons x xs ih2 =>
      have h1 := ih x (List.mem_cons_self ..)
      have h2 := ih2 (fun y hy => ih y (List.mem_cons_of_mem _ hy))
      simp only [nestK, sizeK]
      omega
  omega)
theorem nestK_size (ks : List Nd) : nestK ks ≤ sizeK ks := by
  induction ks with
  | nil => simp [nestK, sizeK]
  | cons x xs ih =>
    have h1 := nest_size x
    simp only [nestK, sizeK]
    omega
theorem nestK_take_le (l : List Nd) (j : Nat) : nestK (l.take j) ≤ nestK l := by
  have := nestK_append (l.take j) (l.drop j)
  rw [List.take_append_drop] at this
  omega

/-- the nodes ts lie one after the other at B -/
def KsR (w : World) (B : Option Addr) (ts : List Nd) : Prop := ts = [] ∨ ∃ b off, B = some ⟨b, off, none⟩ ∧ ∀ j (hj : j < ts.length), ∃ A' c' B' c2',
  w.cell? ⟨b, off + j * 5, none⟩ = some (.int .i64 (ts[j]).k) ∧ w.cell? ⟨b, off + j * 5 + 1, none⟩ = some (.int .i64 (ts[j]).e) ∧ w.cell? ⟨b, off + j * 5 + 2, none⟩ = some (.int .i64 (ts[j]).n) ∧
      w.cell? ⟨b, off + j * 5 + 3, none⟩ = some (.slice A' (ts[j]).d.length c') ∧ w.cell? ⟨b, off + j * 5 + 4, none⟩ = some (.slice B' (ts[j]).ks.length c2') ∧ NdR w A' c' B' c2' (ts[j])
theorem KsR.on {w w' : World} {B : Option Addr} {ts : List Nd} (h : KsR w B ts) {N : Nat} (hb : Below N w w') (hN : w.heap.size ≤ N) : KsR w' B ts := by
  rcases h with h | ⟨b, off, hB, h⟩
  · exact .inl h
  · refine .inr ⟨b, off, hB, fun j hj => ?_⟩
    obtain ⟨A', c', B', c2', h0, h1, h2, h3, h4, h5⟩ := h j hj
    have hlt : b < w.heap.size := World.block_lt_of_cell? w ⟨b, off + j * 5, none⟩ h0
    have hc := fun o => hb.cell (p := ⟨b, o, none⟩) (by show b < N; omega)
    exact ⟨A', c', B', c2', (hc _).trans h0, (hc _).trans h1, (hc _).trans h2, (hc _).trans h3, (hc _).trans h4, h5.on hb hN⟩
theorem KsR.at {w : World} {B : Option Addr} {ts : List Nd} (h : KsR w B ts) {j : Nat} (hj : j < ts.length) :
    ∃ b off A' c' B' c2', B = some ⟨b, off, none⟩ ∧ w.cell? ⟨b, off + j * 5, none⟩ = some (.int .i64 (ts[j]).k) ∧ w.cell? ⟨b, off + j * 5 + 1, none⟩ = some (.int .i64 (ts[j]).e) ∧ w.cell? ⟨b, off + j * 5 + 2, none⟩ = some (.int .i64 (ts[j]).n) ∧
      w.cell? ⟨b, off + j * 5 + 3, none⟩ = some (.slice A' (ts[j]).d.length c') ∧ w.cell? ⟨b, off + j * 5 + 4, none⟩ = some (.slice B' (ts[j]).ks.length c2') ∧ NdR w A' c' B' c2' (ts[j]) := by
  rcases h with h | ⟨b, off, hB, h⟩
  · subst h; simp at hj
  · obtain ⟨A', c', B', c2', h⟩ := h j hj
    exact ⟨b, off, A', c', B', c2', hB, h⟩
theorem NdR.kids {w : World} {A : Option Addr} {c : Nat} {B : Option Addr} {c2 : Nat} {k e n : Int} {d : List Int} {ks : List Nd} (h : NdR w A c B c2 (.mk k e n d ks)) : KsR w B ks := by
  cases ks with
  | nil => exact .inl rfl
  | cons x xs =>
    have h0 := h.kid (j := 0) (by simp)
    obtain ⟨b, off, _, _, _, _, hB, _⟩ := h0
    refine .inr ⟨b, off, hB, fun j hj => ?_⟩
    obtain ⟨b', off', A', c', B', c2', hB', r⟩ := h.kid hj
    rw [hB] at hB'
    injection hB' with e
    injection e with e1 e2
    subst e1
    subst e2
    exact ⟨A', c', B', c2', r⟩

/-- the kids of the kids -/
def kk (ks : List Nd) : List Nd := ks.flatMap Nd.ks
def targN : Nd → List Nd | .mk k e _ _ ks => if k = 2 ∧ e = 7 then kk ks else ks
theorem kk_append (a b : List Nd) : kk (a ++ b) = kk a ++ kk b := by unfold kk; exact List.flatMap_append
theorem kk_take (l : List Nd) (j : Nat) (h : j < l.length) : kk (l.take (j + 1)) = kk (l.take j) ++ (l[j]).ks := by
  rw [List.take_succ_eq_append_getElem h, kk_append]
  simp [kk]
theorem sizeK_ks (x : Nd) : sizeK x.ks + 1 ≤ sizeN x := by
  cases x; simp only [Nd.ks, sizeN]; omega
theorem sizeK_kk (l : List Nd) : sizeK (kk l) ≤ sizeK l := by
  induction l with
  | nil => simp [kk, sizeK]
  | cons x xs ih =>
    have h : kk (x :: xs) = x.ks ++ kk xs := by simp [kk]
    have := sizeK_ks x
    rw [h, sizeK_append]
    simp only [sizeK]
    omega
theorem kk_size (l : List Nd) : (kk l).length ≤ sizeK l := Nat.le_trans (sizeK_length _) (sizeK_kk l)
theorem sizeK_targ (x : Nd) : sizeK (targN x) + 1 ≤ sizeN x := by
  obtain ⟨k, e, n, d, ks⟩ := x
  unfold targN
  have := sizeK_kk ks
  simp only [sizeN]
  split <;> omega

/-- the five cells of a node -/
def fiveC (x : Nd) (A : Option Addr) (c : Nat) (B : Option Addr) (c2 : Nat) : List Value := [.int .i64 x.k, .int .i64 x.e, .int .i64 x.n, .slice A x.d.length c, .slice B x.ks.length c2]
/-- v is a slice of nodes of the call's own; what they refer to came in (it lay there in W0) -/
def OwnK (W0 w : World) (base : Nat) (v : Value) (ts : List Nd) : Prop :=
  ∃ vs, w.ownsRow base 25 5 v ts.length vs ∧ ∀ j (hj : j < ts.length), ∃ A' c' B' c2', NdR W0 A' c' B' c2' (ts[j]) ∧ ∀ o, o < 5 → vs[j * 5 + o]? = (fiveC (ts[j]) A' c' B' c2')[o]?
theorem OwnK.empty (W0 w : World) (base : Nat) : OwnK W0 w base (.slice none 0 0) [] := ⟨[], World.ownsRow_nil w base _ 5, fun j hj => by simp at hj⟩

theorem node_info : (Tryd.prog.info? 25).map (fun i => (i.zero, i.size, i.bytes)) = some (some (.agg #[.int .i64 0, .int .i64 0, .int .i64 0, .slice none 0 0, .slice none 0 0]), 5, 72) := by kernel_rfl
theorem fiveC_one (x : Nd) (A : Option Addr) (c : Nat) (B : Option Addr) (c2 : Nat) : ∀ u ∈ fiveC x A c B c2, u.oneCell' = true := by
  intro u hu
  unfold fiveC at hu
  simp at hu
  rcases hu with rfl | rfl | rfl | rfl | rfl <;> rfl
/-- the cells of nodes that came in -/
theorem KsR.cells {w : World} {b off : Nat} {ts : List Nd} (h : KsR w (some ⟨b, off, none⟩) ts) {j o : Nat} (hj : j < ts.length) (ho : o < 5) :
    ∃ A' c' B' c2', NdR w A' c' B' c2' (ts[j]) ∧ ∀ o, o < 5 → w.cell? ⟨b, off + (j * 5 + o), none⟩ = (fiveC (ts[j]) A' c' B' c2')[o]? := by
  obtain ⟨b', off', A', c', B', c2', hB, h0, h1, h2, h3, h4, h5⟩ := h.at hj
  injection hB with e
  injection e with e1 e2
  subst e1
  subst e2
  refine ⟨A', c', B', c2', h5, fun o ho => ?_⟩
  match o, ho with
  | 0, _ => exact h0
  | 1, _ => exact h1
  | 2, _ => exact h2
  | 3, _ => exact h3
  | 4, _ => exact h4
  | o + 5, h => omega

theorem wpList_appK {ops : Array Oper} {rest : List Oper} {o : Oper} {a : Act} {Q : Exit → Act → World → Prop} {w W0 : World} (hgd : o.guard = none) (s x : Operand) (t : TypeId)
    (ho : o.op = .call { callee := .builtin .append, args := #[s, x], argTypes := #[t, t] }) (ht : Tryd.prog.underlying t = some (.slice 25))
    {base : Nat} {v : Value} {ts ys : List Nd} {B' : Option Addr} {c' : Nat} (hs : a.eval s = v) (hown : OwnK W0 w base v ts) (hx : a.eval x = .slice B' ys.length c') (hk : KsR W0 B' ys) (hnil : B' = none → c' = 0) (hle : ys.length ≤ c')
    {N0 : Nat} (hW : W0.heap.size ≤ N0) (hbW : Below N0 W0 w) (hn : ts.length + ys.length ≤ 1099511627776) (hbase : base ≤ w.heap.size)
    (h : ∀ v' w', OwnK W0 w' base v' (ts ++ ys) → Below base w w' → wpList Tryd.prog ops Q rest (a.put o.dst v') w') : wpList Tryd.prog ops Q (o :: rest) a w := by
  obtain ⟨i, hi, hz0, hz1, hz2⟩ := info_parts node_info
  obtain ⟨vs, h1, h2⟩ := hown
  have hlv : vs.length = ts.length * 5 := h1.1
  cases B' with
  | none =>
    have hc := hnil rfl
    subst hc
    obtain rfl : ys = [] := List.eq_nil_of_length_eq_zero (by omega)
    refine wpList_append_own_none hgd s x t ho base _ i 5 ht hi v ts.length vs hs h1 hx ?_
    exact h v w (by rw [List.append_nil]; exact ⟨vs, h1, h2⟩) (Below.refl _ _)
  | some ad =>
    have hnews : ∃ news : List Value, news.length = ys.length * 5 ∧ (∀ q u, news[q]? = some u → w.cell? (ad.add q) = some u) ∧ (∀ u ∈ news, u.oneCell' = true) ∧
        ∀ j (hj : j < ys.length), ∃ A' c' B' c2', NdR W0 A' c' B' c2' (ys[j]) ∧ ∀ o, o < 5 → news[j * 5 + o]? = (fiveC (ys[j]) A' c' B' c2')[o]? := by
      rcases hk with hk0 | hk0
      · subst hk0
        exact ⟨[], rfl, fun q u hq => by simp at hq, fun u hu => by simp at hu, fun j hj => by simp at hj⟩
      · obtain ⟨b, off, hB, hk1⟩ := hk0
        injection hB with hB
        subst hB
        have hk2 : KsR W0 (some ⟨b, off, none⟩) ys := .inr ⟨b, off, rfl, hk1⟩
        have hcell : ∀ j (hj : j < ys.length), ∃ A' c' B' c2', NdR W0 A' c' B' c2' (ys[j]) ∧ ∀ o, o < 5 → w.cell? ⟨b, off + (j * 5 + o), none⟩ = (fiveC (ys[j]) A' c' B' c2')[o]? := by
          intro j hj
          obtain ⟨A', c', B', c2', g1, g2⟩ := hk2.cells (o := 0) hj (by omega)
          refine ⟨A', c', B', c2', g1, fun o ho => ?_⟩
          have hsome : W0.cell? ⟨b, off + (j * 5 + 0), none⟩ = some (.int .i64 (ys[j]).k) := g2 0 (by omega)
          have hlt : b < W0.heap.size := World.block_lt_of_cell? W0 ⟨b, off + (j * 5 + 0), none⟩ hsome
          exact (hbW.cell (p := ⟨b, off + (j * 5 + o), none⟩) (by show b < N0; omega)).trans (g2 o ho)
        have hget : ∀ q, q < ys.length * 5 → ∃ u, w.cell? ⟨b, off + q, none⟩ = some u ∧ u.oneCell' = true := by
          intro q hq
          obtain ⟨A', c', B', c2', _, g2⟩ := hcell (q / 5) (by omega)
          have e : q / 5 * 5 + q % 5 = q := by omega
          have g3 := g2 (q % 5) (by omega)
          rw [e] at g3
          have hl5 : q % 5 < (fiveC (ys[q / 5]) A' c' B' c2').length := by unfold fiveC; simp; omega
          rw [List.getElem?_eq_getElem hl5] at g3
          exact ⟨_, g3, fiveC_one _ _ _ _ _ _ (List.getElem_mem hl5)⟩
        refine ⟨(List.range (ys.length * 5)).map (fun q => (w.cell? ⟨b, off + q, none⟩).getD undef), by simp, ?_, ?_, ?_⟩
        · intro q u hq
          have hql : q < ys.length * 5 := by
            rcases Nat.lt_or_ge q (ys.length * 5) with h1 | h1
            · exact h1
            · rw [List.getElem?_eq_none (by simpa using h1)] at hq; cases hq
          obtain ⟨u', hu', _⟩ := hget q hql
          rw [add_plain, hu']
          simp [hql, hu'] at hq
          rw [hq]
        · intro u hu
          obtain ⟨q, hq, rfl⟩ := List.mem_map.1 hu
          obtain ⟨u', hu', hone⟩ := hget q (List.mem_range.1 hq)
          rw [hu']
          exact hone
        · intro j hj
          obtain ⟨A', c', B', c2', g1, g2⟩ := hcell j hj
          refine ⟨A', c', B', c2', g1, fun o ho => ?_⟩
          have hql : j * 5 + o < ys.length * 5 := by omega
          rw [← g2 o ho, List.getElem?_map, List.getElem?_range hql]
          obtain ⟨u', hu', _⟩ := hget (j * 5 + o) hql
          simp [hu']
    obtain ⟨news, n1, n2, n3, n4⟩ := hnews
    refine wpList_append_own _ hgd s x t ho base _ i _ 5 72 ht hi hz0 hz1 hz2 rfl (by decide) v ts.length vs hs h1 ad ys.length c' news hx n1 n2 n3 (by unfold maxLen; omega) (by omega) hbase ?_
    intro v' w' k1 k2 _
    have hb : Below base w w' := (Below.refl base w).grown k2 hbase (fun g hg => (h1.lt g hg).1)
    refine h v' w' ⟨vs ++ news, by rw [List.length_append]; exact k1, fun j hj => ?_⟩ hb
    by_cases hjl : j < ts.length
    · obtain ⟨A', c', B', c2', g1, g2⟩ := h2 j hjl
      have e : (ts ++ ys)[j] = ts[j] := List.getElem_append_left hjl
      rw [e]
      exact ⟨A', c', B', c2', g1, fun o ho => by rw [List.getElem?_append_left (by omega)]; exact g2 o ho⟩
    · rw [List.length_append] at hj
      obtain ⟨A', c', B', c2', g1, g2⟩ := n4 (j - ts.length) (by omega)
      have e : (ts ++ ys)[j] = ys[j - ts.length] := List.getElem_append_right (by omega)
      rw [e]
      refine ⟨A', c', B', c2', g1, fun o ho => ?_⟩
      rw [List.getElem?_append_right (by omega), ← g2 o ho, hlv]
      congr 1
      omega

/-- a slice of the call's own as nodes that lie there -/
theorem OwnK.slice {W0 w : World} {base N0 : Nat} {v : Value} {ts : List Nd} (h : OwnK W0 w base v ts) (hW : W0.heap.size ≤ N0) (hb : Below N0 W0 w) : ∃ B c, v = .slice B ts.length c ∧ KsR w B ts ∧ ts.length ≤ c ∧ c ≤ 9223372036854775807 ∧ (B = none → c = 0) := by
  obtain ⟨vs, h1, h2⟩ := h
  have h1' := h1
  rcases h1.2 with ⟨rfl, hn⟩ | ⟨g, cap, cur, rfl, hg, hh, hc, hm, hcs, htk⟩
  · obtain rfl : ts = [] := List.eq_nil_of_length_eq_zero hn
    exact ⟨none, 0, rfl, .inl rfl, by simp, by omega, fun _ => rfl⟩
  · refine ⟨some ⟨g, 0, none⟩, cap, rfl, .inr ⟨g, 0, rfl, fun j hj => ?_⟩, hc, by unfold maxLen at hm; omega, fun h => by cases h⟩
    obtain ⟨A', c', B', c2', g1, g2⟩ := h2 j hj
    have hcell := fun o (ho : o < 5) => (World.ownsRow.cellAt (g := g) (cap := cap) h1' (j * 5 + o) (by omega)).trans (g2 o ho)
    refine ⟨A', c', B', c2', ?_, ?_, ?_, ?_, ?_, g1.on hb hW⟩
    · have := hcell 0 (by omega); rw [Nat.zero_add]; exact this
    · have := hcell 1 (by omega); rw [Nat.zero_add]; exact this
    · have := hcell 2 (by omega); rw [Nat.zero_add]; exact this
    · have := hcell 3 (by omega); rw [Nat.zero_add]; exact this
    · have := hcell 4 (by omega); rw [Nat.zero_add]; exact this

theorem NdR.kidsX {w : World} {A : Option Addr} {c : Nat} {B : Option Addr} {c2 : Nat} {x : Nd} (h : NdR w A c B c2 x) : KsR w B x.ks ∧ (B = none → c2 = 0) ∧ x.ks.length ≤ c2 := by
  obtain ⟨k, e, n, d, ks⟩ := x
  obtain ⟨_, _, _, _, _, _, _, _, h9, _, h11⟩ := h.open
  exact ⟨h.kids, h11, h9⟩
/-- a node of a row that came in, read in a later world -/
theorem KsR.atIn {w w' : World} {B : Option Addr} {ts : List Nd} (h : KsR w B ts) {N : Nat} (hb : Below N w w') (hN : w.heap.size ≤ N) {j : Nat} (hj : j < ts.length) :
    ∃ b off A' c' B' c2', B = some ⟨b, off, none⟩ ∧ w'.cell? ⟨b, off + j * 5, none⟩ = some (.int .i64 (ts[j]).k) ∧ w'.cell? ⟨b, off + j * 5 + 1, none⟩ = some (.int .i64 (ts[j]).e) ∧ w'.cell? ⟨b, off + j * 5 + 2, none⟩ = some (.int .i64 (ts[j]).n) ∧
      w'.cell? ⟨b, off + j * 5 + 3, none⟩ = some (.slice A' (ts[j]).d.length c') ∧ w'.cell? ⟨b, off + j * 5 + 4, none⟩ = some (.slice B' (ts[j]).ks.length c2') ∧ NdR w A' c' B' c2' (ts[j]) := by
  obtain ⟨b, off, A', c', B', c2', hB, h0, h1, h2, h3, h4, h5⟩ := h.at hj
  have hlt : b < w.heap.size := World.block_lt_of_cell? w ⟨b, off + j * 5, none⟩ h0
  have hc := fun o => hb.cell (p := ⟨b, o, none⟩) (by show b < N; omega)
  exact ⟨b, off, A', c', B', c2', hB, (hc _).trans h0, (hc _).trans h1, (hc _).trans h2, (hc _).trans h3, (hc _).trans h4, h5⟩

mutual
/-- the depth of a node (the elements of a composite list do not count) -/
def depthN : Nd → Nat
  | .mk k e _ _ ks => if k = 0 then 0 else 1 + if k = 2 ∧ e = 7 then depthG ks else depthK ks
def depthK : List Nd → Nat
  | [] => 0
  | x :: xs => max (depthN x) (depthK xs)
def depthG : List Nd → Nat
  | [] => 0
  | .mk _ _ _ _ ks :: xs => max (depthK ks) (depthG xs)
end
theorem depthK_append (a b : List Nd) : depthK (a ++ b) = max (depthK a) (depthK b) := by
  induction a with
  | nil => simp [depthK]
  | cons x xs ih => simp only [List.cons_append, depthK, ih]; omega
theorem depthG_kk (l : List Nd) : depthG l = depthK (kk l) := by
  induction l with
  | nil => simp [depthG, kk, depthK]
  | cons x xs ih =>
    obtain ⟨k, e, n, d, ks⟩ := x
    have h : kk (.mk k e n d ks :: xs) = ks ++ kk xs := by simp [kk, Nd.ks]
    rw [h, depthK_append]
    simp only [depthG, ih]
theorem depthN_eq (x : Nd) : depthN x = if x.k = 0 then 0 else 1 + depthK (targN x) := by
  obtain ⟨k, e, n, d, ks⟩ := x
  simp only [depthN, Nd.k, targN]
  by_cases h : k = 2 ∧ e = 7
  · rw [if_pos h, if_pos h, depthG_kk]
    by_cases h0 : k = 0 <;> simp [h0]
  · rw [if_neg h, if_neg h]
    by_cases h0 : k = 0 <;> simp [h0]
/-- what a pointer refers to is smaller -/
theorem targ_lt {x t : Nd} (h : t ∈ targN x) : sizeN t < sizeN x := by
  have h1 := sizeN_kid h
  have h2 := sizeK_targ x
  omega
theorem size_ind {P : Nd → Prop} (h : ∀ x, (∀ y, sizeN y < sizeN x → P y) → P x) : ∀ x, P x := by
  intro x
  generalize hn : sizeN x = n
  induction n using Nat.strongRecOn generalizing x with
  | _ n ih => exact h x fun y hy => ih (sizeN y) (by omega) y rfl
open Classical in
/-- equality of nodes -/
noncomputable def eqN (x y : Nd) : Bool := decide (x = y)
theorem eqN_yes {x y : Nd} (h : x = y) : eqN x y = true := by unfold eqN; simp [h]
theorem eqN_no {x y : Nd} (h : x ≠ y) : eqN x y = false := by unfold eqN; simp [h]
theorem eqN_iff {x y : Nd} : eqN x y = true ↔ x = y := by unfold eqN; simp
theorem KsR.blk {w : World} {b off : Nat} {ts : List Nd} (h : KsR w (some ⟨b, off, none⟩) ts) {j : Nat} (hj : j < ts.length) : b < w.heap.size := by
  obtain ⟨b', off', A', c', B', c2', hB, h0, _⟩ := h.at hj
  injection hB with e
  injection e with e1 e2
  subst e1
  exact World.block_lt_of_cell? w ⟨b, off' + j * 5, none⟩ h0
theorem take_eq_succ {l m : List Nd} {j : Nat} (h1 : j < l.length) (h2 : j < m.length) (h : l.take j = m.take j) (he : l[j] = m[j]) : l.take (j + 1) = m.take (j + 1) := by
  rw [List.take_succ_eq_append_getElem h1, List.take_succ_eq_append_getElem h2, h, he]

/-- well-formed, but for the kids -/
def headB (k e n : Int) (d : List Int) (ks : List Nd) : Bool :=
  if k = 0 then decide (e = 0 ∧ n = 0 ∧ d.length = 0 ∧ ks.length = 0)
  else if k = 1 then decide (e = 0 ∧ n = 0 ∧ d.length % 8 = 0 ∧ d.length ≤ 524280 ∧ ks.length ≤ 65535)
  else if k = 2 then decide (0 ≤ n ∧ n ≤ 536870911 ∧ 0 ≤ e ∧ e ≤ 7 ∧ (6 ≤ e → d.length = 0 ∧ (ks.length : Int) = n) ∧ (e < 6 → ks.length = 0 ∧ (d.length : Int) = bytesI e n ∧ trimL d e n = d))
  else false
mutual
/-- a well-formed node -/
def validN : Nd → Bool
  | .mk k e n d ks => validK k e ks && headB k e n d ks
def validK (k e : Int) : List Nd → Bool
  | [] => true
  | x :: xs => validN x && !(decide (k = 2 ∧ e = 7 ∧ x.k ≠ 1)) && validK k e xs
end
theorem validK_append (k e : Int) (a b : List Nd) : validK k e (a ++ b) = (validK k e a && validK k e b) := by
  induction a with
  | nil => simp [validK]
  | cons x xs ih => simp only [List.cons_append, validK, ih, Bool.and_assoc]
theorem validK_take (k e : Int) (l : List Nd) (j : Nat) (h : j < l.length) : validK k e (l.take (j + 1)) = (validK k e (l.take j) && (validN l[j] && !(decide (k = 2 ∧ e = 7 ∧ (l[j]).k ≠ 1)))) := by
  rw [List.take_succ_eq_append_getElem h, validK_append]
  simp [validK]
theorem validK_no (k e : Int) (l : List Nd) (j : Nat) (h : j < l.length) (hb : (validN l[j] && !(decide (k = 2 ∧ e = 7 ∧ (l[j]).k ≠ 1))) = false) : validK k e l = false := by
  have h1 := validK_take k e l j h
  have h2 := validK_append k e (l.take (j + 1)) (l.drop (j + 1))
  rw [List.take_append_drop, h1, hb] at h2
  simpa using h2
end Go.Proofs.YtfigoblpkbpenaaDoor
