/- The texts Ref14g, NodeF, NodeZ, NodeK, AppZ, TrimU (what is wanted of them), one after the other. -/
import Derived.Test.YtfigoblpkbpenaaDoorMg1
import Derived.Test.YtfigoblpkbpenaaDoorMg2
import Derived.Test.YtfigoblpkbpenaaDoorMg3
import Derived.Test.YtfigoblpkbpenaaDoorMg4
import Derived.Test.YtfigoblpkbpenaaDoorMg5
import Derived.Test.YtfigoblpkbpenaaDoorMg6
import Derived.Test.YtfigoblpkbpenaaDoorMg7
import Derived.Test.YtfigoblpkbpenaaDoorMg8
import Derived.Test.YtfigoblpkbpenaaDoorMg9
import Derived.Test.YtfigoblpkbpenaaDoorMg10
import Derived.Test.YtfigoblpkbpenaaDoorMg11
import Derived.Test.YtfigoblpkbpenaaDoorMg12
import Derived.Test.YtfigoblpkbpenaaDoorMg13
import Derived.Test.YtfigoblpkbpenaaDoorMg14
import Derived.Test.YtfigoblpkbpenaaDoorMg15
import Derived.Test.YtfigoblpkbpenaaDoorMg16
import Derived.Test.YtfigoblpkbpenaaDoorMg17
import Derived.Test.YtfigoblpkbpenaaDoorMg18
import Derived.Test.YtfigoblpkbpenaaDoorMg19
import Derived.Test.YtfigoblpkbpenaaDoorMg20
import Derived.Test.YtfigoblpkbpenaaDoorMg21
import Derived.Test.YtfigoblpkbpenaaDoorMg22
import Derived.Test.YtfigoblpkbpenaaDoorMg23
import Derived.Test.YtfigoblpkbpenaaDoorMg24
import Derived.Test.YtfigoblpkbpenaaDoorMg25
import Derived.Lib.AppendZerosOnto
/- The reference's Write: the canonical form. -/
namespace Go.Proofs.YtfigoblpkbpenaaDoor
open Go.ChangeShapes Go.WideShapes Go.ChangeAt Go.RowKit
set_option linter.unusedVariables false
set_option linter.unusedSimpArgs false
set_option maxRecDepth 100000

theorem place_one (x : Nd) : placeF [0] 0 x = writeF x := by
  unfold placeF writeF
  rfl
theorem ri_new14 (W : World) (q : Nat) (y : Int) (hq : q = W.heap.size) {T : TypeId} : Ri (W.alloc (.cells #[.int .u64 y] T)) .u64 (some ⟨q, 0, none⟩) [y] := hq ▸ Ri.lit W .u64 [y] T
set_option maxRecDepth 100000 in
theorem RefWrite14 (x : Nd) (A : Option Addr) (c : Nat) (B : Option Addr) (c2 : Nat) (w : World) (hx : NdR w A c B c2 x) (hv : validN x = true) (hs : sizeN x ≤ 1048576) (hC : canN x ≤ 536870910) :
    Calls Tryd.prog 11 #[.agg #[.int .i64 x.k, .int .i64 x.e, .int .i64 x.n, .slice A x.d.length c, .slice B x.ks.length c2]] w fun r w' => ∃ v, r = .returned v ∧ Holds w' v (writeF x) ∧ Below w.heap.size w w' := by
  have HX := Lib.hid hx
  have HB0 := Lib.hid (fun o1 o2 => ((Below.refl w.heap.size w).alloc (Nat.le_refl _) o1).alloc (by simp) o2)
  have HP := Lib.hid (fun w2 q (h2 : NdR w2 A c B c2 x) (hr : Ri w2 .u64 (some ⟨q, 0, none⟩) [0]) => RefPlace14 x [0] 0 (some ⟨q, 0, none⟩) 1 A c B c2 w2 h2 hv hs hr (fun h => by cases h) (by simp) (by unfold maxLen; omega) (by simp) rfl (by simp; omega))
  have HE := Lib.hid (place_one x)
  clear hx hv
  go_enter Tryd.func11, Tryd.ntmps11
  go_wp2_with fail
  refine (HP.out _ (w.heap.size + 1) (HX.out.on (HB0.out _ _) (Nat.le_refl _)) (ri_new14 _ _ 0 (by simp))).mono ?_
  rintro r w3 ⟨v, rfl, hh, hb⟩
  have HH := Lib.hid hh
  have HB := Lib.hid ((HB0.out (.cells #[.int .i64 x.k, .int .i64 x.e, .int .i64 x.n, .slice A x.d.length c, .slice B x.ks.length c2] 25) (.cells #[.int .u64 0] 32)).trans (hb.mono (by simp; omega)))
  clear hh hb
  go_wp2
  go_ret
  exact ⟨_, rfl, by rw [← HE.out]; exact HH.out, HB.out⟩
end Go.Proofs.YtfigoblpkbpenaaDoor

/- Nodes that a function builds: a node of its data and its row of kids, and what lasts of such values. -/
namespace Go.Proofs.YtfigoblpkbpenaaDoor
open Go.ChangeShapes Go.WideShapes Go.ChangeAt Go.RowKit
set_option linter.unusedVariables false
set_option linter.unusedSimpArgs false
set_option maxRecDepth 100000

/-- a node out of its parts -/
theorem KsR.node {w : World} {B : Option Addr} {ks : List Nd} (h : KsR w B ks) {k e n : Int} {d : List Int} {A : Option Addr} {c c2 : Nat}
    (hk : -9223372036854775808 ≤ k ∧ k ≤ 9223372036854775807) (he : -9223372036854775808 ≤ e ∧ e ≤ 9223372036854775807) (hn : -9223372036854775808 ≤ n ∧ n ≤ 9223372036854775807)
    (hd : Ri w .u8 A d) (hby : Bts d) (hdl : d.length ≤ c) (hc : c ≤ maxLen) (hA : A = none → c = 0) (hkl : ks.length ≤ c2) (hc2 : c2 ≤ maxLen) (hB : B = none → c2 = 0) : NdR w A c B c2 (.mk k e n d ks) := by
  rcases h with rfl | ⟨b, off, hBe, h⟩
  · exact .mk k e n d [] A c B c2 (fun _ => none) (fun _ => 0) (fun _ => none) (fun _ => 0) hk he hn hd hby hdl hc hA hkl hc2 hB (.inl rfl) (fun j x hx => by simp at hx)
  · refine .mk k e n d ks A c B c2 (fun j => if h0 : j < ks.length then Classical.choose (h j h0) else none) (fun j => if h0 : j < ks.length then Classical.choose (Classical.choose_spec (h j h0)) else 0)
      (fun j => if h0 : j < ks.length then Classical.choose (Classical.choose_spec (Classical.choose_spec (h j h0))) else none) (fun j => if h0 : j < ks.length then Classical.choose (Classical.choose_spec (Classical.choose_spec (Classical.choose_spec (h j h0)))) else 0)
      hk he hn hd hby hdl hc hA hkl hc2 hB (.inr ⟨b, off, hBe, fun j x hj => ?_⟩) (fun j x hj => ?_)
    · have hjl : j < ks.length := (List.getElem?_eq_some_iff.1 hj).1
      obtain rfl : ks[j] = x := (List.getElem?_eq_some_iff.1 hj).2
      have hs := Classical.choose_spec (Classical.choose_spec (Classical.choose_spec (Classical.choose_spec (h j hjl))))
      simp only [dif_pos hjl]
      exact ⟨hs.1, hs.2.1, hs.2.2.1, hs.2.2.2.1, hs.2.2.2.2.1⟩
    · have hjl : j < ks.length := (List.getElem?_eq_some_iff.1 hj).1
      obtain rfl : ks[j] = x := (List.getElem?_eq_some_iff.1 hj).2
      have hs := Classical.choose_spec (Classical.choose_spec (Classical.choose_spec (Classical.choose_spec (h j hjl))))
      simp only [dif_pos hjl]
      exact hs.2.2.2.2.2

/-- a row of one or two nodes in a new block -/
theorem row1_new {w : World} {x : Nd} {A : Option Addr} {c : Nat} {B : Option Addr} {c2 : Nat} (h : NdR w A c B c2 x) (T : TypeId) :
    KsR (w.alloc (.cells #[.int .i64 x.k, .int .i64 x.e, .int .i64 x.n, .slice A x.d.length c, .slice B x.ks.length c2] T)) (some ⟨w.heap.size, 0, none⟩) [x] := by
  refine .inr ⟨_, 0, rfl, fun j hj => ?_⟩
  obtain rfl : j = 0 := by simp at hj; omega
  have hc := blk_new w #[.int .i64 x.k, .int .i64 x.e, .int .i64 x.n, .slice A x.d.length c, .slice B x.ks.length c2] T
  exact ⟨A, c, B, c2, hc _, hc _, hc _, hc _, hc _, h.on ((Below.refl _ _).alloc (Nat.le_refl _) _) (Nat.le_refl _)⟩
theorem row2_new {w : World} {x y : Nd} {A : Option Addr} {c : Nat} {B : Option Addr} {c2 : Nat} {A1 : Option Addr} {c3 : Nat} {B1 : Option Addr} {c4 : Nat} (h : NdR w A c B c2 x) (h2 : NdR w A1 c3 B1 c4 y) (T : TypeId) :
    KsR (w.alloc (.cells #[.int .i64 x.k, .int .i64 x.e, .int .i64 x.n, .slice A x.d.length c, .slice B x.ks.length c2, .int .i64 y.k, .int .i64 y.e, .int .i64 y.n, .slice A1 y.d.length c3, .slice B1 y.ks.length c4] T)) (some ⟨w.heap.size, 0, none⟩) [x, y] := by
  refine .inr ⟨_, 0, rfl, fun j hj => ?_⟩
  have hc := blk_new w #[.int .i64 x.k, .int .i64 x.e, .int .i64 x.n, .slice A x.d.length c, .slice B x.ks.length c2, .int .i64 y.k, .int .i64 y.e, .int .i64 y.n, .slice A1 y.d.length c3, .slice B1 y.ks.length c4] T
  have hb := (Below.refl w.heap.size w).alloc (Nat.le_refl _) (.cells #[.int .i64 x.k, .int .i64 x.e, .int .i64 x.n, .slice A x.d.length c, .slice B x.ks.length c2, .int .i64 y.k, .int .i64 y.e, .int .i64 y.n, .slice A1 y.d.length c3, .slice B1 y.ks.length c4] T)
  match j, hj with
  | 0, _ => exact ⟨A, c, B, c2, hc _, hc _, hc _, hc _, hc _, h.on hb (Nat.le_refl _)⟩
  | 1, _ => exact ⟨A1, c3, B1, c4, hc _, hc _, hc _, hc _, hc _, h2.on hb (Nat.le_refl _)⟩
  | n + 2, h => simp at h; omega
theorem nd0_here (w : World) (k : Int) (hk : -9223372036854775808 ≤ k ∧ k ≤ 9223372036854775807) : NdR w none 0 none 0 (.mk k 0 0 [] []) :=
  (show KsR w none [] from .inl rfl).node hk ⟨by decide, by decide⟩ ⟨by decide, by decide⟩ (Ri.nil _ _ _) (by intro z hz; cases hz) (by simp) (by unfold maxLen; omega) (fun _ => rfl) (by simp) (by unfold maxLen; omega) (fun _ => rfl)
theorem allN_atF {P : Nat → Prop} : ∀ {n s : Nat}, AllN P n s → ∀ j, s ≤ j → j < s + n → P j
  | 0, _, _, _, _, h => by omega
  | n + 1, s, h, j, h1, h2 => by
    by_cases e : s = j
    · subst e; exact h.1
    · exact allN_atF h.2 j (by omega) (by omega)
end Go.Proofs.YtfigoblpkbpenaaDoor

/- What lies in memory although new variables of the type Node, whose first cell is still zero, are written: for statements that make a variable and what is stored into it in any order. -/
namespace Go.Proofs.YtfigoblpkbpenaaDoor
open Go.ChangeShapes Go.WideShapes Go.ChangeAt Go.RowKit
set_option linter.unusedVariables false
set_option linter.unusedSimpArgs false
set_option maxRecDepth 100000

theorem Ri.agree {w W : World} {k : IntKind} {A : Option Addr} {zs : List Int} (h : Ri w k A zs) {N : Nat} (hw : ∀ q, q < N → W.heap[q]? = w.heap[q]?) (hN : w.heap.size ≤ N) : Ri W k A zs := by
  rcases h with rfl | ⟨b, off, rfl, h⟩
  · exact .inl rfl
  · refine .inr ⟨b, off, rfl, fun j hj => ?_⟩
    have hlt : b < w.heap.size := World.block_lt_of_cell? w ⟨b, off + j, none⟩ (h j hj)
    rw [World.cell?_of_block (w := w) (hw b (by omega))]
    exact h j hj
theorem NdR.agree {w W : World} {A : Option Addr} {c : Nat} {B : Option Addr} {c2 : Nat} {x : Nd} (h : NdR w A c B c2 x) {N : Nat} (hw : ∀ q, q < N → W.heap[q]? = w.heap[q]?) (hN : w.heap.size ≤ N) : NdR W A c B c2 x := by
  induction h with
  | mk k e n d ks A c B c2 FA Fc FB Fc2 hk he hn hd hby hdl hc hA hkl hc2 hB hcell hsub ih =>
    refine .mk k e n d ks A c B c2 FA Fc FB Fc2 hk he hn (hd.agree hw hN) hby hdl hc hA hkl hc2 hB ?_ ih
    rcases hcell with h | ⟨b, off, hBe, hcs⟩
    · exact .inl h
    · refine .inr ⟨b, off, hBe, fun j x hj => ?_⟩
      obtain ⟨h0, h1, h2, h3, h4⟩ := hcs j x hj
      have hlt : b < w.heap.size := World.block_lt_of_cell? w ⟨b, off + j * 5, none⟩ h0
      have hc := fun o => World.cell?_of_block (w := w) (a := ⟨b, o, none⟩) (hw b (by omega))
      exact ⟨(hc _).trans h0, (hc _).trans h1, (hc _).trans h2, (hc _).trans h3, (hc _).trans h4⟩

/-- the blocks that are no new variable of the type Node (of those from B on, such with another first cell than zero) -/
def OkB (B : Nat) (w : World) (k : Nat) : Prop := k < w.heap.size ∧ (k < B ∨ w.cell? ⟨k, 0, none⟩ ≠ some (.int .i64 0))
/-- P holds in each world that agrees with w on these blocks -/
def Rob (B : Nat) (w : World) (P : World → Prop) : Prop := ∀ W : World, (∀ k, OkB B w k → W.heap[k]? = w.heap[k]?) → P W
theorem Rob.on {B : Nat} {w w' : World} {P : World → Prop} (h : Rob B w P) (hb : Below w.heap.size w w') : Rob B w' P := fun W hW => h W fun k hk => by
  have e := hb.block k hk.1
  refine (hW k ⟨Nat.lt_of_lt_of_le hk.1 hb.size, ?_⟩).trans e
  rw [World.cell?_of_block (w := w) (a := ⟨k, 0, none⟩) e]
  exact hk.2
/-- a store into such a variable -/
theorem Rob.to {B : Nat} {w W : World} {P : World → Prop} (h : Rob B w P) {b : Nat} (hB : B ≤ b) (hz : w.cell? ⟨b, 0, none⟩ = some (.int .i64 0)) (hW : ∀ k, k ≠ b → W.heap[k]? = w.heap[k]?) : P W := h W fun k hk => hW k fun e => by
  subst e
  rcases hk.2 with h1 | h1
  · omega
  · exact h1 hz
theorem Rob.and {B : Nat} {w : World} {P P2 : World → Prop} (h : Rob B w P) (h2 : Rob B w P2) : Rob B w fun W => P W ∧ P2 W := fun W hW => ⟨h W hW, h2 W hW⟩
end Go.Proofs.YtfigoblpkbpenaaDoor

/- Rows of the call's own of nodes that came in: 'append([]Node{}, a...)' as an operation that makes memory, and one node more. -/
namespace Go.Proofs.YtfigoblpkbpenaaDoor
open Go.ChangeShapes Go.WideShapes Go.ChangeAt Go.RowKit
set_option linter.unusedVariables false
set_option linter.unusedSimpArgs false
set_option maxRecDepth 100000

theorem OwnK.below {W0 w w' : World} {base : Nat} {v : Value} {ts : List Nd} (h : OwnK W0 w base v ts) {N : Nat} (hb : Below N w w') (hN : w.heap.size ≤ N) : OwnK W0 w' base v ts := by
  obtain ⟨vs, h1, h2⟩ := h
  exact ⟨vs, ownsRow_below h1 hb hN, h2⟩
theorem OwnK.far {W0 w : World} {base : Nat} {v : Value} {ts : List Nd} (h : OwnK W0 w base v ts) {p : Addr} (hp : p.block < base) (u : Value) : OwnK W0 (w.setCell p u) base v ts := by
  obtain ⟨vs, h1, h2⟩ := h
  exact ⟨vs, ownsRow_setCell_below h1 hp u, h2⟩
end Go.Proofs.YtfigoblpkbpenaaDoor

/- 'append(s, make([]T, k)...)' onto a row of the call's own: k zero values behind it (k may be 0, there may be room or none). -/
namespace Go.Proofs.YtfigoblpkbpenaaDoor
open Go.ChangeShapes Go.WideShapes Go.ChangeAt Go.RowKit
set_option linter.unusedVariables false
set_option linter.unusedSimpArgs false
set_option maxRecDepth 100000

theorem zeroCells_get {z : Array Value} {k s j : Nat} (hs : z.size = s) (hj : j < k * s) : (Builtin.zeroCells z k).toList[j]? = z[j % s]? := by
  have hp : 0 < s := Nat.pos_of_ne_zero fun h => by subst h; omega
  have hm : j % s < z.size := by rw [hs]; exact Nat.mod_lt _ hp
  simp [Builtin.zeroCells, hs, hj, hm, getElem!_pos]
  rw [getElem!_pos z (j % s) hm, Array.getElem?_eq_getElem hm]

end Go.Proofs.YtfigoblpkbpenaaDoor

/- A result that may be written into: the blocks of a node that a call gave (within its range, not frozen); bytes and rows that kids may share, under stores. -/
namespace Go.Proofs.YtfigoblpkbpenaaDoor
open Go.ChangeShapes Go.WideShapes Go.ChangeAt Go.RowKit
set_option linter.unusedVariables false
set_option linter.unusedSimpArgs false
set_option maxRecDepth 100000

/-- the block at A may be written into -/
def Unf (w : World) (A : Option Addr) : Prop := ∀ b off, A = some ⟨b, off, none⟩ → ∀ o, w.frozen? ⟨b, o, none⟩ = false
/-- a world whose block b is gone -/
def gone (w : World) (b : Nat) : World := { w with heap := w.heap.setIfInBounds b (.cells #[] 0) }
theorem gone_heap (w : World) (b k : Nat) (h : k ≠ b) : (gone w b).heap[k]? = w.heap[k]? := by
  unfold gone
  rw [Array.getElem?_setIfInBounds_ne (by omega)]
theorem gone_cell (w : World) (b o : Nat) : (gone w b).cell? ⟨b, o, none⟩ = none := by
  unfold gone World.cell?
  by_cases h : b < w.heap.size
  · simp [h]
  · simp [Array.getElem?_eq_none (Nat.le_of_not_lt h), h]
theorem NdO.data {lo hi : Nat} {w : World} {A : Option Addr} {c : Nat} {B : Option Addr} {c2 : Nat} {x : Nd} (h : NdO lo hi w A c B c2 x) (h0 : 0 < x.d.length) : ∃ b off, A = some ⟨b, off, none⟩ ∧ lo ≤ b ∧ b < hi := by
  obtain ⟨k, e, n, d, ks⟩ := x
  obtain ⟨b, off, hA, hc⟩ := h.nd.open.2.2.2.1.at (i := 0) h0
  refine ⟨b, off, hA, Classical.byContradiction fun hn => ?_⟩
  have h1 := h (gone w b) (fun k hk1 hk2 => gone_heap w b k (fun e => hn (e ▸ ⟨hk1, hk2⟩)))
  obtain ⟨b', off', hA', hc'⟩ := h1.open.2.2.2.1.at (i := 0) h0
  rw [hA] at hA'
  injection hA' with e
  injection e with e1 e2
  subst e1
  have := hc' 0 h0
  rw [gone_cell] at this
  cases this
theorem NdO.row {lo hi : Nat} {w : World} {A : Option Addr} {c : Nat} {B : Option Addr} {c2 : Nat} {x : Nd} (h : NdO lo hi w A c B c2 x) {j : Nat} (hj : j < x.ks.length) : ∃ b off, B = some ⟨b, off, none⟩ ∧ lo ≤ b ∧ b < hi := by
  obtain ⟨b, off, A', c', B', c2', hB, h0, -⟩ := h.nd.kidsX.1.at hj
  refine ⟨b, off, hB, Classical.byContradiction fun hn => ?_⟩
  have h1 := h (gone w b) (fun k hk1 hk2 => gone_heap w b k (fun e => hn (e ▸ ⟨hk1, hk2⟩)))
  obtain ⟨b', off', _, _, _, _, hB', h0', -⟩ := h1.kidsX.1.at hj
  rw [hB] at hB'
  injection hB' with e
  injection e with e1 e2
  subst e1
  rw [gone_cell] at h0'
  cases h0'
/-- n bytes at A, in a block from base to top that may be written into -/
def Byt (w : World) (base top : Nat) (A : Option Addr) (n : Nat) : Prop := n = 0 ∨ ∃ b off, A = some ⟨b, off, none⟩ ∧ base ≤ b ∧ b < top ∧ (∀ o, w.frozen? ⟨b, o, none⟩ = false) ∧ ∀ j, j < n → ∃ z : Int, 0 ≤ z ∧ z < 256 ∧ w.cell? ⟨b, off + j, none⟩ = some (.int .u8 z)
/-- the rows of the kids from i on: their slices of bytes are FA, FL, FC -/
def Rws (w : World) (base top b off : Nat) (FA : Nat → Option Addr) (FL FC : Nat → Nat) (i kl : Nat) : Prop := base ≤ b ∧ b < top ∧ (∀ o, w.frozen? ⟨b, o, none⟩ = false) ∧ ∀ j, i ≤ j → j < kl → (∃ k e n : Int, ∃ B l c, w.cell? ⟨b, off + j * 5, none⟩ = some (.int .i64 k) ∧ w.cell? ⟨b, off + j * 5 + 1, none⟩ = some (.int .i64 e) ∧ w.cell? ⟨b, off + j * 5 + 2, none⟩ = some (.int .i64 n) ∧
  w.cell? ⟨b, off + j * 5 + 3, none⟩ = some (.slice (FA j) (FL j) (FC j)) ∧ w.cell? ⟨b, off + j * 5 + 4, none⟩ = some (.slice B l c)) ∧ FL j ≤ FC j ∧ FC j ≤ 9223372036854775807 ∧ Byt w base top (FA j) (FL j)

theorem cell_same {w : World} {p : Addr} {u v : Value} (h : w.cell? p = some u) : (w.setCell p v).cell? p = some v := World.cell?_setCell_same' _ _ _ (by rw [h]; rfl)
theorem cell_diff {w : World} {p q : Addr} {v : Value} (h : p ≠ q) : (w.setCell p v).cell? q = w.cell? q := World.cell?_setCell_other w p q v h

theorem Byt.put {w : World} {base top n : Nat} {A : Option Addr} (h : Byt w base top A n) {p : Addr} {z z' : Int} (hp : w.cell? p = some (.int .u8 z)) (h0 : 0 ≤ z') (h1 : z' < 256) : Byt (w.setCell p (.int .u8 z')) base top A n := by
  rcases h with h | ⟨b, off, hA, hb, ht, hf, hc⟩
  · exact .inl h
  · refine .inr ⟨b, off, hA, hb, ht, fun o => by rw [World.frozen?_setCell]; exact hf o, fun j hj => ?_⟩
    by_cases e : p = ⟨b, off + j, none⟩
    · subst e
      exact ⟨z', h0, h1, cell_same hp⟩
    · obtain ⟨y, h2, h3, h4⟩ := hc j hj
      exact ⟨y, h2, h3, by rw [cell_diff e]; exact h4⟩
theorem Byt.far {w : World} {base top n : Nat} {A : Option Addr} (h : Byt w base top A n) {p : Addr} {u v : Value} (hp : w.cell? p = some u) (hu : ∀ z, u ≠ .int .u8 z) : Byt (w.setCell p v) base top A n := by
  rcases h with h | ⟨b, off, hA, hb, ht, hf, hc⟩
  · exact .inl h
  · refine .inr ⟨b, off, hA, hb, ht, fun o => by rw [World.frozen?_setCell]; exact hf o, fun j hj => ?_⟩
    obtain ⟨y, h2, h3, h4⟩ := hc j hj
    have e : p ≠ ⟨b, off + j, none⟩ := by
      intro e
      subst e
      rw [h4] at hp
      injection hp with hp
      exact hu _ hp.symm
    exact ⟨y, h2, h3, by rw [cell_diff e]; exact h4⟩
theorem Rws.put {w : World} {base top b off i kl : Nat} {FA : Nat → Option Addr} {FL FC : Nat → Nat} (h : Rws w base top b off FA FL FC i kl) {p : Addr} {z z' : Int} (hp : w.cell? p = some (.int .u8 z)) (h0 : 0 ≤ z') (h1 : z' < 256) : Rws (w.setCell p (.int .u8 z')) base top b off FA FL FC i kl := by
  obtain ⟨g1, g2, g3, g4⟩ := h
  refine ⟨g1, g2, fun o => by rw [World.frozen?_setCell]; exact g3 o, fun j hi hj => ?_⟩
  obtain ⟨⟨k, e, n, B, l, c, k0, k1, k2, k3, k4⟩, l1, l2, hb⟩ := g4 j hi hj
  have hd : ∀ q u, w.cell? q = some u → (∀ z, u ≠ .int .u8 z) → (w.setCell p (.int .u8 z')).cell? q = some u := by
    intro q u hq hu
    rw [cell_diff (fun e => by subst e; rw [hp] at hq; injection hq with hq; exact hu _ hq.symm), hq]
  exact ⟨⟨k, e, n, B, l, c, hd _ _ k0 (fun z h => by cases h), hd _ _ k1 (fun z h => by cases h), hd _ _ k2 (fun z h => by cases h), hd _ _ k3 (fun z h => by cases h), hd _ _ k4 (fun z h => by cases h)⟩, l1, l2, hb.put hp h0 h1⟩
/-- a store into a cell of row i that holds no byte -/
theorem Rws.cell {w : World} {base top b off i kl o : Nat} {FA : Nat → Option Addr} {FL FC : Nat → Nat} (h : Rws w base top b off FA FL FC (i + 1) kl) (ho : o < 5) {u v : Value} (hp : w.cell? ⟨b, off + i * 5 + o, none⟩ = some u) (hu : ∀ z, u ≠ .int .u8 z) : Rws (w.setCell ⟨b, off + i * 5 + o, none⟩ v) base top b off FA FL FC (i + 1) kl := by
  obtain ⟨g1, g2, g3, g4⟩ := h
  refine ⟨g1, g2, fun o => by rw [World.frozen?_setCell]; exact g3 o, fun j hi hj => ?_⟩
  obtain ⟨⟨k, e, n, B, l, c, k0, k1, k2, k3, k4⟩, l1, l2, hb⟩ := g4 j hi hj
  have hd : ∀ q, off + i * 5 + o < q → (w.setCell ⟨b, off + i * 5 + o, none⟩ v).cell? ⟨b, q, none⟩ = w.cell? ⟨b, q, none⟩ := by
    intro q hq
    exact cell_diff (fun e => by injection e with e1 e2; omega)
  exact ⟨⟨k, e, n, B, l, c, by rw [hd _ (by omega)]; exact k0, by rw [hd _ (by omega)]; exact k1, by rw [hd _ (by omega)]; exact k2, by rw [hd _ (by omega)]; exact k3, by rw [hd _ (by omega)]; exact k4⟩, l1, l2, hb.far hp hu⟩
/-- row i is written anew -/
theorem Rws.next {w : World} {base top b off i kl : Nat} {FA : Nat → Option Addr} {FL FC : Nat → Nat} (h : Rws w base top b off FA FL FC i kl) (hi : i < kl) (v0 v1 v2 : Int) (A3 : Option Addr) (l3 c3 : Nat) (v4 : Value) :
    Rws (((((w.setCell ⟨b, off + i * 5, none⟩ (.int .i64 v0)).setCell ⟨b, off + i * 5 + 1, none⟩ (.int .i64 v1)).setCell ⟨b, off + i * 5 + 2, none⟩ (.int .i64 v2)).setCell ⟨b, off + i * 5 + 3, none⟩ (.slice A3 l3 c3)).setCell ⟨b, off + i * 5 + 4, none⟩ v4) base top b off FA FL FC (i + 1) kl := by
  obtain ⟨⟨k, e, n, B, l, c, k0, k1, k2, k3, k4⟩, -, -, -⟩ := h.2.2.2 i (Nat.le_refl _) hi
  have h1 : Rws w base top b off FA FL FC (i + 1) kl := ⟨h.1, h.2.1, h.2.2.1, fun j hj => h.2.2.2 j (by omega)⟩
  have d : ∀ (w : World) (p q : Nat) v, p ≠ q → (w.setCell ⟨b, p, none⟩ v).cell? ⟨b, q, none⟩ = w.cell? ⟨b, q, none⟩ := fun w p q v hpq => cell_diff (fun e => by injection e with e1 e2; exact hpq e2)
  refine (((((h1.cell (o := 0) (by omega) k0 (fun z h => by cases h)).cell (o := 1) (u := .int .i64 e) (by omega) ?_ (fun z h => by cases h)).cell (o := 2) (u := .int .i64 n) (by omega) ?_ (fun z h => by cases h)).cell (o := 3) (u := .slice (FA i) (FL i) (FC i)) (by omega) ?_ (fun z h => by cases h)).cell (o := 4) (u := .slice B l c) (by omega) ?_ (fun z h => by cases h))
  · rw [d _ _ _ _ (by omega)]; exact k1
  · rw [d _ _ _ _ (by omega), d _ _ _ _ (by omega)]; exact k2
  · rw [d _ _ _ _ (by omega), d _ _ _ _ (by omega), d _ _ _ _ (by omega)]; exact k3
  · rw [d _ _ _ _ (by omega), d _ _ _ _ (by omega), d _ _ _ _ (by omega), d _ _ _ _ (by omega)]; exact k4
/-- the bytes and rows of a node that a call gave -/
theorem NdO.byt {lo hi : Nat} {w : World} {A : Option Addr} {c : Nat} {B : Option Addr} {c2 : Nat} {x : Nd} (h : NdO lo hi w A c B c2 x) (hU : Unf w A) : Byt w lo hi A x.d.length := by
  by_cases h0 : x.d.length = 0
  · exact .inl h0
  obtain ⟨b, off, hA, h1, h2⟩ := h.data (by omega)
  obtain ⟨k, e, n, d, ks⟩ := x
  have hb := h.nd.open.2.2.2.2.1
  obtain ⟨b', off', hA', hc⟩ := h.nd.open.2.2.2.1.at (i := 0) (by simp only [Nd.d] at h0; omega)
  rw [hA] at hA'
  injection hA' with e
  injection e with e1 e2
  subst e1 e2
  exact .inr ⟨b, off, hA, h1, h2, hU b off hA, fun j hj => ⟨zat d j, (hb.at j).1, (hb.at j).2, hc j hj⟩⟩
theorem Byt.below {w w' : World} {base top n N : Nat} {A : Option Addr} (h : Byt w base top A n) (hb : Below N w w') (hN : top ≤ N) : Byt w' base top A n := by
  rcases h with h | ⟨b, off, hA, h1, h2, hf, hc⟩
  · exact .inl h
  · refine .inr ⟨b, off, hA, h1, h2, fun o => ?_, fun j hj => ?_⟩
    · rw [hb.frozen (p := ⟨b, o, none⟩) (by show b < N; omega)]; exact hf o
    · obtain ⟨z, z0, z1, hz⟩ := hc j hj
      exact ⟨z, z0, z1, by rw [hb.cell (p := ⟨b, off + j, none⟩) (by show b < N; omega)]; exact hz⟩
theorem Rws.below {w w' : World} {base top b off i kl N : Nat} {FA : Nat → Option Addr} {FL FC : Nat → Nat} (h : Rws w base top b off FA FL FC i kl) (hb : Below N w w') (hN : top ≤ N) : Rws w' base top b off FA FL FC i kl := by
  obtain ⟨g1, g2, g3, g4⟩ := h
  refine ⟨g1, g2, fun o => by rw [hb.frozen (p := ⟨b, o, none⟩) (by show b < N; omega)]; exact g3 o, fun j hi hj => ?_⟩
  obtain ⟨⟨k, e, n, B, l, c, k0, k1, k2, k3, k4⟩, l1, l2, hbt⟩ := g4 j hi hj
  have hc := fun o => hb.cell (p := ⟨b, o, none⟩) (by show b < N; omega)
  exact ⟨⟨k, e, n, B, l, c, (hc _).trans k0, (hc _).trans k1, (hc _).trans k2, (hc _).trans k3, (hc _).trans k4⟩, l1, l2, hbt.below hb hN⟩
end Go.Proofs.YtfigoblpkbpenaaDoor
