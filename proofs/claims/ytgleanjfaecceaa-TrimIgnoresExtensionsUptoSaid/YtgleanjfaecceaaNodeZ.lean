/- What lies in memory although new variables of the type Node, whose first cell is still zero, are written: for statements that make a variable and what is stored into it in any order. -/
import Derived.Test.YtgleanjfaecceaaNodeF
namespace Go.Proofs.Ytgleanjfaecceaa
open Go.ChangeShapes Go.WideShapes Go.ChangeAt Go.RowKit
set_option linter.unusedVariables false
set_option linter.unusedSimpArgs false

theorem Ri.agree {w W : World} {k : IntKind} {A : Option Addr} {zs : List Int} (h : Ri w k A zs) {N : Nat} (hw : ∀ q, q < N → W.heap[q]? = w.heap[q]?) (hN : w.heap.size ≤ N) : Ri W k A zs := by
  rcases h with rfl | ⟨b, off, rfl, h⟩
  · exact .inl rfl
  · refine .inr ⟨b, off, rfl, fun j hj => ?_⟩
    have hlt : b < w.heap.size := World.block_lt_of_cell? w ⟨b, off + j, none⟩ (h j hj)
    rw [World.cell?_of_block (w := w) (hw b (by omega))]
    exact h j hj
theorem NdR.agree {w W : World} {A : Option Addr} {c : Nat} {B : Option Addr} {c2 : Nat} {x : Nd} (h : NdR w A c B c2 x) {N : Nat} (hw : ∀ q, q < N → W.heap[q]? = w.heap[q]?) (hN : w.heap.size ≤ N) : NdR W A c B c2 x := by
  induction h with
  | mk k e n d ks A c B c2 FA Fc FB Fc2 hk he hn hd hby hdl hc hA hkl hc2 hB hcell hsub ih =>
    refine .mk k e n d ks A c B c2 FA Fc FB Fc2 hk he hn (hd.agree hw hN) hby hdl hc hA hkl hc2 hB ?_ ih
    rcases hcell with h | ⟨b, off, hBe, hcs⟩
    · exact .inl h
    · refine .inr ⟨b, off, hBe, fun j x hj => ?_⟩
      obtain ⟨h0, h1, h2, h3, h4⟩ := hcs j x hj
      have hlt : b < w.heap.size := World.block_lt_of_cell? w ⟨b, off + j * 5, none⟩ h0
      have hc := fun o => World.cell?_of_block (w := w) (a := ⟨b, o, none⟩) (hw b (by omega))
      exact ⟨(hc _).trans h0, (hc _).trans h1, (hc _).trans h2, (hc _).trans h3, (hc _).trans h4⟩

/-- the blocks that are no new variable of the type Node (of those from B on, such with another first cell than zero) -/
def OkB (B : Nat) (w : World) (k : Nat) : Prop := k < w.heap.size ∧ (k < B ∨ w.cell? ⟨k, 0, none⟩ ≠ some (.int .i64 0))
/-- P holds in each world that agrees with w on these blocks -/
def Rob (B : Nat) (w : World) (P : World → Prop) : Prop := ∀ W : World, (∀ k, OkB B w k → W.heap[k]? = w.heap[k]?) → P W
theorem Rob.now {B : Nat} {w : World} {P : World → Prop} (h : Rob B w P) : P w := h w fun _ _ => rfl
theorem Rob.on {B : Nat} {w w' : World} {P : World → Prop} (h : Rob B w P) (hb : Below w.heap.size w w') : Rob B w' P := fun W hW => h W fun k hk => by
  have e := hb.block k hk.1
  refine (hW k ⟨Nat.lt_of_lt_of_le hk.1 hb.size, ?_⟩).trans e
  rw [World.cell?_of_block (w := w) (a := ⟨k, 0, none⟩) e]
  exact hk.2
/-- a store into such a variable -/
theorem Rob.to {B : Nat} {w W : World} {P : World → Prop} (h : Rob B w P) {b : Nat} (hB : B ≤ b) (hz : w.cell? ⟨b, 0, none⟩ = some (.int .i64 0)) (hW : ∀ k, k ≠ b → W.heap[k]? = w.heap[k]?) : P W := h W fun k hk => hW k fun e => by
  subst e
  rcases hk.2 with h1 | h1
  · omega
  · exact h1 hz
theorem Rob.imp {B : Nat} {w : World} {P P2 : World → Prop} (h : Rob B w P) (hi : ∀ W, P W → P2 W) : Rob B w P2 := fun W hW => hi W (h W hW)
theorem Rob.and {B : Nat} {w : World} {P P2 : World → Prop} (h : Rob B w P) (h2 : Rob B w P2) : Rob B w fun W => P W ∧ P2 W := fun W hW => ⟨h W hW, h2 W hW⟩
/-- what lay there at the start -/
theorem rob_old {w : World} {A : Option Addr} {c : Nat} {B : Option Addr} {c2 : Nat} {x : Nd} (h : NdR w A c B c2 x) : Rob w.heap.size w fun W => NdR W A c B c2 x :=
  fun W hW => h.agree (fun q hq => hW q ⟨hq, .inl hq⟩) (Nat.le_refl _)
/-- a new block that is no such variable -/
theorem rob_new {B : Nat} (w : World) (cs : Array Value) (T : TypeId) (h0 : cs[0]? ≠ some (.int .i64 0)) : Rob B (w.alloc (.cells cs T)) fun W => ∀ o, W.cell? ⟨w.heap.size, o, none⟩ = cs[o]? := by
  intro W hW o
  have hc := blk_new w cs T
  rw [World.cell?_of_block (w := w.alloc (.cells cs T)) (a := ⟨w.heap.size, o, none⟩) (hW _ ⟨by simp, .inr (by rw [hc 0]; exact h0)⟩)]
  exact hc o
/-- v is the node x, whatever such variables are written -/
def NdZ (B : Nat) (x : Nd) : Fact := fun v w => ∃ A c B' c2, v = .agg #[.int .i64 x.k, .int .i64 x.e, .int .i64 x.n, .slice A x.d.length c, .slice B' x.ks.length c2] ∧ Rob B w fun W => NdR W A c B' c2 x
theorem stable_ndz (B : Nat) (x : Nd) : stable (NdZ B x) := by
  rintro v w w' ⟨A, c, B', c2, e, h⟩ hb
  exact ⟨A, c, B', c2, e, h.on hb⟩
def RowZ (B : Nat) (ts : List Nd) : Fact := fun v w => ∃ B' c, v = .slice B' ts.length c ∧ (Rob B w fun W => KsR W B' ts) ∧ ts.length ≤ c ∧ c ≤ maxLen ∧ (B' = none → c = 0)
theorem stable_rowz (B : Nat) (ts : List Nd) : stable (RowZ B ts) := by
  rintro v w w' ⟨B', c, e, h, r⟩ hb
  exact ⟨B', c, e, h.on hb, r⟩
def DatZ (B : Nat) (d : List Int) : Fact := fun v w => ∃ A c, v = .slice A d.length c ∧ (Rob B w fun W => Ri W .u8 A d) ∧ d.length ≤ c ∧ c ≤ maxLen ∧ (A = none → c = 0)
theorem stable_datz (B : Nat) (d : List Int) : stable (DatZ B d) := by
  rintro v w w' ⟨A, c, e, h, r⟩ hb
  exact ⟨A, c, e, h.on hb, r⟩
theorem row1_of {W : World} {b : Nat} {x : Nd} {A : Option Addr} {c : Nat} {B : Option Addr} {c2 : Nat} (h : NdR W A c B c2 x) (hc : ∀ o, W.cell? ⟨b, o, none⟩ = (#[.int .i64 x.k, .int .i64 x.e, .int .i64 x.n, .slice A x.d.length c, .slice B x.ks.length c2] : Array Value)[o]?) :
    KsR W (some ⟨b, 0, none⟩) [x] := by
  refine .inr ⟨_, 0, rfl, fun j hj => ?_⟩
  obtain rfl : j = 0 := by simp at hj; omega
  exact ⟨A, c, B, c2, hc _, hc _, hc _, hc _, hc _, h⟩
theorem row2_of {W : World} {b : Nat} {x y : Nd} {A : Option Addr} {c : Nat} {B : Option Addr} {c2 : Nat} {A1 : Option Addr} {c3 : Nat} {B1 : Option Addr} {c4 : Nat} (h : NdR W A c B c2 x) (h2 : NdR W A1 c3 B1 c4 y)
    (hc : ∀ o, W.cell? ⟨b, o, none⟩ = (#[.int .i64 x.k, .int .i64 x.e, .int .i64 x.n, .slice A x.d.length c, .slice B x.ks.length c2, .int .i64 y.k, .int .i64 y.e, .int .i64 y.n, .slice A1 y.d.length c3, .slice B1 y.ks.length c4] : Array Value)[o]?) :
    KsR W (some ⟨b, 0, none⟩) [x, y] := by
  refine .inr ⟨_, 0, rfl, fun j hj => ?_⟩
  match j, hj with
  | 0, _ => exact ⟨A, c, B, c2, hc _, hc _, hc _, hc _, hc _, h⟩
  | 1, _ => exact ⟨A1, c3, B1, c4, hc _, hc _, hc _, hc _, hc _, h2⟩
  | n + 2, h => simp at h; omega
theorem dat_of {W : World} {b : Nat} {zs : List Int} (hc : ∀ o, W.cell? ⟨b, o, none⟩ = ((zs.map (Value.int .u8)).toArray)[o]?) : Ri W .u8 (some ⟨b, 0, none⟩) zs := by
  refine .inr ⟨b, 0, rfl, fun j hj => ?_⟩
  rw [Nat.zero_add, hc j]
  simp [zat, List.getD_eq_getElem?_getD, hj]
end Go.Proofs.Ytgleanjfaecceaa
