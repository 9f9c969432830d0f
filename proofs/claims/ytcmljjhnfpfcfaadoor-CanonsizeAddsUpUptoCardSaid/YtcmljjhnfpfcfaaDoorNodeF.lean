/- Nodes that a function builds: a node of its data and its row of kids, and what lasts of such values. -/
import Derived.Test.YtcmljjhnfpfcfaaDoorNodeO
namespace Go.Proofs.YtcmljjhnfpfcfaaDoor
open Go.ChangeShapes Go.WideShapes Go.ChangeAt Go.RowKit
set_option linter.unusedVariables false
set_option linter.unusedSimpArgs false
set_option maxRecDepth 100000

/-- a node out of its parts -/
theorem KsR.node {w : World} {B : Option Addr} {ks : List Nd} (h : KsR w B ks) {k e n : Int} {d : List Int} {A : Option Addr} {c c2 : Nat}
    (hk : -9223372036854775808 ≤ k ∧ k ≤ 9223372036854775807) (he : -9223372036854775808 ≤ e ∧ e ≤ 9223372036854775807) (hn : -9223372036854775808 ≤ n ∧ n ≤ 9223372036854775807)
    (hd : Ri w .u8 A d) (hby : Bts d) (hdl : d.length ≤ c) (hc : c ≤ maxLen) (hA : A = none → c = 0) (hkl : ks.length ≤ c2) (hc2 : c2 ≤ maxLen) (hB : B = none → c2 = 0) : NdR w A c B c2 (.mk k e n d ks) := by
  rcases h with rfl | ⟨b, off, hBe, h⟩
  · exact .mk k e n d [] A c B c2 (fun _ => none) (fun _ => 0) (fun _ => none) (fun _ => 0) hk he hn hd hby hdl hc hA hkl hc2 hB (.inl rfl) (fun j x hx => by simp at hx)
  · refine .mk k e n d ks A c B c2 (fun j => if h0 : j < ks.length then Classical.choose (h j h0) else none) (fun j => if h0 : j < ks.length then Classical.choose (Classical.choose_spec (h j h0)) else 0)
      (fun j => if h0 : j < ks.length then Classical.choose (Classical.choose_spec (Classical.choose_spec (h j h0))) else none) (fun j => if h0 : j < ks.length then Classical.choose (Classical.choose_spec (Classical.choose_spec (Classical.choose_spec (h j h0)))) else 0)
      hk he hn hd hby hdl hc hA hkl hc2 hB (.inr ⟨b, off, hBe, fun j x hj => ?_⟩) (fun j x hj => ?_)
    · have hjl : j < ks.length := (List.getElem?_eq_some_iff.1 hj).1
      obtain rfl : ks[j] = x := (List.getElem?_eq_some_iff.1 hj).2
      have hs := Classical.choose_spec (Classical.choose_spec (Classical.choose_spec (Classical.choose_spec (h j hjl))))
      simp only [dif_pos hjl]
      exact ⟨hs.1, hs.2.1, hs.2.2.1, hs.2.2.2.1, hs.2.2.2.2.1⟩
    · have hjl : j < ks.length := (List.getElem?_eq_some_iff.1 hj).1
      obtain rfl : ks[j] = x := (List.getElem?_eq_some_iff.1 hj).2
      have hs := Classical.choose_spec (Classical.choose_spec (Classical.choose_spec (Classical.choose_spec (h j hjl))))
      simp only [dif_pos hjl]
      exact hs.2.2.2.2.2

/-- the value of a node -/
def fiveV (x : Nd) (A : Option Addr) (c : Nat) (B : Option Addr) (c2 : Nat) : Value := .agg #[.int .i64 x.k, .int .i64 x.e, .int .i64 x.n, .slice A x.d.length c, .slice B x.ks.length c2]
/-- v is the node x -/
def NdF (x : Nd) : Fact := fun v w => ∃ A c B c2, v = .agg #[.int .i64 x.k, .int .i64 x.e, .int .i64 x.n, .slice A x.d.length c, .slice B x.ks.length c2] ∧ NdR w A c B c2 x
theorem stable_ndf (x : Nd) : stable (NdF x) := by
  rintro v w w' ⟨A, c, B, c2, e, h⟩ hb
  exact ⟨A, c, B, c2, e, h.on hb (Nat.le_refl _)⟩
/-- v is a row of the nodes ts -/
def RowF (ts : List Nd) : Fact := fun v w => ∃ B c, v = .slice B ts.length c ∧ KsR w B ts ∧ ts.length ≤ c ∧ c ≤ maxLen ∧ (B = none → c = 0)
theorem stable_rowf (ts : List Nd) : stable (RowF ts) := by
  rintro v w w' ⟨B, c, e, h, r⟩ hb
  exact ⟨B, c, e, h.on hb (Nat.le_refl _), r⟩
/-- v is a row of the bytes d -/
def DatF (d : List Int) : Fact := fun v w => ∃ A c, v = .slice A d.length c ∧ Ri w .u8 A d ∧ d.length ≤ c ∧ c ≤ maxLen ∧ (A = none → c = 0)
theorem stable_datf (d : List Int) : stable (DatF d) := by
  rintro v w w' ⟨A, c, e, h, r⟩ hb
  exact ⟨A, c, e, h.below hb (Nat.le_refl _), r⟩

/-- a row of one or two nodes in a new block -/
theorem row1_new {w : World} {x : Nd} {A : Option Addr} {c : Nat} {B : Option Addr} {c2 : Nat} (h : NdR w A c B c2 x) (T : TypeId) :
    KsR (w.alloc (.cells #[.int .i64 x.k, .int .i64 x.e, .int .i64 x.n, .slice A x.d.length c, .slice B x.ks.length c2] T)) (some ⟨w.heap.size, 0, none⟩) [x] := by
  refine .inr ⟨_, 0, rfl, fun j hj => ?_⟩
  obtain rfl : j = 0 := by simp at hj; omega
  have hc := blk_new w #[.int .i64 x.k, .int .i64 x.e, .int .i64 x.n, .slice A x.d.length c, .slice B x.ks.length c2] T
  exact ⟨A, c, B, c2, hc _, hc _, hc _, hc _, hc _, h.on ((Below.refl _ _).alloc (Nat.le_refl _) _) (Nat.le_refl _)⟩
theorem row2_new {w : World} {x y : Nd} {A : Option Addr} {c : Nat} {B : Option Addr} {c2 : Nat} {A1 : Option Addr} {c3 : Nat} {B1 : Option Addr} {c4 : Nat} (h : NdR w A c B c2 x) (h2 : NdR w A1 c3 B1 c4 y) (T : TypeId) :
    KsR (w.alloc (.cells #[.int .i64 x.k, .int .i64 x.e, .int .i64 x.n, .slice A x.d.length c, .slice B x.ks.length c2, .int .i64 y.k, .int .i64 y.e, .int .i64 y.n, .slice A1 y.d.length c3, .slice B1 y.ks.length c4] T)) (some ⟨w.heap.size, 0, none⟩) [x, y] := by
  refine .inr ⟨_, 0, rfl, fun j hj => ?_⟩
  have hc := blk_new w #[.int .i64 x.k, .int .i64 x.e, .int .i64 x.n, .slice A x.d.length c, .slice B x.ks.length c2, .int .i64 y.k, .int .i64 y.e, .int .i64 y.n, .slice A1 y.d.length c3, .slice B1 y.ks.length c4] T
  have hb := (Below.refl w.heap.size w).alloc (Nat.le_refl _) (.cells #[.int .i64 x.k, .int .i64 x.e, .int .i64 x.n, .slice A x.d.length c, .slice B x.ks.length c2, .int .i64 y.k, .int .i64 y.e, .int .i64 y.n, .slice A1 y.d.length c3, .slice B1 y.ks.length c4] T)
  match j, hj with
  | 0, _ => exact ⟨A, c, B, c2, hc _, hc _, hc _, hc _, hc _, h.on hb (Nat.le_refl _)⟩
  | 1, _ => exact ⟨A1, c3, B1, c4, hc _, hc _, hc _, hc _, hc _, h2.on hb (Nat.le_refl _)⟩
  | n + 2, h => simp at h; omega
theorem nd0_here (w : World) (k : Int) (hk : -9223372036854775808 ≤ k ∧ k ≤ 9223372036854775807) : NdR w none 0 none 0 (.mk k 0 0 [] []) :=
  (show KsR w none [] from .inl rfl).node hk ⟨by decide, by decide⟩ ⟨by decide, by decide⟩ (Ri.nil _ _ _) (by intro z hz; cases hz) (by simp) (by unfold maxLen; omega) (fun _ => rfl) (by simp) (by unfold maxLen; omega) (fun _ => rfl)
/-- v is a pointer to a new variable of the type Node -/
def VarN (base : Nat) : Fact := fun v w => ∃ b, v = .pointer (some ⟨b, 0, none⟩) ∧ base ≤ b ∧ Blk w b #[.int .i64 0, .int .i64 0, .int .i64 0, .slice none 0 0, .slice none 0 0]
theorem stable_varn (base : Nat) : stable (VarN base) := by
  rintro v w w' ⟨b, e, h1, h2⟩ hb
  exact ⟨b, e, h1, h2.below hb⟩
theorem allN_atF {P : Nat → Prop} : ∀ {n s : Nat}, AllN P n s → ∀ j, s ≤ j → j < s + n → P j
  | 0, _, _, _, _, h => by omega
  | n + 1, s, h, j, h1, h2 => by
    by_cases e : s = j
    · subst e; exact h.1
    · exact allN_atF h.2 j (by omega) (by omega)
end Go.Proofs.YtcmljjhnfpfcfaaDoor
