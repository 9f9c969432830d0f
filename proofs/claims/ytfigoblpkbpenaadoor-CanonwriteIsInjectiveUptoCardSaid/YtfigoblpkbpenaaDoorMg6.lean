/- The texts OpenN, Tab, TabL, TrimN, TrimN2, TrimN3, Can (what is wanted of them), one after the other. -/
import Derived.Test.YtfigoblpkbpenaaDoorMg1
import Derived.Test.YtfigoblpkbpenaaDoorMg2
import Derived.Test.YtfigoblpkbpenaaDoorMg3
import Derived.Test.YtfigoblpkbpenaaDoorMg4
import Derived.Test.YtfigoblpkbpenaaDoorMg5
import Derived.Test.YtfigoblpkbpenaaDoorRows
import Derived.WalkSpells
import Derived.Test.YtfigoblpkbpenaaDoorCards
import Derived.Test.YtfigoblpkbpenaaDoorTie
import Derived.WalkKit
import Derived.ProofKit
import Derived.OpenShut
import Derived.Deep.DeepHandedRow
import Derived.Lib.LaidTab
/- How a node that came in is opened. -/
namespace Go.Proofs.YtfigoblpkbpenaaDoor
open Go.ChangeShapes Go.WideShapes Go.ChangeAt Go.RowKit
set_option linter.unusedVariables false
set_option linter.unusedSimpArgs false
set_option maxRecDepth 100000

theorem bulk_one {H : Type} (d : DataW H) : 1 ≤ Rows.uptoBulk d := by
  cases d with
  | lit l => cases l <;> simp [Rows.uptoBulk]
  | nil => simp [Rows.uptoBulk]
  | ptr d => simp [Rows.uptoBulk]
  | slice elems spare => simp [Rows.uptoBulk]
  | agg parts => simp [Rows.uptoBulk]
  | iface t d => simp [Rows.uptoBulk]
  | map entries => simp [Rows.uptoBulk]
  | held h => simp [Rows.uptoBulk]
theorem bulk_len {H : Type} (l : List (DataW H)) : l.length ≤ Rows.uptoBulkAll l := by
  induction l with
  | nil => simp [Rows.uptoBulkAll]
  | cons x r ih => have := bulk_one x; simp only [Rows.uptoBulkAll, List.length_cons]; omega

/-- nodes and their readings, one by one -/
theorem bulk_nodes {H : Type} : ∀ (l : List (DataW H)) (ks : List Nd), l.length = ks.length → (∀ j (h1 : j < l.length) (h2 : j < ks.length), sizeN ks[j] ≤ Rows.uptoBulk l[j]) → sizeK ks ≤ Rows.uptoBulkAll l
  | [], [], _, _ => by simp [sizeK, Rows.uptoBulkAll]
  | [], y :: ys, h, _ => by simp at h
  | x :: xs, [], h, _ => by simp at h
  | x :: xs, y :: ys, h, hh => by
    have h0 := hh 0 (by simp) (by simp)
    have h1 := bulk_nodes xs ys (by simpa using h) (fun j a b => by
      have := hh (j + 1) (by simp; omega) (by simp; omega)
      simpa using this)
    simp only [List.getElem_cons_zero] at h0
    simp only [sizeK, Rows.uptoBulkAll]
    omega

theorem node_cells : Tryd.prog.cellsOf 25 = 5 := by kernel_rfl
theorem list5 {α : Type} {l : List α} (h : l.length = 5) : ∃ a b c d e, l = [a, b, c, d, e] := by
  match l, h with
  | [a, b, c, d, e], _ => exact ⟨a, b, c, d, e, rfl⟩

theorem open_node {H : Type} {enc : TypeId × Value → H} {w : World} {base : Nat} {held : Bool} : ∀ (fuel : Nat) (cs : List Value) (x : DataW H × List MemPlace),
    DataW.trod enc Tryd.prog w base (fun _ => true) held fuel 25 cs = some x → ∃ A c B c2 nd, cs = fiveC nd A c B c2 ∧ NdR w A c B c2 nd ∧ sizeN nd ≤ Rows.uptoBulk x.1 := by
  intro fuel
  induction fuel using Nat.strongRecOn with
  | _ fuel ih =>
    intro cs x h
    obtain ⟨xs, n, rfl, rfl, hlen, hxl, hg⟩ := DataW.trod_struct Tryd.underlying25 h
    rw [node_cells] at hlen
    obtain ⟨v0, v1, v2, v3, v4, rfl⟩ := list5 hlen
    obtain ⟨x0, x1, x2, x3, x4, rfl⟩ := list5 (l := xs) hxl
    have c0 : Tryd.prog.cellsOf 3 = 1 := by kernel_rfl
    have c3 : Tryd.prog.cellsOf 22 = 1 := by kernel_rfl
    have c4 : Tryd.prog.cellsOf 23 = 1 := by kernel_rfl
    have g0 : DataW.trod enc Tryd.prog w base (fun _ => true) held n 3 [v0] = some x0 := by have := hg 0 _ rfl; simpa [c0] using this
    have g1 : DataW.trod enc Tryd.prog w base (fun _ => true) held n 3 [v1] = some x1 := by have := hg 1 _ rfl; simpa [c0] using this
    have g2 : DataW.trod enc Tryd.prog w base (fun _ => true) held n 3 [v2] = some x2 := by have := hg 2 _ rfl; simpa [c0] using this
    have g3 : DataW.trod enc Tryd.prog w base (fun _ => true) held n 22 [v3] = some x3 := by have := hg 3 _ rfl; simpa [c3] using this
    have g4 : DataW.trod enc Tryd.prog w base (fun _ => true) held n 23 [v4] = some x4 := by have := hg 4 _ rfl; simpa [c4] using this
    clear hg h hlen hxl
    obtain ⟨k, hk, rfl, wk⟩ := DataW.trod_int Tryd.underlying3 g0
    obtain ⟨e, he, rfl, we⟩ := DataW.trod_int Tryd.underlying3 g1
    obtain ⟨m, hm, rfl, wm⟩ := DataW.trod_int Tryd.underlying3 g2
    obtain rfl : v0 = .int .i64 k := by simpa using hk
    obtain rfl : v1 = .int .i64 e := by simpa using he
    obtain rfl : v2 = .int .i64 m := by simpa using hm
    have wk := of_wf_i64 wk
    have we := of_wf_i64 we
    have wm := of_wf_i64 wm
    clear g0 g1 g2 hk he hm
    -- the data
    have hdata : ∃ A len c d, v3 = .slice A len c ∧ Row .u8 w A len c d ∧ d.length + 1 ≤ Rows.uptoBulk x3.1 := by
      rcases open_ints Tryd.underlying22 Tryd.underlying5 (by kernel_rfl) g3 with ⟨hcs, rfl⟩ | ⟨a, len, cap, zs, hcs, hb, hl, hcm, hz, rfl, hcell, hwz⟩
      · exact ⟨none, 0, 0, [], by simpa using hcs, Row.none, by simp [Rows.uptoBulk]⟩
      · rw [if_pos rfl] at hz
        exact ⟨some a, len, cap, zs.take len, by simpa using hcs, Row.some hl hcm hz hcell hwz, by
          have h1 := bulk_len (lits (H := H) IntKind.u8 (zs.take len))
          have h2 : (lits (H := H) IntKind.u8 (zs.take len)).length = (zs.take len).length := by simp [lits]
          simp only [Rows.uptoBulk]
          omega⟩
    obtain ⟨A, len, c, d, rfl, hrow, hbd⟩ := hdata
    obtain rfl := hrow.len_eq
    -- the kids
    have hkids : ∃ (B : Option Addr) (c2 : Nat) (ks : List Nd) (FA : Nat → Option Addr) (Fc : Nat → Nat) (FB : Nat → Option Addr) (Fc2 : Nat → Nat), v4 = .slice B ks.length c2 ∧ ks.length ≤ c2 ∧ c2 ≤ maxLen ∧ (B = none → c2 = 0) ∧ sizeK ks + 1 ≤ Rows.uptoBulk x4.1 ∧
        (ks = [] ∨ ∃ b off, B = some ⟨b, off, none⟩ ∧ ∀ j x, ks[j]? = some x → w.cell? ⟨b, off + j * 5, none⟩ = some (.int .i64 x.k) ∧ w.cell? ⟨b, off + j * 5 + 1, none⟩ = some (.int .i64 x.e) ∧ w.cell? ⟨b, off + j * 5 + 2, none⟩ = some (.int .i64 x.n) ∧
          w.cell? ⟨b, off + j * 5 + 3, none⟩ = some (.slice (FA j) x.d.length (Fc j)) ∧ w.cell? ⟨b, off + j * 5 + 4, none⟩ = some (.slice (FB j) x.ks.length (Fc2 j))) ∧
        (∀ j x, ks[j]? = some x → NdR w (FA j) (Fc j) (FB j) (Fc2 j) x) := by
      rcases DataW.trod_slice Tryd.underlying23 g4 with ⟨hcs, rfl⟩ | ⟨a, len, cap, elems, rest, n', rfl, hcs, rfl, hb, hl, hcm, hlen, hel, _, _⟩
      · exact ⟨none, 0, [], fun _ => none, fun _ => 0, fun _ => none, fun _ => 0, by simpa using hcs, by simp, by simp, fun _ => rfl, by simp [Rows.uptoBulk, sizeK], .inl rfl, fun j x hx => by simp at hx⟩
      · rw [node_cells] at hel
        have hall : ∀ i, ∃ (g : Option Addr × Nat × Option Addr × Nat × Nd), ∀ h : i < elems.length, (∀ o, o < 5 → w.cell? ((a.add (i * 5)).add o) = (fiveC g.2.2.2.2 g.1 g.2.1 g.2.2.1 g.2.2.2.1)[o]?) ∧ NdR w g.1 g.2.1 g.2.2.1 g.2.2.2.1 g.2.2.2.2 ∧ sizeN g.2.2.2.2 ≤ Rows.uptoBulk (elems[i]).1 := by
          intro i
          by_cases hi : i < elems.length
          · have h1 := hel i (by omega)
            rw [List.getElem?_eq_getElem hi, Option.bind_eq_some_iff] at h1
            obtain ⟨csi, h2, h3⟩ := h1
            obtain ⟨A', c', B', c2', nd, rfl, hnd, hsz⟩ := ih n' (by omega) csi _ h3
            obtain ⟨_, _, h4⟩ := World.cells?_some h2
            exact ⟨(A', c', B', c2', nd), fun _ => ⟨h4, hnd, hsz⟩⟩
          · exact ⟨(none, 0, none, 0, nd0), fun h => absurd h hi⟩
        obtain ⟨G, hG⟩ : ∃ G : Nat → Option Addr × Nat × Option Addr × Nat × Nd, ∀ i, ∀ h : i < elems.length, (∀ o, o < 5 → w.cell? ((a.add (i * 5)).add o) = (fiveC (G i).2.2.2.2 (G i).1 (G i).2.1 (G i).2.2.1 (G i).2.2.2.1)[o]?) ∧ NdR w (G i).1 (G i).2.1 (G i).2.2.1 (G i).2.2.2.1 (G i).2.2.2.2 ∧ sizeN (G i).2.2.2.2 ≤ Rows.uptoBulk (elems[i]).1 :=
          ⟨fun i => Classical.choose (hall i), fun i => Classical.choose_spec (hall i)⟩
        have hks : ∀ j x, ((List.range elems.length).map fun i => (G i).2.2.2.2)[j]? = some x → j < elems.length ∧ x = (G j).2.2.2.2 := by
          intro j x hx
          have hj : j < elems.length := by
            rcases Nat.lt_or_ge j elems.length with h | h
            · exact h
            · rw [List.getElem?_eq_none (by simpa using h)] at hx; cases hx
          simp [hj] at hx
          exact ⟨hj, hx.symm⟩
        refine ⟨some a, cap, (List.range elems.length).map fun i => (G i).2.2.2.2, fun i => (G i).1, fun i => (G i).2.1, fun i => (G i).2.2.1, fun i => (G i).2.2.2.1, ?_, by simp; omega, hcm, (fun h => by cases h), ?_, ?_, ?_⟩
        · simp [hlen]
          simpa using hcs
        · have := bulk_nodes (elems.map (·.1)) ((List.range elems.length).map fun i => (G i).2.2.2.2) (by simp) (fun j h1 h2 => by
            have h3 : j < elems.length := by simpa using h1
            have := (hG j h3).2.2
            simpa using this)
          simp only [Rows.uptoBulk]
          omega
        · by_cases h0 : elems.length = 0
          · left; simp [h0]
          · right
            obtain ⟨b, off, spot⟩ := a
            have h1 : w.cell? (((⟨b, off, spot⟩ : Addr).add (0 * 5)).add 0) = _ := (hG 0 (by omega)).1 0 (by omega)
            have hs : spot = none := by
              have h2 : w.cell? ⟨b, off, spot⟩ = some (.int .i64 (G 0).2.2.2.2.k) := by simpa [Addr.add, fiveC] using h1
              exact World.cell?_spot h2
            subst hs
            refine ⟨b, off, rfl, fun j x hx => ?_⟩
            obtain ⟨hj, rfl⟩ := hks j x hx
            have h2 := (hG j hj).1
            refine ⟨?_, ?_, ?_, ?_, ?_⟩
            · have := h2 0 (by omega); rw [add_plain, add_plain] at this; exact this
            · have := h2 1 (by omega); rw [add_plain, add_plain] at this; exact this
            · have := h2 2 (by omega); rw [add_plain, add_plain] at this; exact this
            · have := h2 3 (by omega); rw [add_plain, add_plain] at this; exact this
            · have := h2 4 (by omega); rw [add_plain, add_plain] at this; exact this
        · intro j x hx
          obtain ⟨hj, rfl⟩ := hks j x hx
          exact (hG j hj).2.1
    obtain ⟨B, c2, ks, FA, Fc, FB, Fc2, rfl, hkl, hkc, hkn, hkb, hcell, hsub⟩ := hkids
    refine ⟨A, c, B, c2, .mk k e m d ks, rfl, .mk k e m d ks A c B c2 FA Fc FB Fc2 (by omega) (by omega) (by omega) hrow.ri hrow.bts hrow.le hrow.cap_le hrow.nil hkl hkc hkn hcell hsub, ?_⟩
    simp only [sizeN, List.map_cons, List.map_nil, Rows.uptoBulk, Rows.uptoBulkAll]
    omega
end Go.Proofs.YtfigoblpkbpenaaDoor

/- The package-level variables that the program lays and never writes: what they hold ('TabOK'), and that it stays so. -/
namespace Go.Proofs.YtfigoblpkbpenaaDoor
open Go.RowKit
set_option linter.unusedVariables false

/-- listsize.elementBits -/
def elemZ : List Int := [0, 1, 8, 16, 32, 64, 64, 0]
def TabOK (w : World) : Prop := ∀ i, i < 8 → w.cell? ⟨0, i, none⟩ = some (.int .i64 (elemZ.getD i 0))
theorem TabOK.below {w w' : World} (h : TabOK w) {B : Nat} (hb : Below B w w') (hB : w.heap.size ≤ B) : TabOK w' := fun i hi => cell_later (hb.mono hB) (h i hi)
theorem TabOK.on {w w' : World} (h : TabOK w) (hb : Below w.heap.size w w') : TabOK w' := h.below hb (Nat.le_refl _)
theorem TabOK.alloc {w : World} (h : TabOK w) (o : Obj) : TabOK (w.alloc o) := h.on ((Below.refl _ _).alloc (Nat.le_refl _) o)
theorem TabOK.drew {w : World} (h : TabOK w) : TabOK w.drew := h
theorem TabOK.drewN {w : World} (h : TabOK w) (n : Nat) : TabOK (w.drewN n) := h
theorem TabOK.lt {w : World} (h : TabOK w) : 0 < w.heap.size := World.block_lt_of_cell? w _ (h 0 (by decide))
theorem TabOK.setCell {w : World} (h : TabOK w) {p : Addr} (hp : w.heap.size ≤ p.block) (u : Value) : TabOK (w.setCell p u) := h.on ((Below.refl _ _).setCell hp u)
end Go.Proofs.YtfigoblpkbpenaaDoor

/- From what a row lists of package-level variables to 'TabOK', and a world for the witnesses. -/
namespace Go.Proofs.YtfigoblpkbpenaaDoor
open Go.ChangeShapes Go.WideShapes Go.ChangeAt Go.RowKit
set_option linter.unusedVariables false

theorem gTab : Tryd.prog.globalNamed "capnp/listsize.elementBits" = some 0 := by kernel_rfl
theorem gTabType : (Tryd.prog.globals[0]?).map (·.type) = some 83 := by kernel_rfl
theorem cellsTab : Tryd.prog.cellsOf 83 = 8 := by kernel_rfl
theorem cellsInt : Tryd.prog.cellsOf 3 = 1 := by kernel_rfl
theorem tab_laid {W : World} (h : laidMetH Tryd.prog [("capnp/listsize.elementBits", Rows.laid_capnp_listsize_elementBits)] W) : TabOK W := by
  have hT : Lib.TabIs Tryd.prog W "capnp/listsize.elementBits" .i64 elemZ := Lib.tabIs_of_head (rest := []) gTab gTabType Tryd.underlying83 Tryd.underlying3 cellsInt cellsTab h
  exact fun i hi => hT.cell gTab i hi
noncomputable def laidWorld (os : Os) : World :=
  { World.holding Tryd.prog os ⟨#[], #[], []⟩ with heap := (World.holding Tryd.prog os ⟨#[], #[], []⟩).heap.modify 0 fun
      | .cells _ t frozen => .cells #[.int .i64 0, .int .i64 1, .int .i64 8, .int .i64 16, .int .i64 32, .int .i64 64, .int .i64 64, .int .i64 0] t frozen
      | o => o }
end Go.Proofs.YtfigoblpkbpenaaDoor

/- Trimming as a function on trees: the words and pointers that stay, the trimmed node, the uniform size. -/
namespace Go.Proofs.YtfigoblpkbpenaaDoor
open Go.ChangeShapes Go.WideShapes Go.ChangeAt Go.RowKit
set_option linter.unusedVariables false
set_option linter.unusedSimpArgs false
set_option maxRecDepth 100000

/-- the words up to the last byte, of the first i, that is not zero -/
def wordsF (d : List Int) : Nat → Nat
  | 0 => 0
  | i + 1 => if zat d i = 0 then wordsF d i else i / 8 + 1
def wordsT (d : List Int) : Nat := wordsF d d.length
def kAt (ks : List Nd) (i : Nat) : Int := (ks[i]?.map Nd.k).getD 0
/-- the pointers up to the last one, of the first i, that is not null -/
def ptrsF (ks : List Nd) : Nat → Nat
  | 0 => 0
  | i + 1 => if kAt ks i = 0 then ptrsF ks i else i + 1
def ptrsT (ks : List Nd) : Nat := ptrsF ks ks.length
theorem kAt_get {ks : List Nd} {i : Nat} (h : i < ks.length) : kAt ks i = (ks[i]).k := by simp [kAt, h]
theorem wordsF_le (d : List Int) : ∀ i, 8 * wordsF d i < i + 8
  | 0 => by simp [wordsF]
  | i + 1 => by
    have := wordsF_le d i
    unfold wordsF
    split <;> omega
theorem ptrsF_le (ks : List Nd) : ∀ i, ptrsF ks i ≤ i
  | 0 => by simp [ptrsF]
  | i + 1 => by
    have := ptrsF_le ks i
    unfold ptrsF
    split <;> omega
theorem ptrsT_le (ks : List Nd) : ptrsT ks ≤ ks.length := ptrsF_le ks ks.length

mutual
/-- the trimmed node -/
def trimN : Nd → Nd
  | .mk k e n d ks => .mk k e n (if k = 1 then d.take (8 * wordsT d) else d) (if k = 1 then (trimK ks).take (ptrsT ks) else trimK ks)
def trimK : List Nd → List Nd
  | [] => []
  | x :: xs => trimN x :: trimK xs
end
theorem trimK_map (ks : List Nd) : trimK ks = ks.map trimN := by
  induction ks with
  | nil => simp [trimK]
  | cons x xs ih => simp [trimK, ih]
theorem trimK_length (ks : List Nd) : (trimK ks).length = ks.length := by rw [trimK_map, List.length_map]
theorem trimN_k (x : Nd) : (trimN x).k = x.k := by obtain ⟨k, e, n, d, ks⟩ := x; simp [trimN, Nd.k]
mutual
/-- is the node trimmed? -/
def trimmedN : Nd → Bool
  | .mk k e n d ks => decide (k = 1 → 8 * wordsT d = d.length ∧ ptrsT ks = ks.length) && trimmedK ks
def trimmedK : List Nd → Bool
  | [] => true
  | x :: xs => trimmedN x && trimmedK xs
end
theorem trimmedK_append (a b : List Nd) : trimmedK (a ++ b) = (trimmedK a && trimmedK b) := by
  induction a with
  | nil => simp [trimmedK]
  | cons x xs ih => simp only [List.cons_append, trimmedK, ih, Bool.and_assoc]
theorem trimmedK_take (l : List Nd) (j : Nat) (h : j < l.length) : trimmedK (l.take (j + 1)) = (trimmedK (l.take j) && trimmedN l[j]) := by
  rw [List.take_succ_eq_append_getElem h, trimmedK_append]
  simp [trimmedK]
theorem trimmedK_no (l : List Nd) (j : Nat) (h : j < l.length) (hb : trimmedN l[j] = false) : trimmedK l = false := by
  have h1 := trimmedK_take l j h
  have h2 := trimmedK_append (l.take (j + 1)) (l.drop (j + 1))
  rw [List.take_append_drop] at h2
  rw [h2, h1, hb]
  simp
/-- the uniform size of the first i elements -/
def uniD (ks : List Nd) : Nat → Nat
  | 0 => 0
  | i + 1 => max (uniD ks i) (((ks[i]?.map Nd.d).getD []).length / 8)
def uniP (ks : List Nd) : Nat → Nat
  | 0 => 0
  | i + 1 => max (uniP ks i) (((ks[i]?.map Nd.ks).getD []).length)
theorem uniD_succ {ks : List Nd} {i : Nat} (h : i < ks.length) : uniD ks (i + 1) = max (uniD ks i) ((ks[i]).d.length / 8) := by simp [uniD, h]
theorem uniP_succ {ks : List Nd} {i : Nat} (h : i < ks.length) : uniP ks (i + 1) = max (uniP ks i) ((ks[i]).ks.length) := by simp [uniP, h]
end Go.Proofs.YtfigoblpkbpenaaDoor

/- Trimming on trees: it is idempotent, keeps well-formedness, depth and objects. -/
namespace Go.Proofs.YtfigoblpkbpenaaDoor
open Go.ChangeShapes Go.WideShapes Go.ChangeAt Go.RowKit
set_option linter.unusedVariables false
set_option linter.unusedSimpArgs false
set_option maxRecDepth 100000

theorem wordsF_iff (d : List Int) (m : Nat) : ∀ i, wordsF d i ≤ m ↔ ∀ t, t < i → zat d t ≠ 0 → t / 8 + 1 ≤ m
  | 0 => by simp [wordsF]
  | i + 1 => by
    have ih := wordsF_iff d m i
    unfold wordsF
    by_cases h : zat d i = 0
    · rw [if_pos h, ih]
      constructor
      · intro g t ht hz
        rcases Nat.lt_or_ge t i with h1 | h1
        · exact g t h1 hz
        · obtain rfl : t = i := by omega
          exact absurd h hz
      · intro g t ht hz
        exact g t (by omega) hz
    · rw [if_neg h]
      constructor
      · intro g t ht hz
        have : t / 8 ≤ i / 8 := Nat.div_le_div_right (by omega)
        omega
      · intro g
        exact g i (by omega) h
theorem ptrsF_iff (ks : List Nd) (m : Nat) : ∀ i, ptrsF ks i ≤ m ↔ ∀ t, t < i → kAt ks t ≠ 0 → t + 1 ≤ m
  | 0 => by simp [ptrsF]
  | i + 1 => by
    have ih := ptrsF_iff ks m i
    unfold ptrsF
    by_cases h : kAt ks i = 0
    · rw [if_pos h, ih]
      constructor
      · intro g t ht hz
        rcases Nat.lt_or_ge t i with h1 | h1
        · exact g t h1 hz
        · obtain rfl : t = i := by omega
          exact absurd h hz
      · intro g t ht hz
        exact g t (by omega) hz
    · rw [if_neg h]
      constructor
      · intro g t ht hz
        omega
      · intro g
        exact g i (by omega) h
theorem wordsT_iff (d : List Int) (m : Nat) : wordsT d ≤ m ↔ ∀ t, t < d.length → zat d t ≠ 0 → t / 8 + 1 ≤ m := wordsF_iff d m d.length
theorem ptrsT_iff (ks : List Nd) (m : Nat) : ptrsT ks ≤ m ↔ ∀ t, t < ks.length → kAt ks t ≠ 0 → t + 1 ≤ m := ptrsF_iff ks m ks.length
theorem wordsT_at {d : List Int} {t : Nat} (ht : t < d.length) (hz : zat d t ≠ 0) : t / 8 + 1 ≤ wordsT d := (wordsT_iff d _).1 (Nat.le_refl _) t ht hz
theorem ptrsT_at {ks : List Nd} {t : Nat} (ht : t < ks.length) (hz : kAt ks t ≠ 0) : t + 1 ≤ ptrsT ks := (ptrsT_iff ks _).1 (Nat.le_refl _) t ht hz
theorem kAt_trim (ks : List Nd) (t : Nat) : kAt (trimK ks) t = kAt ks t := by
  unfold kAt
  rw [trimK_map, List.getElem?_map]
  cases ks[t]? with
  | none => rfl
  | some x => simp [trimN_k]
theorem validK_mem {k e : Int} {ks : List Nd} (h : validK k e ks = true) {y : Nd} (hy : y ∈ ks) : validN y = true ∧ ¬ (k = 2 ∧ e = 7 ∧ y.k ≠ 1) := by
  obtain ⟨j, hj, rfl⟩ := List.getElem_of_mem hy
  rcases Bool.eq_false_or_eq_true (validN ks[j] && !(decide (k = 2 ∧ e = 7 ∧ (ks[j]).k ≠ 1))) with h3 | h3
  · simp only [Bool.and_eq_true, Bool.not_eq_true', decide_eq_false_iff_not] at h3
    exact h3
  · rw [validK_no k e ks j hj h3] at h
    cases h
/-! ## Depth and objects -/
end Go.Proofs.YtfigoblpkbpenaaDoor

/- The uniform size: it covers every element, is attained, grows with an element; trimming never enlarges it. -/
namespace Go.Proofs.YtfigoblpkbpenaaDoor
open Go.ChangeShapes Go.WideShapes Go.ChangeAt Go.RowKit
set_option linter.unusedVariables false
set_option linter.unusedSimpArgs false
set_option maxRecDepth 100000

theorem uniD_covers (ks : List Nd) (h8 : ∀ y ∈ ks, y.d.length % 8 = 0) : ∀ i, i ≤ ks.length → ∀ j (hj : j < ks.length), j < i → (ks[j]).d.length ≤ 8 * uniD ks i
  | 0, _, j, _, h => by omega
  | i + 1, hi, j, hj, h => by
    rw [uniD_succ (by omega)]
    have h1 := h8 ks[j] (List.getElem_mem hj)
    by_cases e : j = i
    · subst e; omega
    · have := uniD_covers ks h8 i (by omega) j hj (by omega)
      omega
theorem uniP_covers (ks : List Nd) : ∀ i, i ≤ ks.length → ∀ j (hj : j < ks.length), j < i → (ks[j]).ks.length ≤ uniP ks i
  | 0, _, j, _, h => by omega
  | i + 1, hi, j, hj, h => by
    rw [uniP_succ (by omega)]
    by_cases e : j = i
    · subst e; omega
    · have := uniP_covers ks i (by omega) j hj (by omega)
      omega
theorem uniD_le (ks : List Nd) (m : Nat) : ∀ i, i ≤ ks.length → (∀ y ∈ ks, y.d.length / 8 ≤ m) → uniD ks i ≤ m
  | 0, _, _ => by simp [uniD]
  | i + 1, hi, h => by
    rw [uniD_succ (by omega)]
    have := uniD_le ks m i (by omega) h
    have := h ks[i] (List.getElem_mem (by omega))
    omega
theorem uniP_le (ks : List Nd) (m : Nat) : ∀ i, i ≤ ks.length → (∀ y ∈ ks, y.ks.length ≤ m) → uniP ks i ≤ m
  | 0, _, _ => by simp [uniP]
  | i + 1, hi, h => by
    rw [uniP_succ (by omega)]
    have := uniP_le ks m i (by omega) h
    have := h ks[i] (List.getElem_mem (by omega))
    omega
/-! ## Zero words and null pointers behind a struct -/
theorem wordsT_zeros (d : List Int) (n : Nat) : wordsT (d ++ List.replicate n 0) = wordsT d := by
  refine Nat.le_antisymm ?_ ?_
  · refine (wordsT_iff _ _).2 fun t ht hz => ?_
    by_cases h : t < d.length
    · have e : zat (d ++ List.replicate n 0) t = zat d t := by simp [zat, List.getD, List.getElem?_append_left h]
      exact wordsT_at h (by rw [← e]; exact hz)
    · refine absurd ?_ hz
      rw [List.length_append, List.length_replicate] at ht
      simp [zat, List.getD, List.getElem?_append_right (Nat.le_of_not_lt h)]
      rw [List.getElem?_replicate]
      split <;> rfl
  · refine (wordsT_iff _ _).2 fun t ht hz => ?_
    have e : zat (d ++ List.replicate n 0) t = zat d t := by simp [zat, List.getD, List.getElem?_append_left ht]
    exact wordsT_at (by rw [List.length_append]; omega) (by rw [e]; exact hz)
theorem ptrsT_nulls (ks ms : List Nd) (hm : ∀ y ∈ ms, y.k = 0) : ptrsT (ks ++ ms) = ptrsT ks := by
  refine Nat.le_antisymm ?_ ?_
  · refine (ptrsT_iff _ _).2 fun t ht hz => ?_
    by_cases h : t < ks.length
    · have e : kAt (ks ++ ms) t = kAt ks t := by simp [kAt, List.getElem?_append_left h]
      exact ptrsT_at h (by rw [← e]; exact hz)
    · refine absurd ?_ hz
      rw [List.length_append] at ht
      rw [kAt_get (by rw [List.length_append]; exact ht), List.getElem_append_right (Nat.le_of_not_lt h)]
      exact hm _ (List.getElem_mem _)
  · refine (ptrsT_iff _ _).2 fun t ht hz => ?_
    have e : kAt (ks ++ ms) t = kAt ks t := by simp [kAt, List.getElem?_append_left ht]
    exact ptrsT_at (by rw [List.length_append]; omega) (by rw [e]; exact hz)
end Go.Proofs.YtfigoblpkbpenaaDoor

/- The canonical size of a node. -/
namespace Go.Proofs.YtfigoblpkbpenaaDoor
open Go.ChangeShapes Go.WideShapes Go.ChangeAt Go.RowKit
set_option linter.unusedVariables false
set_option linter.unusedSimpArgs false
set_option maxRecDepth 100000

/-- of the object alone -/
def canOf (k e n : Int) (d : List Int) (ks : List Nd) : Int :=
  if k = 0 then 0
  else if k = 1 then ((d.length / 8 + ks.length : Nat) : Int)
  else if e = 7 then 1 + n * ((uniD ks ks.length + uniP ks ks.length : Nat) : Int)
  else wordsI e n
def canO (x : Nd) : Int := canOf x.k x.e x.n x.d x.ks
mutual
/-- of the node -/
def canN : Nd → Int
  | .mk k e n d ks => canOf k e n d ks + if k = 2 ∧ e = 7 then canG ks else canK ks
def canK : List Nd → Int
  | [] => 0
  | x :: xs => canN x + canK xs
def canG : List Nd → Int
  | [] => 0
  | .mk _ _ _ _ ks :: xs => canK ks + canG xs
end
theorem canK_append (a b : List Nd) : canK (a ++ b) = canK a + canK b := by
  induction a with
  | nil => simp [canK]
  | cons x xs ih => simp only [List.cons_append, canK, ih]; omega
theorem canG_kk (l : List Nd) : canG l = canK (kk l) := by
  induction l with
  | nil => simp [canG, kk, canK]
  | cons x xs ih =>
    obtain ⟨k, e, n, d, ks⟩ := x
    have h : kk (.mk k e n d ks :: xs) = ks ++ kk xs := by simp [kk, Nd.ks]
    rw [h, canK_append]
    simp only [canG, ih]
theorem canN_eq (x : Nd) : canN x = canO x + canK (targN x) := by
  obtain ⟨k, e, n, d, ks⟩ := x
  simp only [canN, targN, canO, Nd.k, Nd.e, Nd.n, Nd.d, Nd.ks]
  by_cases h : k = 2 ∧ e = 7
  · rw [if_pos h, if_pos h, canG_kk]
  · rw [if_neg h, if_neg h]
theorem canK_take (l : List Nd) (j : Nat) (h : j < l.length) : canK (l.take (j + 1)) = canK (l.take j) + canN l[j] := by
  rw [List.take_succ_eq_append_getElem h, canK_append]
  simp [canK]
/-- a well-formed node's numbers -/
theorem valid_k {x : Nd} (h : validN x = true) : x.k = 0 ∨ x.k = 1 ∨ x.k = 2 := by
  obtain ⟨k, e, n, d, ks⟩ := x
  have h2 : headB k e n d ks = true := by
    simp only [validN, Bool.and_eq_true] at h
    exact h.2
  unfold headB at h2
  show k = 0 ∨ k = 1 ∨ k = 2
  split at h2
  · exact .inl (by assumption)
  · split at h2
    · exact .inr (.inl (by assumption))
    · split at h2
      · exact .inr (.inr (by assumption))
      · cases h2
end Go.Proofs.YtfigoblpkbpenaaDoor
