/- The texts Msg, OpenS, Tab, TabL, Word, Ref01 (what is wanted of them), one after the other. -/
import Derived.Test.YtcmljjhnfpfcfaaDoorMg1
import Derived.Deep.Matrix
import Derived.Test.YtcmljjhnfpfcfaaDoorRows
import Derived.WalkSpells
import Derived.Test.YtcmljjhnfpfcfaaDoorCards
import Derived.Test.YtcmljjhnfpfcfaaDoorTie
import Derived.WalkKit
import Derived.ProofKit
import Derived.OpenShut
import Derived.Deep.DeepHandedRow
import Derived.Lib.LaidTab
import Derived.Deep.DeepFit
import Derived.RegionTactic
import Derived.Deep.QuietTactic
import Derived.BigQuiet
/- What is known of a message in memory: a slice of slices of words. -/
namespace Go.Proofs.YtcmljjhnfpfcfaaDoor
open Go.RowKit
set_option linter.unusedVariables false
set_option linter.unusedSimpArgs false
set_option maxRecDepth 100000

/-- segment j of a message, empty behind its end (a name that simp does not open) -/
def seg (ls : List (List Int)) (j : Nat) : List Int := ls.getD j []
theorem seg_mem {ls : List (List Int)} {j : Nat} (h : j < ls.length) : seg ls j ∈ ls := by
  rw [seg, List.getD_eq_getElem?_getD, List.getElem?_eq_getElem h]
  exact List.getElem_mem h
theorem seg_out {ls : List (List Int)} {j : Nat} (h : ls.length ≤ j) : seg ls j = [] := by
  rw [seg, List.getD_eq_getElem?_getD, List.getElem?_eq_none h]; rfl
def Wd2 (ls : List (List Int)) : Prop := ∀ l ∈ ls, Wds l
theorem Wd2.at {ls : List (List Int)} (h : Wd2 ls) (j : Nat) : Wds (seg ls j) := by
  by_cases hj : j < ls.length
  · exact h _ (seg_mem hj)
  · rw [seg_out (by omega)]; intro z hz; cases hz

/-- the slice value v holds the words l -/
def Holds (w : World) (v : Value) (l : List Int) : Prop := ∃ A c, v = .slice A l.length c ∧ Ri w .u64 A l ∧ (A = none → c = 0) ∧ l.length ≤ c ∧ c ≤ maxLen
theorem Holds.below {w w' : World} {v : Value} {l : List Int} {B : Nat} (h : Holds w v l) (hb : Below B w w') (hB : w.heap.size ≤ B) : Holds w' v l := by
  obtain ⟨A, c, h1, h2, h3⟩ := h
  exact ⟨A, c, h1, h2.below hb hB, h3⟩

/-- at A lie the segments ls one after the other -/
def Sg (w : World) (A : Option Addr) (ls : List (List Int)) : Prop :=
  ls = [] ∨ ∃ b off, A = some ⟨b, off, none⟩ ∧ ∀ j, j < ls.length → ∃ v, w.cell? ⟨b, off + j, none⟩ = some v ∧ Holds w v (seg ls j)

theorem Sg.nil (w : World) (A : Option Addr) : Sg w A [] := .inl rfl

theorem Sg.at {w : World} {A : Option Addr} {ls : List (List Int)} (h : Sg w A ls) {i : Nat} (hi : i < ls.length) :
    ∃ b off, A = some ⟨b, off, none⟩ ∧ ∀ j, j < ls.length → ∃ v, w.cell? ⟨b, off + j, none⟩ = some v ∧ Holds w v (seg ls j) := by
  rcases h with rfl | h
  · simp at hi
  · exact h

/-- the segment i: its cell and what it holds -/
theorem Sg.one {w : World} {A : Option Addr} {ls : List (List Int)} (h : Sg w A ls) {i : Nat} (hi : i < ls.length) :
    ∃ b off A' c, A = some ⟨b, off, none⟩ ∧ w.cell? ⟨b, off + i, none⟩ = some (.slice A' (seg ls i).length c) ∧ Ri w .u64 A' (seg ls i) ∧ (A' = none → c = 0) ∧ (seg ls i).length ≤ c ∧ c ≤ 9223372036854775807 := by
  obtain ⟨b, off, hA, hc⟩ := h.at hi
  obtain ⟨v, hv, A', c, rfl, h1, h2, h3, h4⟩ := hc i hi
  unfold maxLen at h4
  exact ⟨b, off, A', c, hA, hv, h1, h2, h3, by omega⟩

theorem Sg.below {w w' : World} {A : Option Addr} {ls : List (List Int)} {B : Nat} (h : Sg w A ls) (hb : Below B w w') (hB : w.heap.size ≤ B) : Sg w' A ls := by
  rcases h with rfl | ⟨b, off, rfl, h⟩
  · exact .inl rfl
  · refine .inr ⟨b, off, rfl, fun j hj => ?_⟩
    obtain ⟨v, hv, hh⟩ := h j hj
    have hlt : b < w.heap.size := World.block_lt_of_cell? w ⟨b, off + j, none⟩ hv
    exact ⟨v, (hb.cell (p := ⟨b, off + j, none⟩) (by show b < B; omega)).trans hv, hh.below hb hB⟩

/-! ## Places of a message -/
def inB (ls : List (List Int)) (s a n : Int) : Bool := decide (0 ≤ s ∧ s < ls.length ∧ 0 ≤ a ∧ 0 ≤ n ∧ a ≤ (seg ls s.toNat).length ∧ n ≤ (seg ls s.toNat).length - a)
def hasB (ls : List (List Int)) (s a : Int) : Bool := decide (0 ≤ s ∧ s < ls.length ∧ 0 ≤ a ∧ a < (seg ls s.toNat).length)
def wordV (ls : List (List Int)) (s a : Int) : Int := if hasB ls s a then zat (seg ls s.toNat) a.toNat else 0
def sliceL (ls : List (List Int)) (s a n : Int) : List Int := ((seg ls s.toNat).drop a.toNat).take n.toNat
def fewB (ls : List (List Int)) : Bool := decide ((∀ j, j < ls.length → (seg ls j).length ≤ 300) ∧ ls.length ≤ 20)

theorem few_fits {ls : List (List Int)} (h : fewB ls = true) : (∀ j, (seg ls j).length ≤ 300) ∧ ls.length ≤ 20 := by
  obtain ⟨h1, h2⟩ := of_decide_eq_true h
  refine ⟨fun j => ?_, h2⟩
  by_cases hj : j < ls.length
  · exact h1 j hj
  · rw [seg_out (by omega)]; simp
end Go.Proofs.YtcmljjhnfpfcfaaDoor

/- How a message that came in (a slice of slices of words) is opened. -/
namespace Go.Proofs.YtcmljjhnfpfcfaaDoor
open Go.ChangeShapes Go.WideShapes Go.ChangeAt Go.RowKit
set_option linter.unusedVariables false

structure RowS (w : World) (A : Option Addr) (len cap : Nat) (ls : List (List Int)) : Prop where
  sg : Sg w A ls
  len_eq : len = ls.length
  le : len ≤ cap
  cap_le : cap ≤ maxLen
  nil : A = none → cap = 0
  wd : Wd2 ls

theorem RowS.none {w : World} : RowS w .none 0 0 [] := ⟨Sg.nil _ _, rfl, Nat.le_refl _, Nat.zero_le _, fun _ => rfl, fun z hz => by cases hz⟩

theorem RowS.some {w : World} {x : Addr} {len cap : Nat} {A : Nat → Option Addr} {L C : Nat → Nat} {Z : Nat → List Int} (hl : len ≤ cap) (hm : cap ≤ maxLen)
    (h : ∀ r, r < cap → w.cell? (x.add r) = .some (.slice (A r) (L r) (C r)) ∧ L r ≤ C r ∧ C r ≤ maxLen ∧ (Z r).length = C r ∧ (∀ n ∈ Z r, (Lit.int .u64 n).wf = true) ∧ (A r = .none → C r = 0) ∧
        ∀ a', A r = .some a' → ∀ c, c < C r → w.cell? (a'.add c) = .some (.int .u64 ((Z r).getD c 0))) :
    RowS w (.some x) len cap ((List.range len).map fun r => (Z r).take (L r)) := by
  have hlen : ((List.range len).map fun r => (Z r).take (L r)).length = len := by simp
  have hseg : ∀ r, r < len → seg ((List.range len).map fun r => (Z r).take (L r)) r = (Z r).take (L r) := by
    intro r hr
    simp [seg, List.getD_eq_getElem?_getD, hr]
  have hrow : ∀ r, r < len → Row .u64 w (A r) (L r) (C r) ((Z r).take (L r)) := by
    intro r hr
    obtain ⟨h1, h2, h3, h4, h5, h6, h7⟩ := h r (by omega)
    cases hA : A r with
    | none =>
      have hC := h6 hA
      have hL : L r = 0 := by omega
      have : (Z r).take (L r) = [] := by rw [hL]; rfl
      rw [this, hL, hC]
      exact Row.none
    | some a' => exact Row.some h2 h3 h4 (fun i hi => h7 a' hA i (by omega)) h5
  refine ⟨?_, hlen.symm, hl, hm, (fun h => by cases h), ?_⟩
  · by_cases h0 : 0 < len
    · obtain ⟨b, off, spot⟩ := x
      have hs : spot = .none := by
        have := World.cell?_spot (h 0 (by omega)).1
        simpa [Addr.add] using this
      subst hs
      refine .inr ⟨b, off, rfl, fun j hj => ?_⟩
      rw [hlen] at hj
      have h1 := (h j (by omega)).1
      rw [add_plain] at h1
      have hr := hrow j hj
      refine ⟨_, h1, A j, C j, ?_, ?_, hr.nil, ?_, hr.cap_le⟩
      · rw [hseg j hj]
        exact congrArg (fun n => Value.slice (A j) n (C j)) hr.len_eq
      · rw [hseg j hj]; exact hr.ri
      · rw [hseg j hj, ← hr.len_eq]; exact hr.le
    · exact .inl (List.eq_nil_of_length_eq_zero (by omega))
  · intro l hl2
    simp only [List.mem_map, List.mem_range] at hl2
    obtain ⟨r, hr, rfl⟩ := hl2
    exact (hrow r hr).wds

end Go.Proofs.YtcmljjhnfpfcfaaDoor

/- The package-level variables that the program lays and never writes: what they hold ('TabOK'), and that it stays so. -/
namespace Go.Proofs.YtcmljjhnfpfcfaaDoor
open Go.RowKit
set_option linter.unusedVariables false

/-- listsize.elementBits -/
def elemZ : List Int := [0, 1, 8, 16, 32, 64, 64, 0]
def TabOK (w : World) : Prop := ∀ i, i < 8 → w.cell? ⟨0, i, none⟩ = some (.int .i64 (elemZ.getD i 0))
theorem TabOK.below {w w' : World} (h : TabOK w) {B : Nat} (hb : Below B w w') (hB : w.heap.size ≤ B) : TabOK w' := fun i hi => cell_later (hb.mono hB) (h i hi)
theorem TabOK.on {w w' : World} (h : TabOK w) (hb : Below w.heap.size w w') : TabOK w' := h.below hb (Nat.le_refl _)
theorem TabOK.alloc {w : World} (h : TabOK w) (o : Obj) : TabOK (w.alloc o) := h.on ((Below.refl _ _).alloc (Nat.le_refl _) o)
theorem TabOK.drew {w : World} (h : TabOK w) : TabOK w.drew := h
theorem TabOK.drewN {w : World} (h : TabOK w) (n : Nat) : TabOK (w.drewN n) := h
theorem TabOK.lt {w : World} (h : TabOK w) : 0 < w.heap.size := World.block_lt_of_cell? w _ (h 0 (by decide))
theorem TabOK.setCell {w : World} (h : TabOK w) {p : Addr} (hp : w.heap.size ≤ p.block) (u : Value) : TabOK (w.setCell p u) := h.on ((Below.refl _ _).setCell hp u)
end Go.Proofs.YtcmljjhnfpfcfaaDoor

/- From what a row lists of package-level variables to 'TabOK', and a world for the witnesses. -/
namespace Go.Proofs.YtcmljjhnfpfcfaaDoor
open Go.ChangeShapes Go.WideShapes Go.ChangeAt Go.RowKit
set_option linter.unusedVariables false

theorem gTab : Tryd.prog.globalNamed "capnp/listsize.elementBits" = some 0 := by kernel_rfl
theorem gTabType : (Tryd.prog.globals[0]?).map (·.type) = some 82 := by kernel_rfl
theorem cellsTab : Tryd.prog.cellsOf 82 = 8 := by kernel_rfl
theorem cellsInt : Tryd.prog.cellsOf 3 = 1 := by kernel_rfl
theorem tab_laid {W : World} (h : laidMetH Tryd.prog [("capnp/listsize.elementBits", Rows.laid_capnp_listsize_elementBits)] W) : TabOK W := by
  have hT : Lib.TabIs Tryd.prog W "capnp/listsize.elementBits" .i64 elemZ := Lib.tabIs_of_head (rest := []) gTab gTabType Tryd.underlying82 Tryd.underlying3 cellsInt cellsTab h
  exact fun i hi => hT.cell gTab i hi
noncomputable def laidWorld (os : Os) : World :=
  { World.holding Tryd.prog os ⟨#[], #[], []⟩ with heap := (World.holding Tryd.prog os ⟨#[], #[], []⟩).heap.modify 0 fun
      | .cells _ t frozen => .cells #[.int .i64 0, .int .i64 1, .int .i64 8, .int .i64 16, .int .i64 32, .int .i64 64, .int .i64 64, .int .i64 0] t frozen
      | o => o }
end Go.Proofs.YtcmljjhnfpfcfaaDoor

/- What the functions of package word do, each by a contract. -/
namespace Go.Proofs.YtcmljjhnfpfcfaaDoor
open Go.ChangeShapes Go.WideShapes Go.ChangeAt Go.RowKit
set_option linter.unusedVariables false

theorem int8_info : (Tryd.prog.info? 5).map (fun i => (i.zero, i.size, i.bytes)) = some (some (.int .u8 0), 1, 1) := by kernel_rfl
theorem int64_info : (Tryd.prog.info? 57).map (fun i => (i.zero, i.size, i.bytes)) = some (some (.int .u64 0), 1, 8) := by kernel_rfl

end Go.Proofs.YtcmljjhnfpfcfaaDoor

/- What the reference functions of layer 1 do, each by a contract. -/
namespace Go.Proofs.YtcmljjhnfpfcfaaDoor
open Go.ChangeShapes Go.WideShapes Go.ChangeAt Go.RowKit
set_option linter.unusedVariables false

/-- are the two lists the same? -/
def sameB (a b : List Int) : Bool := decide (a = b)

theorem sameB_no (a b : List Int) (k : Nat) (h : zat a k ≠ zat b k) : sameB a b = false := by
  unfold sameB
  simp
  rintro rfl
  exact h rfl

theorem sameB_len (a b : List Int) (h : a.length ≠ b.length) : sameB a b = false := by
  unfold sameB
  simp
  rintro rfl
  exact h rfl

theorem sameB_yes (a b : List Int) (hl : a.length = b.length) (h : ∀ i, i < a.length → zat a i = zat b i) : sameB a b = true := by
  unfold sameB
  simp [ext_zat hl h]

theorem sameB_self (a : List Int) : sameB a a = true := by simp [sameB]

theorem Same_any (A B : Option Addr) (c d : Nat) (a b : List Int) (w : World) (ha : Ri w .u8 A a) (hb : Ri w .u8 B b) (hm : a.length ≤ 9223372036854775807) (hm2 : b.length ≤ 9223372036854775807) :
    Calls Tryd.prog 34 #[.slice A a.length c, .slice B b.length d] w fun e w' => e = .returned (.bool (sameB a b)) ∧ ∃ m, w' = w.drewN m := by
  have Ha := Lib.hid ha
  have Hb := Lib.hid hb
  clear ha hb
  by_cases hl : a.length = b.length
  · have HL := Lib.hid hl
    have hlen : ((a.length : Int) != (b.length : Int)) = false := by simp [hl]
    have hlen2 : ((a.length : Int) == (b.length : Int)) = true := by simp [hl]
    clear hl
    go_enter Tryd.func34, Tryd.ntmps34
    go_wp2
    go_loopw [5] (fun i wr => ∃ k : Nat, k ≤ a.length ∧ i = .int .i64 k ∧ (∀ j, j < k → zat a j = zat b j) ∧ ∃ m, wr = w.drewN m) (fun i _ => a.length - (intOf i).toNat)
    case atStart => exact ⟨0, by omega, rfl, by intro j hj; omega, 0, rfl⟩
    case round =>
      obtain ⟨k, hk, rfl, hsame, m, rfl⟩ := hrel
      have HS := Lib.hid hsame
      clear hsame
      by_cases hlt : k < a.length
      · obtain ⟨g, off, rfl, hc1⟩ := Ha.out.at hlt
        have hc1k := hc1 k hlt
        have hltb : k < b.length := by rw [← HL.out]; exact hlt
        obtain ⟨g', off', rfl, hc2⟩ := Hb.out.at hltb
        have hc2k := hc2 k hltb
        clear hc1 hc2
        have hi1 : (k : Int) < (a.length : Int) := by omega
        have hi2 : (k : Int) < (b.length : Int) := by omega
        by_cases hz : zat a k = zat b k
        · have hz1 : (zat a k != zat b k) = false := by simp [hz]
          have hz2 : (zat a k == zat b k) = true := by simp [hz]
          have HZ := Lib.hid hz
          clear hz
          go_wp2
          go_quiet (fail)
          go_wp2
          go_roundw
          case rel => exact ⟨k + 1, by omega, by go_num, fun j hj => by
            by_cases e : j = k
            · subst e; exact HZ.out
            · exact HS.out j (by omega), _, rfl⟩
          case measure => simp [intOf]; omega
        · have hz1 : (zat a k != zat b k) = true := by simp [hz]
          have hz2 : (zat a k == zat b k) = false := by simp [hz]
          have HZ := Lib.hid hz
          clear hz
          go_wp2
          go_quiet (fail)
          go_wp2
          go_ret
          exact ⟨by rw [sameB_no a b k HZ.out]; rfl, _, World.drewN_drewN _ _ _⟩
      · obtain rfl : k = a.length := by omega
        go_wp2
        go_ret
        exact ⟨by rw [sameB_yes a b HL.out HS.out]; rfl, _, rfl⟩
  · have HL := Lib.hid (sameB_len a b hl)
    have hlen : ((a.length : Int) != (b.length : Int)) = true := by simp; omega
    have hlen2 : ((a.length : Int) == (b.length : Int)) = false := by simp; omega
    clear hl
    go_enter Tryd.func34, Tryd.ntmps34
    go_wp2
    go_ret
    exact ⟨by rw [HL.out]; rfl, 0, rfl⟩


/-! ## Numbers -/
def p2 (n : Int) : Int := 2 ^ n.toNat

theorem p2_pos (n : Int) : 1 ≤ p2 n := by
  have : (0 : Int) < 2 ^ n.toNat := Int.pow_pos (by decide)
  unfold p2; omega

theorem p2_bd (n : Int) (h : n ≤ 63) : p2 n ≤ 9223372036854775808 := by
  have := Nat.pow_le_pow_right (n := 2) (by decide) (show n.toNat ≤ 63 by omega)
  have e : (2 : Int) ^ n.toNat = ((2 ^ n.toNat : Nat) : Int) := by simp
  unfold p2
  rw [e]; omega

theorem p2_succ (k : Nat) : p2 ((k : Int) + 1) = p2 k * 2 := by
  unfold p2
  rw [show ((k : Int) + 1).toNat = k + 1 by omega, Int.toNat_natCast, Int.pow_succ]

theorem Pow_any (n : Int) (w : World) (h0 : 0 ≤ n) (h1 : n ≤ 63) :
    Calls Tryd.prog 59 #[.int .i64 n] w fun e w' => e = .returned (.int .u64 (p2 n)) ∧ w = w' := by
  obtain ⟨m, rfl⟩ := Int.eq_ofNat_of_zero_le h0
  go_enter Tryd.func59, Tryd.ntmps59
  go_wp2
  go_loop [3, 4] (fun p i => ∃ k : Nat, k ≤ m ∧ i = .int .i64 k ∧ p = .int .u64 (p2 k)) (fun _ i => m - (intOf i).toNat)
  case atStart => exact ⟨0, by omega, rfl, rfl⟩
  case round =>
    obtain ⟨k, hk, rfl, rfl⟩ := hrel
    by_cases hlt : k < m
    · have hp := p2_pos k
      have hb := p2_bd ((k : Int) + 1) (by omega)
      have HS := Lib.hid (p2_succ k)
      rw [HS.out] at hb
      go_wp2
      go_round
      case rel => exact ⟨k + 1, by omega, by go_num, by rw [← HS.out]; go_num⟩
      case measure => simp [intOf]; omega
    · obtain rfl : k = m := by omega
      go_wp2
      go_ret
      exact ⟨rfl, rfl⟩

theorem fld_zero (x a : Int) : fld x a 0 = 0 := by simp [fld, fldN, Nat.mod_one]

theorem fld_succ (x a : Int) (k : Nat) (hx : 0 ≤ x) (ha : 0 ≤ a) : fld x a ((k : Int) + 1) = fld x a k + x / p2 (a + k) % 2 * p2 k := by
  obtain ⟨X, rfl⟩ := Int.eq_ofNat_of_zero_le hx
  obtain ⟨A, rfl⟩ := Int.eq_ofNat_of_zero_le ha
  unfold fld p2
  rw [show ((k : Int) + 1).toNat = k + 1 by omega, show ((A : Int) + k).toNat = A + k by omega]
  simp only [Int.toNat_natCast]
  rw [fldN_step]
  simp

theorem quo_bd (x n : Int) (h5 : 0 ≤ x) (h6 : x < 18446744073709551616) : 0 ≤ x / p2 n ∧ x / p2 n < 18446744073709551616 := by
  have hp := p2_pos n
  have h1 := Int.ediv_nonneg h5 (by omega : 0 ≤ p2 n)
  have h2 := Int.ediv_le_self (p2 n) h5
  omega

theorem RefField_any (x a n : Int) (w : World) (h1 : 1 ≤ n) (h2 : 0 ≤ a) (h3 : a + n ≤ 64) (h5 : 0 ≤ x) (h6 : x < 18446744073709551616) :
    Calls Tryd.prog 58 #[.int .u64 x, .int .i64 a, .int .i64 n] w fun e w' => e = .returned (.int .u64 (fld x a n)) ∧ w = w' := by
  obtain ⟨m, rfl⟩ := Int.eq_ofNat_of_zero_le (by omega : 0 ≤ n)
  go_enter Tryd.func58, Tryd.ntmps58
  go_wp2
  go_loop [7, 8] (fun v i => ∃ k : Nat, k ≤ m ∧ i = .int .i64 k ∧ v = .int .u64 (fld x a k)) (fun _ i => m - (intOf i).toNat)
  case atStart => exact ⟨0, by omega, rfl, by rw [show ((0 : Nat) : Int) = 0 from rfl, fld_zero]⟩
  case round =>
    obtain ⟨k, hk, rfl, rfl⟩ := hrel
    by_cases hlt : k < m
    · have hp := p2_pos (a + k)
      have hp2 := p2_pos k
      have hq := quo_bd x (a + k) h5 h6
      have hb := fld_bd x a k (by omega)
      have hb1 := fld_bd x a (k + 1) (by omega)
      have hs := fld_succ x a k h5 h2
      by_cases hbit : x / p2 (a + k) % 2 = 1
      · rw [hbit, Int.one_mul] at hs
        rw [hs] at hb1
        have t1 : (x / p2 (a + k) % 2 == 1) = true := by simp [hbit]
        have HS := Lib.hid hs
        clear hs hbit
        go_wp2_with (go_at_call 59; refine (Pow_any _ _ (by omega) (by omega)).mono ?_; rintro e w' ⟨rfl, rfl⟩)
        go_round
        case rel => exact ⟨k + 1, by omega, by go_num, by rw [← HS.out]; go_num⟩
        case measure => simp [intOf]; omega
      · have hbit0 : x / p2 (a + k) % 2 = 0 := by omega
        rw [hbit0, Int.zero_mul, Int.add_zero] at hs
        have t1 : (x / p2 (a + k) % 2 == 1) = false := by simp [hbit0]
        have HS := Lib.hid hs
        clear hs hbit hbit0
        go_wp2_with (go_at_call 59; refine (Pow_any _ _ (by omega) (by omega)).mono ?_; rintro e w' ⟨rfl, rfl⟩)
        go_round
        case rel => exact ⟨k + 1, by omega, by go_num, by rw [← HS.out]; go_num⟩
        case measure => simp [intOf]; omega
    · obtain rfl : k = m := by omega
      go_wp2
      go_ret
      exact ⟨rfl, rfl⟩

theorem sgn_ref (x a n : Int) (h : 1 ≤ n) : sgn x a n = if p2 (n - 1) ≤ fld x a n then fld x a n - p2 (n - 1) - p2 (n - 1) else fld x a n := by
  obtain ⟨m, rfl⟩ : ∃ m : Nat, n = (m : Int) + 1 := ⟨(n - 1).toNat, by omega⟩
  unfold sgn p2
  rw [show ((m : Int) + 1).toNat = m + 1 by omega, show ((m : Int) + 1 - 1).toNat = m by omega, show m + 1 - 1 = m by omega, Int.pow_succ]
  split <;> omega

theorem sgn_yes (x a n : Int) (h : 1 ≤ n) (hc : p2 (n - 1) ≤ fld x a n) : fld x a n - p2 (n - 1) - p2 (n - 1) = sgn x a n := by rw [sgn_ref x a n h, if_pos hc]
theorem sgn_no (x a n : Int) (h : 1 ≤ n) (hc : ¬ p2 (n - 1) ≤ fld x a n) : fld x a n = sgn x a n := by rw [sgn_ref x a n h, if_neg hc]
theorem sgn_64 (x a : Int) : wrap64 (fld x a 64) = sgn x a 64 := by
  have h0 := fld_bd x a 64 (by omega)
  rw [sgn_ref x a 64 (by omega)]
  have e : p2 (64 - 1) = 9223372036854775808 := by decide
  rw [e]
  unfold wrap64
  split <;> omega
theorem fld_lt63 (x a n : Int) (h : n ≤ 63) : fld x a n < 9223372036854775808 := by
  have h1 := fld_lt x a n
  have h2 := p2_bd n h
  unfold p2 at h2
  omega

theorem RefSigned_any (x a n : Int) (w : World) (h1 : 1 ≤ n) (h2 : 0 ≤ a) (h3 : a + n ≤ 64) (h5 : 0 ≤ x) (h6 : x < 18446744073709551616) :
    Calls Tryd.prog 57 #[.int .u64 x, .int .i64 a, .int .i64 n] w fun e w' => e = .returned (.int .i64 (sgn x a n)) ∧ w = w' := by
  have hb := fld_bd x a n (by omega)
  by_cases hn : n = 64
  · subst hn
    go_enter Tryd.func57, Tryd.ntmps57
    go_wp2_with (go_at_call 58; refine (RefField_any _ _ _ _ (by omega) (by omega) (by omega) (by omega) (by omega)).mono ?_; rintro e w' ⟨rfl, rfl⟩)
    go_ret
    exact ⟨congrArg (fun z => Ending.returned (.int .i64 z)) (sgn_64 x a), rfl⟩
  · have hl := fld_lt63 x a n (by omega)
    have hn1 : (n == 64) = false := by simp [hn]
    have hp := p2_pos (n - 1)
    have hp2 := p2_bd (n - 1) (by omega)
    have hp3 := p2_bd n (by omega)
    have hp4 : p2 (n - 1) < 9223372036854775808 := by
      have := p2_succ (n - 1).toNat
      rw [show (((n - 1).toNat : Int)) = n - 1 by omega, show n - 1 + 1 = n by omega] at this
      omega
    by_cases hc : p2 (n - 1) ≤ fld x a n
    · have HS := Lib.hid (sgn_yes x a n h1 hc)
      go_enter Tryd.func57, Tryd.ntmps57
      go_wp2_with (first
        | (go_at_call 58; refine (RefField_any _ _ _ _ (by omega) (by omega) (by omega) (by omega) (by omega)).mono ?_; rintro e w' ⟨rfl, rfl⟩)
        | (go_at_call 59; refine (Pow_any _ _ (by omega) (by omega)).mono ?_; rintro e w' ⟨rfl, rfl⟩))
      go_ret
      exact ⟨congrArg (fun z => Ending.returned (.int .i64 z)) HS.out, rfl⟩
    · have HS := Lib.hid (sgn_no x a n h1 hc)
      have hc2 : decide (p2 (n - 1) ≤ fld x a n) = false := by simp; omega
      clear hc
      go_enter Tryd.func57, Tryd.ntmps57
      go_wp2_with (first
        | (go_at_call 58; refine (RefField_any _ _ _ _ (by omega) (by omega) (by omega) (by omega) (by omega)).mono ?_; rintro e w' ⟨rfl, rfl⟩)
        | (go_at_call 59; refine (Pow_any _ _ (by omega) (by omega)).mono ?_; rintro e w' ⟨rfl, rfl⟩))
      go_ret
      exact ⟨congrArg (fun z => Ending.returned (.int .i64 z)) HS.out, rfl⟩

set_option maxRecDepth 100000 in
theorem RefBytes_any (A : Option Addr) (c : Nat) (l : List Int) (w : World) (hr : Ri w .u64 A l) (hb : Wds l) (hm : l.length ≤ 17592186044415) :
    Calls Tryd.prog 48 #[.slice A l.length c] w fun e w' => ∃ v, e = .returned v ∧ Got w' w.heap.size 5 .u8 v (bytesOf l) ∧ Below w.heap.size w w' := by
  obtain ⟨i0, hi, hz0, hz1, hz2⟩ := info_parts int8_info
  have Hr := Lib.hid hr
  have Hb := Lib.hid hb
  clear hr hb
  go_enter Tryd.func48, Tryd.ntmps48
  go_wp2
  go_loopw [3, 4] (fun v i wr => ∃ k : Nat, k ≤ l.length ∧ i = .int .i64 k ∧ Got wr w.heap.size 5 .u8 v (bytesOf (l.take k)) ∧ Below w.heap.size w wr) (fun _ i _ => l.length - (intOf i).toNat)
  case atStart => exact ⟨0, by omega, rfl, Got.empty _ _ _ _, Below.refl _ _⟩
  case round =>
    obtain ⟨k, hk, rfl, hgk, hbk⟩ := hrel
    obtain ⟨wo, rfl⟩ : ∃ wo : World, wo = wr := ⟨_, rfl⟩
    by_cases hlt : k < l.length
    · obtain ⟨g, off, rfl, hc3⟩ := (Hr.out.below hbk (Nat.le_refl _)).at hlt
      have hcell := hc3 k hlt
      have hzk := Hb.out.at k
      clear hc3
      have hl : (k : Int) < (l.length : Int) := by omega
      have HB := Lib.hid hbk
      have HG := Lib.hid hgk
      clear hbk hgk
      go_wp2
      go_loopw [3, 5, 6] (fun v x j wr => ∃ m : Nat, m ≤ 8 ∧ j = .int .i64 m ∧ x = .int .u64 (zat l k / 256 ^ m) ∧ Got wr w.heap.size 5 .u8 v (bytesOf (l.take k) ++ (bytes8 (zat l k)).take m) ∧ Below w.heap.size w wr) (fun _ _ j _ => 8 - (intOf j).toNat)
      case atStart => exact ⟨0, by omega, rfl, by simp, by simpa using HG.out, HB.out⟩
      case round =>
        obtain ⟨m, hmm, rfl, rfl, hgm, hbm⟩ := hrel
        by_cases hm8 : m < 8
        · have hq : 0 ≤ zat l k / 256 ^ m := Int.ediv_nonneg hzk.1 (Int.le_of_lt (Int.pow_pos (by decide)))
          have hq2 : zat l k / 256 ^ m ≤ zat l k := Int.ediv_le_self _ hzk.1
          have HL : Hid ((bytesOf (l.take k) ++ (bytes8 (zat l k)).take m).length = 8 * k + m) := Lib.hid (by rw [List.length_append, bytesOf_length, List.length_take, List.length_take, bytes8_length]; omega)
          have hsz := hbm.size
          have HB2 := Lib.hid hbm
          clear hbm
          go_wp2_with (at_builtin; refine wpList_app1 rfl (.tmp 21) (.tmp 25) 22 rfl Tryd.underlying22 hi hz0 hz1 hz2 rfl hgm rfl (by rw [HL.out]; unfold maxLen; omega) (by rw [HL.out]; omega) hsz ?_; intro v1 w1 hg1 hb1)
          go_roundw
          case rel =>
            refine ⟨m + 1, by omega, by go_num, ?_, ?_, HB2.out.trans hb1⟩
            · rw [Int.pow_succ, Int.ediv_ediv_of_nonneg (Int.le_of_lt (Int.pow_pos (by decide)))]
            · rw [take_succ_zat _ _ (by rw [bytes8_length]; exact hm8), ← List.append_assoc, bytes8_zat _ _ hm8]
              exact hg1
          case measure => simp [intOf]; omega
        · obtain rfl : m = 8 := by omega
          go_wp2
          go_roundw
          case rel =>
            refine ⟨k + 1, by omega, by go_num, ?_, hbm⟩
            rw [bytesOf_take_succ _ _ hlt]
            exact hgm.cast rfl (by rw [List.take_of_length_le (l := bytes8 (zat l k)) (by rw [bytes8_length]; omega)])
          case measure => simp [intOf]; omega
    · obtain rfl : k = l.length := by omega
      go_wp2
      go_ret
      exact ⟨_, rfl, hgk.cast rfl (by rw [List.take_of_length_le (by omega)]), hbk⟩
end Go.Proofs.YtcmljjhnfpfcfaaDoor
