/- The texts Msg, Ref07, Ref14, Two (what is wanted of them), one after the other. -/
import Derived.Test.YtfigoblpkbpenaaDoorMg1
import Derived.Test.YtfigoblpkbpenaaDoorMg2
import Derived.Test.YtfigoblpkbpenaaDoorMg3
import Derived.Test.YtfigoblpkbpenaaDoorMg4
import Derived.Test.YtfigoblpkbpenaaDoorMg5
import Derived.Test.YtfigoblpkbpenaaDoorMg6
import Derived.Test.YtfigoblpkbpenaaDoorMg7
import Derived.Test.YtfigoblpkbpenaaDoorMg8
import Derived.Test.YtfigoblpkbpenaaDoorMg9
import Derived.Test.YtfigoblpkbpenaaDoorMg10
import Derived.Test.YtfigoblpkbpenaaDoorMg11
import Derived.Test.YtfigoblpkbpenaaDoorMg12
import Derived.Test.YtfigoblpkbpenaaDoorMg13
import Derived.Test.YtfigoblpkbpenaaDoorMg14
import Derived.Test.YtfigoblpkbpenaaDoorMg15
import Derived.Test.YtfigoblpkbpenaaDoorMg16
import Derived.Test.YtfigoblpkbpenaaDoorMg17
import Derived.Test.YtfigoblpkbpenaaDoorMg18
import Derived.Test.YtfigoblpkbpenaaDoorMg19
import Derived.Test.YtfigoblpkbpenaaDoorMg20
/- What is known of a message in memory: a slice of slices of words. -/
namespace Go.Proofs.YtfigoblpkbpenaaDoor
open Go.RowKit
set_option linter.unusedVariables false
set_option linter.unusedSimpArgs false
set_option maxRecDepth 100000

/-- segment j of a message, empty behind its end (a name that simp does not open) -/
def seg (ls : List (List Int)) (j : Nat) : List Int := ls.getD j []
theorem seg_mem {ls : List (List Int)} {j : Nat} (h : j < ls.length) : seg ls j ∈ ls := by
  rw [seg, List.getD_eq_getElem?_getD, List.getElem?_eq_getElem h]
  exact List.getElem_mem h
theorem seg_out {ls : List (List Int)} {j : Nat} (h : ls.length ≤ j) : seg ls j = [] := by
  rw [seg, List.getD_eq_getElem?_getD, List.getElem?_eq_none h]; rfl
def Wd2 (ls : List (List Int)) : Prop := ∀ l ∈ ls, Wds l
theorem Wd2.at {ls : List (List Int)} (h : Wd2 ls) (j : Nat) : Wds (seg ls j) := by
  by_cases hj : j < ls.length
  · exact h _ (seg_mem hj)
  · rw [seg_out (by omega)]; intro z hz; cases hz

/-- the slice value v holds the words l -/
def Holds (w : World) (v : Value) (l : List Int) : Prop := ∃ A c, v = .slice A l.length c ∧ Ri w .u64 A l ∧ (A = none → c = 0) ∧ l.length ≤ c ∧ c ≤ maxLen
theorem Holds.below {w w' : World} {v : Value} {l : List Int} {B : Nat} (h : Holds w v l) (hb : Below B w w') (hB : w.heap.size ≤ B) : Holds w' v l := by
  obtain ⟨A, c, h1, h2, h3⟩ := h
  exact ⟨A, c, h1, h2.below hb hB, h3⟩

/-- at A lie the segments ls one after the other -/
def Sg (w : World) (A : Option Addr) (ls : List (List Int)) : Prop :=
  ls = [] ∨ ∃ b off, A = some ⟨b, off, none⟩ ∧ ∀ j, j < ls.length → ∃ v, w.cell? ⟨b, off + j, none⟩ = some v ∧ Holds w v (seg ls j)

theorem Sg.nil (w : World) (A : Option Addr) : Sg w A [] := .inl rfl

theorem Sg.at {w : World} {A : Option Addr} {ls : List (List Int)} (h : Sg w A ls) {i : Nat} (hi : i < ls.length) :
    ∃ b off, A = some ⟨b, off, none⟩ ∧ ∀ j, j < ls.length → ∃ v, w.cell? ⟨b, off + j, none⟩ = some v ∧ Holds w v (seg ls j) := by
  rcases h with rfl | h
  · simp at hi
  · exact h

/-- the segment i: its cell and what it holds -/
theorem Sg.one {w : World} {A : Option Addr} {ls : List (List Int)} (h : Sg w A ls) {i : Nat} (hi : i < ls.length) :
    ∃ b off A' c, A = some ⟨b, off, none⟩ ∧ w.cell? ⟨b, off + i, none⟩ = some (.slice A' (seg ls i).length c) ∧ Ri w .u64 A' (seg ls i) ∧ (A' = none → c = 0) ∧ (seg ls i).length ≤ c ∧ c ≤ 9223372036854775807 := by
  obtain ⟨b, off, hA, hc⟩ := h.at hi
  obtain ⟨v, hv, A', c, rfl, h1, h2, h3, h4⟩ := hc i hi
  unfold maxLen at h4
  exact ⟨b, off, A', c, hA, hv, h1, h2, h3, by omega⟩

theorem Sg.below {w w' : World} {A : Option Addr} {ls : List (List Int)} {B : Nat} (h : Sg w A ls) (hb : Below B w w') (hB : w.heap.size ≤ B) : Sg w' A ls := by
  rcases h with rfl | ⟨b, off, rfl, h⟩
  · exact .inl rfl
  · refine .inr ⟨b, off, rfl, fun j hj => ?_⟩
    obtain ⟨v, hv, hh⟩ := h j hj
    have hlt : b < w.heap.size := World.block_lt_of_cell? w ⟨b, off + j, none⟩ hv
    exact ⟨v, (hb.cell (p := ⟨b, off + j, none⟩) (by show b < B; omega)).trans hv, hh.below hb hB⟩

/-! ## Places of a message -/
def inB (ls : List (List Int)) (s a n : Int) : Bool := decide (0 ≤ s ∧ s < ls.length ∧ 0 ≤ a ∧ 0 ≤ n ∧ a ≤ (seg ls s.toNat).length ∧ n ≤ (seg ls s.toNat).length - a)
def hasB (ls : List (List Int)) (s a : Int) : Bool := decide (0 ≤ s ∧ s < ls.length ∧ 0 ≤ a ∧ a < (seg ls s.toNat).length)
def wordV (ls : List (List Int)) (s a : Int) : Int := if hasB ls s a then zat (seg ls s.toNat) a.toNat else 0
def sliceL (ls : List (List Int)) (s a n : Int) : List Int := ((seg ls s.toNat).drop a.toNat).take n.toNat
end Go.Proofs.YtfigoblpkbpenaaDoor

/- What the reference functions of layer 7 do, each by a contract. -/
namespace Go.Proofs.YtfigoblpkbpenaaDoor
open Go.ChangeShapes Go.WideShapes Go.ChangeAt Go.RowKit
set_option linter.unusedVariables false
set_option linter.unusedSimpArgs false
set_option maxRecDepth 100000

/-- a pointer's descriptor, the segment and the base of its object, and the error -/
structure Fol where
  w : Int
  s : Int
  b : Int
  e : Int
def folE (e : Int) : Fol := ⟨0, 0, 0, e⟩
def followF (ls : List (List Int)) (s a : Int) : Fol :=
  if hasB ls s a = false then folE 2
  else if (wordV ls s a % 4 == 2) = false then ⟨wordV ls s a, s, a + 1, 0⟩
  else if hasB ls (wordV ls s a / 4294967296) (wordV ls s a % 4294967296 / 8) = false then folE 2
  else if wordV ls s a / 4 % 2 = 0 then
    if (wordV ls (wordV ls s a / 4294967296) (wordV ls s a % 4294967296 / 8) % 4 == 2) = true then folE 3
    else ⟨wordV ls (wordV ls s a / 4294967296) (wordV ls s a % 4294967296 / 8), wordV ls s a / 4294967296, wordV ls s a % 4294967296 / 8 + 1, 0⟩
  else if hasB ls (wordV ls s a / 4294967296) (wordV ls s a % 4294967296 / 8 + 1) = false then folE 2
  else if (wordV ls (wordV ls s a / 4294967296) (wordV ls s a % 4294967296 / 8) % 4 == 2) = false ∨ wordV ls (wordV ls s a / 4294967296) (wordV ls s a % 4294967296 / 8) / 4 % 2 = 1 ∨
      1 < (decP (wordV ls (wordV ls s a / 4294967296) (wordV ls s a % 4294967296 / 8 + 1))).k ∨ (decP (wordV ls (wordV ls s a / 4294967296) (wordV ls s a % 4294967296 / 8 + 1))).o ≠ 0 then folE 3
  else ⟨wordV ls (wordV ls s a / 4294967296) (wordV ls s a % 4294967296 / 8 + 1), wordV ls (wordV ls s a / 4294967296) (wordV ls s a % 4294967296 / 8) / 4294967296, wordV ls (wordV ls s a / 4294967296) (wordV ls s a % 4294967296 / 8) % 4294967296 / 8, 0⟩

end Go.Proofs.YtfigoblpkbpenaaDoor

/- The reference functions of layer 14: bytes as words, zeros behind. -/
namespace Go.Proofs.YtfigoblpkbpenaaDoor
open Go.ChangeShapes Go.WideShapes Go.ChangeAt Go.RowKit
set_option linter.unusedVariables false
set_option linter.unusedSimpArgs false
set_option maxRecDepth 100000

theorem rep_snoc (b : List Int) (j : Nat) : (b ++ List.replicate j 0) ++ [0] = b ++ List.replicate (j + 1) 0 := by
  rw [List.append_assoc, List.replicate_succ']
set_option maxRecDepth 100000 in
theorem RefPadded14 (A : Option Addr) (c : Nat) (b : List Int) (n : Nat) (w : World) (hr : Ri w .u8 A b) (hb : Bts b) (hnil : A = none → c = 0) (hbn : b.length ≤ 8 * n) (hm : n ≤ 1099511627776) :
    Calls Tryd.prog 41 #[.slice A b.length c, .int .i64 n] w fun e w' => ∃ v, e = .returned v ∧ Got w' w.heap.size 32 .u64 v (padW b n) ∧ Below w.heap.size w w' := by
  obtain ⟨i0, hi, hz0, hz1, hz2⟩ := info_parts int8_info
  have HR1 := Lib.hid (hr.alloc (.cells #[] 5))
  have HBT := Lib.hid hb
  have HPW : Hid (padW b n = wordsOf (b ++ List.replicate (8 * n - b.length) 0)) := Lib.hid rfl
  have HBZ : Hid (∀ j, Bts (b ++ List.replicate j 0)) := Lib.hid (fun j z hz => by
    rcases List.mem_append.1 hz with hz | hz
    · exact hb z hz
    · rw [List.eq_of_mem_replicate hz]; omega)
  have HNL := Lib.hid hnil
  clear hr hb hnil
  go_enter Tryd.func41, Tryd.ntmps41
  go_wp2_with (at_builtin; refine wpList_appN rfl (.tmp 8) (.tmp 9) 22 rfl Tryd.underlying22 hi hz0 hz1 hz2 rfl (Got.empty_made w 5 .u8 (base := w.heap.size) (Nat.le_refl _)) rfl HR1.out HNL.out (by unfold maxLen; simp; omega) (by simp; omega) (by simp) ?_; intro v2 w2 hg2 hb2)
  have hB0 : Below w.heap.size w w2 := ((Below.refl _ _).alloc (Nat.le_refl _) _).trans hb2
  go_loopw [5] (fun v wr => ∃ j : Nat, b.length + j ≤ 8 * n ∧ Got wr w.heap.size 5 .u8 v (b ++ List.replicate j 0) ∧ Below w.heap.size w wr) (fun v _ => match v with | .slice _ l _ => 8 * n - l | _ => 0)
  case atStart => exact ⟨0, by omega, by simpa using hg2, hB0⟩
  case round =>
    clear hg2 hb2 hB0
    obtain ⟨j, hj, hg, hbr⟩ := hrel
    obtain ⟨A5, c5, rfl, hl5, hm5, hr5⟩ := hg.slice
    have HG := Lib.hid hg
    have HR := Lib.hid hbr
    have hsz := hbr.size
    have hL : (b ++ List.replicate j 0).length = b.length + j := by rw [List.length_append, List.length_replicate]
    have HL := Lib.hid hL
    have HR5 := Lib.hid hr5
    have HBJ := Lib.hid (HBZ.out j)
    have HS := Lib.hid (rep_snoc b j)
    have HEND : Hid (b.length + j = 8 * n → b ++ List.replicate j 0 = b ++ List.replicate (8 * n - b.length) 0) := Lib.hid (fun h => by congr 2; omega)
    clear hg hbr hr5 hl5 hm5
    by_cases hlt : b.length + j < 8 * n
    · have t1 : (((b ++ List.replicate j 0).length : Nat) : Int) < 8 * (n : Int) := by rw [hL]; omega
      generalize b ++ List.replicate j 0 = cur at *
      go_wp2_with (at_builtin; refine wpList_app1 rfl (.tmp 16) (.tmp 17) 22 rfl Tryd.underlying22 hi hz0 hz1 hz2 rfl HG.out rfl (by rw [HL.out]; unfold maxLen; omega) (by rw [HL.out]; omega) hsz ?_; intro v1 w1 hg1 hb1)
      rw [HS.out] at hg1
      obtain ⟨A6, c6, rfl, -⟩ := hg1.slice
      have hl6 : (b ++ List.replicate (j + 1) 0).length = b.length + (j + 1) := by rw [List.length_append, List.length_replicate]
      go_roundw
      case rel => exact ⟨j + 1, by omega, hg1, HR.out.trans hb1⟩
      case measure =>
        simp only [hl6]
        have := HL.out
        simp
        omega
    · have he := HEND.out (by omega)
      have t1 : ¬ ((((b ++ List.replicate j 0).length : Nat) : Int) < 8 * (n : Int)) := by rw [hL]; omega
      rw [← he] at HPW
      have h8 : (b ++ List.replicate j 0).length % 8 = 0 := by rw [hL]; omega
      clear he HEND HS
      have hcl : (b ++ List.replicate j 0).length ≤ 140737488355328 := by rw [hL]; omega
      clear hL
      generalize b ++ List.replicate j 0 = cur at *
      have HWD := Lib.hid (RefWords_yes A5 c5 cur wr HR5.out HBJ.out hcl h8)
      go_wp2_with fail
      refine HWD.out.mono ?_
      rintro e w3 ⟨v3, rfl, hg3, hb3⟩
      have HG3 := Lib.hid (hg3.mono hsz)
      have HB3 := Lib.hid (bel_on HR.out hb3)
      clear hg3 hb3
      go_wp2
      go_ret
      exact ⟨_, rfl, by rw [HPW.out]; exact HG3.out, HB3.out⟩
end Go.Proofs.YtfigoblpkbpenaaDoor

/- Two slices of the call's own that grow in turn: numbers of 64 bits and ints, in blocks apart. -/
namespace Go.Proofs.YtfigoblpkbpenaaDoor
open Go.ChangeShapes Go.WideShapes Go.ChangeAt Go.RowKit
set_option linter.unusedVariables false
set_option linter.unusedSimpArgs false
set_option maxRecDepth 100000

theorem append_block2 {P : Program} {w : World} {base : Nat} {t ty e : TypeId} {i : TypeInfo} {z : Value} (ht : P.underlying t = some (.slice e)) (hi : P.info? e = some i) (hz : i.zero = some z)
    {v : Value} {n : Nat} {xs : List Value} (hown : w.ownsRow base e i.size v n xs) {a : Addr} {m c : Nat} {news : List Value} (hl : news.length = m * i.size) (hnews : ∀ j u, news[j]? = some u → w.cell? (a.add j) = some u)
    (h1 : ∀ u ∈ news, u.oneCell' = true) (hm : 0 < m ∨ v ≠ .slice none 0 0) (h63 : n + m ≤ maxLen) (hbytes : (n + m) * i.bytes ≤ 140737488355328) {v' : Value} {w' : World}
    (hr : (Builtin.append_ #[t, t] ty #[v, .slice (some a) m c]).run P w = .ok v' w') : v'.ownBlock = v.ownBlock ∨ v'.ownBlock = some w.heap.size := by
  by_cases h0 : 0 < m
  · exact append_block ht hi hz hown hl hnews h1 h0 h63 hbytes hr
  · obtain rfl : m = 0 := by omega
    have hv := hm.resolve_left h0
    rcases hown.2 with ⟨rfl, rfl⟩ | ⟨g, cap, cur, rfl, hbg, hg, hnc, hcm, hcs, htake⟩
    · exact absurd rfl hv
    · have hfit : n * i.size + news.length ≤ cur.size := by rw [hl, hcs, ← Nat.add_mul]; exact Nat.mul_le_mul_right _ (by omega)
      rw [run_append_room (P := P) w t ty e i ht hi g n cap cur hg a 0 c news hl hnews h1 (by omega) hfit] at hr
      injection hr with hv hw
      subst hv
      exact .inl rfl

/-- apart: v lies in no block of u -/
def Apart (v u : Value) : Prop := ∀ g, v.ownBlock = some g → u.ownBlock ≠ some g
theorem Apart.symm {v u : Value} (h : Apart v u) : Apart u v := fun g h1 h2 => h g h2 h1
theorem apart_none (v : Value) : Apart v (.slice none 0 0) := fun g _ h => by simp [Value.ownBlock] at h
theorem Got.drewT {w : World} {base : Nat} {E : TypeId} {k : IntKind} {v : Value} {zs : List Int} (h : Got w base E k v zs) : Got w.drew base E k v zs := h
theorem Got.kept {w w' : World} {base : Nat} {E : TypeId} {k : IntKind} {u v : Value} {zs : List Int} (h : Got w base E k u zs) (hg : w.grownBy w' v.ownBlock) (ha : Apart v u) : Got w' base E k u zs := by
  refine World.ownsRow.kept h hg ?_
  cases hu : u.ownBlock with
  | none => exact .inl rfl
  | some g => exact .inr (fun e => ha g e.symm hu)

/-- the numbers ys behind a slice of the call's own, another one apart from it -/
theorem wpList_appT {ops : Array Oper} {rest : List Oper} {o : Oper} {a : Act} {Q : Exit → Act → World → Prop} {w : World} (hgd : o.guard = none) (s x : Operand) (t : TypeId)
    (ho : o.op = .call { callee := .builtin .append, args := #[s, x], argTypes := #[t, t] })
    {base : Nat} {e : TypeId} {i : TypeInfo} {k : IntKind} {bytes : Nat} (ht : Tryd.prog.underlying t = some (.slice e)) (hi : Tryd.prog.info? e = some i) (hz : i.zero = some (.int k 0)) (hsize : i.size = 1) (hby : i.bytes = bytes)
    {v u : Value} {zs ys us : List Int} {E : TypeId} {k2 : IntKind} {A : Option Addr} {c : Nat} (hs : a.eval s = v) (hown : Got w base e k v zs) (hou : Got w base E k2 u us) (hap : Apart v u) (hx : a.eval x = .slice A ys.length c) (hr : Ri w k A ys) (hc : A = none → c = 0) (hm : 0 < ys.length ∨ v ≠ .slice none 0 0)
    (h63 : zs.length + ys.length ≤ maxLen) (hbytes : (zs.length + ys.length) * bytes ≤ 140737488355328) (hbase : base ≤ w.heap.size)
    (h : ∀ v' w', Got w' base e k v' (zs ++ ys) → Got w' base E k2 u us → Apart v' u → Below base w w' → wpList Tryd.prog ops Q rest (a.put o.dst v') w') : wpList Tryd.prog ops Q (o :: rest) a w := by
  cases A with
  | none =>
    have hy : ys = [] := by
      rcases hr with h0 | ⟨b, off, h0, _⟩
      · exact h0
      · cases h0
    subst hy
    obtain rfl := hc rfl
    exact wpList_append_own_none hgd s x t ho base e i 1 ht hi v zs.length _ hs hown hx (h v w (by simpa using hown) hou hap (Below.refl _ _))
  | some ad =>
    have hnews : ∀ j u, (ys.map (Value.int k))[j]? = some u → w.cell? (ad.add j) = some u := by
      intro j u hj
      rcases hr with rfl | ⟨b, off, h0, hcell⟩
      · simp at hj
      · injection h0 with h0
        subst h0
        have hlt : j < ys.length := by
          rcases Nat.lt_or_ge j ys.length with h1 | h1
          · exact h1
          · rw [List.getElem?_eq_none (by simpa using h1)] at hj; cases hj
        have h2 := hcell j hlt
        have e1 : (⟨b, off, none⟩ : Addr).add j = ⟨b, off + j, none⟩ := add_plain b off j
        rw [e1, h2]
        simp [hlt] at hj
        subst hj
        simp [zat, List.getD_eq_getElem?_getD, hlt]
    have hone : ∀ u ∈ ys.map (Value.int k), u.oneCell' = true := by
      intro u hu
      simp at hu
      obtain ⟨z, _, rfl⟩ := hu
      rfl
    refine wpList_plain hgd fun K hK => ?_
    obtain ⟨v', w', hr', k2', k3, -⟩ := run_append_own (P := Tryd.prog) w base t o.type e i (.int k 0) 1 bytes ht hi hz hsize hby rfl (by decide) v zs.length _ hown ad ys.length c (ys.map (Value.int k)) (by simp) hnews hone h63 hbytes hbase
    have k5 := append_block2 ht hi hz (by rw [hsize]; exact hown) (by rw [hsize]; simp) hnews hone hm h63 (by rw [hby]; exact hbytes) hr'
    have hou2 := hou.kept k3 hap
    have hap2 : Apart v' u := by
      intro g hg hu
      rcases k5 with k5 | k5
      · exact hap g (by rw [← k5]; exact hg) hu
      · rw [k5] at hg
        injection hg with hg
        have := (hou.lt g hu).2
        omega
    have hfin := hK _ _ (h v' w' (by unfold Got; simpa using k2') hou2 hap2 ((Below.refl base w).grown k3 hbase (fun g hg => (hown.lt g hg).1)))
    unfold Oper.wp execOp
    simp only [ho, resolve, invoke, builtin, Sem.run_bind, Sem.run_pure, Result.andThen_ok, List.map_toArray, List.map_cons, List.map_nil, hs, hx, hr']
    exact hfin
/-- one number written out behind it -/
theorem wpList_appT1 {ops : Array Oper} {rest : List Oper} {o : Oper} {a : Act} {Q : Exit → Act → World → Prop} {w : World} (hgd : o.guard = none) (s x : Operand) (t : TypeId)
    (ho : o.op = .call { callee := .builtin .append, args := #[s, x], argTypes := #[t, t] })
    {base : Nat} {e : TypeId} {i : TypeInfo} {k : IntKind} {bytes : Nat} (ht : Tryd.prog.underlying t = some (.slice e)) (hi : Tryd.prog.info? e = some i) (hz : i.zero = some (.int k 0)) (hsize : i.size = 1) (hby : i.bytes = bytes)
    {v u : Value} {zs us : List Int} {y : Int} {E : TypeId} {k2 : IntKind} (hs : a.eval s = v) (hown : Got w base e k v zs) (hou : Got w base E k2 u us) (hap : Apart v u) {T : TypeId} (hx : a.eval x = .slice (some ⟨w.heap.size, 0, none⟩) 1 1)
    (h63 : zs.length + 1 ≤ maxLen) (hbytes : (zs.length + 1) * bytes ≤ 140737488355328) (hbase : base ≤ w.heap.size)
    (h : ∀ v' w', Got w' base e k v' (zs ++ [y]) → Got w' base E k2 u us → Apart v' u → Below base w w' → wpList Tryd.prog ops Q rest (a.put o.dst v') w') : wpList Tryd.prog ops Q (o :: rest) a (w.alloc (.cells #[.int k y] T)) := by
  have hal : Below w.heap.size w (w.alloc (.cells #[.int k y] T)) := (Below.refl _ _).alloc (Nat.le_refl _) _
  refine wpList_appT hgd s x t ho (ys := [y]) ht hi hz hsize hby hs (hown.below hal (Nat.le_refl _)) (hou.below hal (Nat.le_refl _)) hap (by rw [hx]; rfl) (Ri.lit w k [y] T) (fun h => by cases h) (.inl (by simp)) h63 hbytes (by simp; omega) ?_
  intro v' w' h1 h2 h3 h4
  exact h v' w' h1 h2 h3 ((hal.mono hbase).trans h4)
end Go.Proofs.YtfigoblpkbpenaaDoor
