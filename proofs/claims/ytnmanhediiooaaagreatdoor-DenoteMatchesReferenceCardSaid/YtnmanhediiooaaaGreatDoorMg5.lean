/- The texts Far, Clone, List, Res1, Res2, Res3, Resolve, DenC, TrimA, TrimB (what is wanted of them), one after the other. -/
import Derived.Test.YtnmanhediiooaaaGreatDoorMg4
import Derived.BigQuiet
import Derived.Lib.SliceRun
import Derived.Laws.EntriesVeiled
/- What the functions of package far do, each by a contract (by the code at d748235; the laws rest on the last three statements alone). -/
namespace Go.Proofs.YtnmanhediiooaaaGreatDoor
open Go.ChangeShapes Go.WideShapes Go.ChangeAt Go.RowKit
set_option linter.unusedVariables false
set_option linter.unusedSimpArgs false
set_option maxRecDepth 100000

theorem ptr_kind (k o d p el c pa sg lo : Int) (db : Bool) (w : World) : (Instr.field 45 (.agg #[.int .i64 k, .int .i64 o, .int .i64 d, .int .i64 p, .int .i64 el, .int .i64 c, .bool db, .int .i64 pa, .int .u32 sg, .int .u32 lo]) 0).run Tryz.prog w = .ok (.int .i64 k) w := by kernel_rfl

theorem FTarget_any (k o d p el c pa sg lo : Int) (db : Bool) (w : World) (h1 : 0 ≤ sg) (h2 : sg < 4294967296) :
    Calls Tryz.prog 96 #[.agg #[.int .i64 k, .int .i64 o, .int .i64 d, .int .i64 p, .int .i64 el, .int .i64 c, .bool db, .int .i64 pa, .int .u32 sg, .int .u32 lo]] w fun e w' => e = .returned (.tuple #[.int .i64 sg, .int .i64 pa]) ∧ Below w.heap.size w w' := by
  go_enter Tryz.func96, Tryz.ntmps96
  go_wp2
  go_quiet (fail)
  go_wp2
  go_ret2
  exact ⟨rfl, bel_drewN ((Below.refl _ _).alloc (Nat.le_refl _) _) _⟩

theorem sg_alloc {w : World} {A : Option Addr} {ls : List (List Int)} (h : Sg w A ls) (o : Obj) : Sg (w.alloc o) A ls := h.below ((Below.refl _ _).alloc (Nat.le_refl _) o) (Nat.le_refl _)

/-- a step's result -/
def readF (ls : List (List Int)) (s a : Int) : Fol := if hasB ls s a = true then ⟨wordV ls s a, s, a + 1, 0⟩ else folE 2

theorem hasB_bd {ls : List (List Int)} {s a : Int} (h : hasB ls s a = true) (hf : ∀ j, (seg ls j).length ≤ 140737488355328) : 0 ≤ a ∧ a < 140737488355328 := by
  unfold hasB at h
  have h7 := of_decide_eq_true h
  have h8 := hf s.toNat
  omega

theorem FRead_any (A : Option Addr) (c : Nat) (ls : List (List Int)) (s a : Int) (w : World) (hs : Sg w A ls) (hm : ls.length ≤ 140737488355328) (hf : ∀ j, (seg ls j).length ≤ 140737488355328) (hs0 : -9223372036854775808 ≤ s) (hs1 : s ≤ 9223372036854775807) (ha0 : -9223372036854775808 ≤ a) (ha1 : a ≤ 9223372036854775807) :
    Calls Tryz.prog 78 #[.slice A ls.length c, .int .i64 s, .int .i64 a] w fun e w' => e = .returned (.tuple #[.agg #[.int .u64 (readF ls s a).w, .int .i64 (readF ls s a).s, .int .i64 (readF ls s a).b], .agg #[.int .i64 (readF ls s a).e]]) ∧ Below w.heap.size w w' := by
  have HW := Lib.hid (fun w2 hs2 => AWordF_any A c ls s a w2 hs2 hm hs0 hs1 ha0 ha1)
  have Hs := Lib.hid hs
  cases hb : hasB ls s a with
  | true =>
    have hab := hasB_bd hb hf
    have HR : Hid (readF ls s a = ⟨wordV ls s a, s, a + 1, 0⟩) := Lib.hid (by unfold readF; rw [if_pos hb])
    rw [hb] at HW
    clear hs hf hb
    generalize wordV ls s a = x at *
    go_enter Tryz.func78, Tryz.ntmps78
    go_wp2_with fail
    refine (HW.out _ (sg_alloc (sg_alloc Hs.out _) _)).mono ?_
    rintro e w' ⟨rfl, rfl⟩
    go_wp2
    refine abs_post (F := fun W => Blk W w.heap.size #[.int .u64 x, .int .i64 s, .int .i64 (a + 1)] ∧ Blk W (w.heap.size + 1) #[.int .i64 0] ∧ Below w.heap.size w W) ⟨?_, ?_, ?_⟩ ?_
    · exact (Blk.fresh w _ _).alloc _
    · have h := Blk.fresh (w.alloc (.cells #[.int .u64 x, .int .i64 s, .int .i64 (a + 1)] 113)) #[.int .i64 0] 115
      rw [World.size_alloc] at h
      exact h
    · exact ((Below.refl _ _).alloc (Nat.le_refl _) _).alloc (by simp) _
    rintro V ⟨B6, B7, hbv⟩
    exact bodyPost_ret (v := .tuple #[.agg #[.int .u64 x, .int .i64 s, .int .i64 (a + 1)], .agg #[.int .i64 0]]) (by simp [results, Tryz.results78, go_sem, B6.cell, B7.cell]) rfl ⟨by rw [HR.out]; try rfl, hbv⟩
  | false =>
    have HR : Hid (readF ls s a = folE 2) := Lib.hid (by unfold readF; rw [if_neg (by rw [hb]; exact Bool.false_ne_true)])
    rw [hb] at HW
    clear hs hf hb
    generalize wordV ls s a = x at *
    go_enter Tryz.func78, Tryz.ntmps78
    go_wp2_with fail
    refine (HW.out _ (sg_alloc (sg_alloc Hs.out _) _)).mono ?_
    rintro e w' ⟨rfl, rfl⟩
    go_wp2
    refine abs_post (F := fun W => Blk W w.heap.size #[.int .u64 0, .int .i64 0, .int .i64 0] ∧ Blk W (w.heap.size + 1) #[.int .i64 2] ∧ Below w.heap.size w W) ⟨?_, ?_, ?_⟩ ?_
    · exact (Blk.fresh w _ _).alloc _
    · have h := Blk.fresh (w.alloc (.cells #[.int .u64 0, .int .i64 0, .int .i64 0] 113)) #[.int .i64 2] 115
      rw [World.size_alloc] at h
      exact h
    · exact ((Below.refl _ _).alloc (Nat.le_refl _) _).alloc (by simp) _
    rintro V ⟨B6, B7, hbv⟩
    exact bodyPost_ret (v := .tuple #[.agg #[.int .u64 0, .int .i64 0, .int .i64 0], .agg #[.int .i64 2]]) (by simp [results, Tryz.results78, go_sem, B6.cell, B7.cell]) rfl ⟨by rw [HR.out]; try rfl, hbv⟩

theorem decP_far {x : Int} (h : x % 4 = 2) (h5 : 0 ≤ x) (h6 : x < 18446744073709551616) : decP x = ⟨2, 0, 0, 0, 0, 0, x / 4 % 2 == 1, x % 4294967296 / 8, x / 4294967296, 0⟩ := by
  unfold decP
  rw [if_neg (by omega), if_neg (by omega), if_pos h, show x / 8 % 536870912 = x % 4294967296 / 8 by omega, show x / 4294967296 % 4294967296 = x / 4294967296 by omega]

/-- may the word be the second one of a landing pad of two? -/
def tagB (y : Int) : Bool := decide (((decP y).k = 0 ∨ (decP y).k = 1) ∧ (decP y).o = 0)

theorem FTag_any (y : Int) (w : World) (h5 : 0 ≤ y) (h6 : y < 18446744073709551616) :
    Calls Tryz.prog 104 #[.int .u64 y] w fun e w' => e = .returned (.bool (tagB y)) ∧ Below w.heap.size w w' := by
  have HD := Lib.hid (fun w2 => Decode_any y w2 h5 h6)
  have HT : Hid (tagB y = decide (((decP y).k = 0 ∨ (decP y).k = 1) ∧ (decP y).o = 0)) := Lib.hid rfl
  generalize tagB y = tb at *
  generalize decP y = p at *
  by_cases k0 : p.k = 0
  · have t0 : (p.k == 0) = true := beq_iff_eq.2 k0
    have HX : Hid (tb = (p.o == 0)) := Lib.hid (by rw [HT.out, k0]; simp; rfl)
    clear k0 HT
    go_enter Tryz.func104, Tryz.ntmps104
    go_wp2_with fail
    refine (HD.out _).mono ?_
    rintro e w1 ⟨rfl, hb⟩
    have HB := Lib.hid hb
    clear hb
    go_wp2
    go_ret
    exact ⟨by rw [HX.out]; rfl, HB.out.alloc HB.out.size _⟩
  by_cases k1 : p.k = 1
  · have t0 : (p.k == 0) = false := beq_eq_false_iff_ne.2 k0
    have t1 : (p.k == 1) = true := beq_iff_eq.2 k1
    have HX : Hid (tb = (p.o == 0)) := Lib.hid (by rw [HT.out, k1]; simp; rfl)
    clear k0 k1 HT
    go_enter Tryz.func104, Tryz.ntmps104
    go_wp2_with fail
    refine (HD.out _).mono ?_
    rintro e w1 ⟨rfl, hb⟩
    have HB := Lib.hid hb
    clear hb
    go_wp2
    go_ret
    exact ⟨by rw [HX.out]; rfl, HB.out.alloc HB.out.size _⟩
  · have t0 : (p.k == 0) = false := beq_eq_false_iff_ne.2 k0
    have t1 : (p.k == 1) = false := beq_eq_false_iff_ne.2 k1
    have HX : Hid (tb = false) := Lib.hid (by rw [HT.out]; simp [k0, k1])
    clear k0 k1 HT
    go_enter Tryz.func104, Tryz.ntmps104
    go_wp2_with fail
    refine (HD.out _).mono ?_
    rintro e w1 ⟨rfl, hb⟩
    have HB := Lib.hid hb
    clear hb
    go_wp2
    go_ret
    exact ⟨by rw [HX.out]; rfl, HB.out.alloc HB.out.size _⟩

/-- what the two words of a landing pad of two yield -/
def joinF (x y : Int) : Fol := if (x % 4 == 2) = true ∧ ¬ x / 4 % 2 = 1 ∧ tagB y = true then ⟨y, x / 4294967296, x % 4294967296 / 8, 0⟩ else folE 3

set_option maxRecDepth 100000 in
set_option maxHeartbeats 1000000 in
theorem FJoin_any (x y : Int) (w : World) (h5 : 0 ≤ x) (h6 : x < 18446744073709551616) (g5 : 0 ≤ y) (g6 : y < 18446744073709551616) :
    Calls Tryz.prog 97 #[.int .u64 x, .int .u64 y] w fun e w' => e = .returned (.tuple #[.agg #[.int .u64 (joinF x y).w, .int .i64 (joinF x y).s, .int .i64 (joinF x y).b], .agg #[.int .i64 (joinF x y).e]]) ∧ Below w.heap.size w w' := by
  have HD := Lib.hid (fun w2 => Decode_any x w2 h5 h6)
  by_cases k2 : x % 4 = 2
  · have HP := decP_far k2 h5 h6
    rw [HP] at HD
    clear HP
    have q1 : 0 ≤ x / 4294967296 ∧ x / 4294967296 < 4294967296 := by omega
    by_cases d : x / 4 % 2 = 1
    · have hd : (x / 4 % 2 == 1) = true := beq_iff_eq.2 d
      have HR : Hid (joinF x y = folE 3) := Lib.hid (by unfold joinF; rw [if_neg (by omega)])
      rw [hd] at HD
      clear d hd k2
      go_enter Tryz.func97, Tryz.ntmps97
      go_wp2_with fail
      refine (HD.out _).mono ?_
      rintro e w1 ⟨rfl, hb⟩
      clear HD
      have B4 := ((Blk.fresh w #[.int .u64 0, .int .i64 0, .int .i64 0] 113).alloc (.cells #[.int .i64 0] 115)).below hb
      have B5 := (Blk.fresh (w.alloc (.cells #[.int .u64 0, .int .i64 0, .int .i64 0] 113)) #[.int .i64 0] 115).below hb
      rw [World.size_alloc] at B5
      have HB : Hid (Below w.heap.size w w1) := Lib.hid ((((Below.refl _ _).alloc (Nat.le_refl _) _).alloc (by simp) _).trans (hb.mono (by simp; omega)))
      clear hb
      have H4 := Lib.hid B4
      have H5 := Lib.hid B5
      obtain ⟨x4, y4, z4⟩ := B4
      obtain ⟨x5, y5, z5⟩ := B5

      go_wp2
      refine abs_post (F := fun W => Blk W w.heap.size #[.int .u64 0, .int .i64 0, .int .i64 0] ∧ Blk W (w.heap.size + 1) #[.int .i64 3] ∧ Below w.heap.size w W) ⟨?_, ?_, ?_⟩ ?_
      · exact ((((H4.out.set 0 (by simp) _).set 1 (by simp) _).set 2 (by simp) _).other (by simp) _).alloc _
      · exact ((((H5.out.other (by simp) _).other (by simp) _).other (by simp) _).set 0 (by simp) _).alloc _
      · repeat (with_reducible first | exact HB.out | refine bel_drewN ?_ _ | refine bel_drew ?_ | refine Below.alloc ?_ (by have := HB.out.size; simp [World.setCell]; omega) _ | refine Below.setCell ?_ (by first | (simp; done) | (simp; omega)) _)
      rintro V ⟨B6, B7, hbv⟩
      exact bodyPost_ret (v := .tuple #[.agg #[.int .u64 0, .int .i64 0, .int .i64 0], .agg #[.int .i64 3]]) (by simp [results, Tryz.results97, go_sem, B6.cell, B7.cell]) rfl ⟨by rw [HR.out]; try rfl, hbv⟩
    · have hd : (x / 4 % 2 == 1) = false := beq_eq_false_iff_ne.2 d
      rw [hd] at HD
      have HTG := Lib.hid (fun w2 => FTag_any y w2 g5 g6)
      cases ht : tagB y with
      | true =>
        have HR : Hid (joinF x y = ⟨y, x / 4294967296, x % 4294967296 / 8, 0⟩) := Lib.hid (by unfold joinF; rw [if_pos ⟨beq_iff_eq.2 k2, d, ht⟩])
        rw [ht] at HTG
        clear d hd k2 ht
        go_enter Tryz.func97, Tryz.ntmps97
        go_wp2_with fail
        refine (HD.out _).mono ?_
        rintro e w1 ⟨rfl, hb⟩
        clear HD
        have B4 := ((Blk.fresh w #[.int .u64 0, .int .i64 0, .int .i64 0] 113).alloc (.cells #[.int .i64 0] 115)).below hb
        have B5 := (Blk.fresh (w.alloc (.cells #[.int .u64 0, .int .i64 0, .int .i64 0] 113)) #[.int .i64 0] 115).below hb
        rw [World.size_alloc] at B5
        have HB : Hid (Below w.heap.size w w1) := Lib.hid ((((Below.refl _ _).alloc (Nat.le_refl _) _).alloc (by simp) _).trans (hb.mono (by simp; omega)))
        clear hb
        have H4 := Lib.hid B4
        have H5 := Lib.hid B5
        obtain ⟨x4, y4, z4⟩ := B4
        obtain ⟨x5, y5, z5⟩ := B5

        go_wp2_with fail
        refine (HTG.out _).mono ?_
        rintro e w2 ⟨rfl, hb⟩
        have B6 := (Blk.fresh w1 #[.int .i64 2, .int .i64 0, .int .i64 0, .int .i64 0, .int .i64 0, .int .i64 0, .bool false, .int .i64 (x % 4294967296 / 8), .int .u32 (x / 4294967296), .int .u32 0] 45).below hb
        have B4 := (H4.out.alloc (.cells #[.int .i64 2, .int .i64 0, .int .i64 0, .int .i64 0, .int .i64 0, .int .i64 0, .bool false, .int .i64 (x % 4294967296 / 8), .int .u32 (x / 4294967296), .int .u32 0] 45)).below hb
        have B5 := (H5.out.alloc (.cells #[.int .i64 2, .int .i64 0, .int .i64 0, .int .i64 0, .int .i64 0, .int .i64 0, .bool false, .int .i64 (x % 4294967296 / 8), .int .u32 (x / 4294967296), .int .u32 0] 45)).below hb
        have HB : Hid (Below w.heap.size w w2) := Lib.hid ((HB.out.alloc HB.out.size _).trans (hb.mono (by have := HB.out.size; simp; omega)))
        have hz := HB.out.size
        have z1 := z5
        clear hb H4 H5 x4 x5 y4 y5 z4 z5
        have hz6 : w.heap.size + 1 < w1.heap.size := z1
        have H6 := Lib.hid B6
        obtain ⟨x6, y6, z6⟩ := B6
        have H4 := Lib.hid B4
        have H5 := Lib.hid B5
        obtain ⟨x4, y4, z4⟩ := B4
        obtain ⟨x5, y5, z5⟩ := B5

        go_wp2_with fail
        refine (FTarget_any _ _ _ _ _ _ _ _ _ _ _ q1.1 q1.2).mono ?_
        rintro e w3 ⟨rfl, hb⟩
        have B4 := H4.out.below hb
        have B5 := H5.out.below hb
        have HB : Hid (Below w.heap.size w w3) := Lib.hid (HB.out.trans (hb.mono HB.out.size))
        clear hb H4 H5 x4 x5 y4 y5 z4 z5
        have H4 := Lib.hid B4
        have H5 := Lib.hid B5
        obtain ⟨x4, y4, z4⟩ := B4
        obtain ⟨x5, y5, z5⟩ := B5

        go_wp2
        refine abs_post (F := fun W => Blk W w.heap.size #[.int .u64 y, .int .i64 (x / 4294967296), .int .i64 (x % 4294967296 / 8)] ∧ Blk W (w.heap.size + 1) #[.int .i64 0] ∧ Below w.heap.size w W) ⟨?_, ?_, ?_⟩ ?_
        · exact ((((H4.out.set 0 (by simp) _).set 1 (by simp) _).set 2 (by simp) _).other (by simp) _)
        · exact ((((H5.out.other (by simp) _).other (by simp) _).other (by simp) _).set 0 (by simp) _)
        · repeat (with_reducible first | exact HB.out | refine bel_drewN ?_ _ | refine bel_drew ?_ | refine Below.alloc ?_ (by have := HB.out.size; simp [World.setCell]; omega) _ | refine Below.setCell ?_ (by first | (simp; done) | (simp; omega)) _)
        rintro V ⟨B6, B7, hbv⟩
        exact bodyPost_ret (v := .tuple #[.agg #[.int .u64 y, .int .i64 (x / 4294967296), .int .i64 (x % 4294967296 / 8)], .agg #[.int .i64 0]]) (by simp [results, Tryz.results97, go_sem, B6.cell, B7.cell]) rfl ⟨by rw [HR.out]; try rfl, hbv⟩
      | false =>
        have HR : Hid (joinF x y = folE 3) := Lib.hid (by unfold joinF; rw [if_neg (by rw [ht]; simp)])
        rw [ht] at HTG
        clear d hd k2 ht
        go_enter Tryz.func97, Tryz.ntmps97
        go_wp2_with fail
        refine (HD.out _).mono ?_
        rintro e w1 ⟨rfl, hb⟩
        clear HD
        have B4 := ((Blk.fresh w #[.int .u64 0, .int .i64 0, .int .i64 0] 113).alloc (.cells #[.int .i64 0] 115)).below hb
        have B5 := (Blk.fresh (w.alloc (.cells #[.int .u64 0, .int .i64 0, .int .i64 0] 113)) #[.int .i64 0] 115).below hb
        rw [World.size_alloc] at B5
        have HB : Hid (Below w.heap.size w w1) := Lib.hid ((((Below.refl _ _).alloc (Nat.le_refl _) _).alloc (by simp) _).trans (hb.mono (by simp; omega)))
        clear hb
        have H4 := Lib.hid B4
        have H5 := Lib.hid B5
        obtain ⟨x4, y4, z4⟩ := B4
        obtain ⟨x5, y5, z5⟩ := B5

        go_wp2_with fail
        refine (HTG.out _).mono ?_
        rintro e w2 ⟨rfl, hb⟩
        have B6 := (Blk.fresh w1 #[.int .i64 2, .int .i64 0, .int .i64 0, .int .i64 0, .int .i64 0, .int .i64 0, .bool false, .int .i64 (x % 4294967296 / 8), .int .u32 (x / 4294967296), .int .u32 0] 45).below hb
        have B4 := (H4.out.alloc (.cells #[.int .i64 2, .int .i64 0, .int .i64 0, .int .i64 0, .int .i64 0, .int .i64 0, .bool false, .int .i64 (x % 4294967296 / 8), .int .u32 (x / 4294967296), .int .u32 0] 45)).below hb
        have B5 := (H5.out.alloc (.cells #[.int .i64 2, .int .i64 0, .int .i64 0, .int .i64 0, .int .i64 0, .int .i64 0, .bool false, .int .i64 (x % 4294967296 / 8), .int .u32 (x / 4294967296), .int .u32 0] 45)).below hb
        have HB : Hid (Below w.heap.size w w2) := Lib.hid ((HB.out.alloc HB.out.size _).trans (hb.mono (by have := HB.out.size; simp; omega)))
        have hz := HB.out.size
        have z1 := z5
        clear hb H4 H5 x4 x5 y4 y5 z4 z5
        have hz6 : w.heap.size + 1 < w1.heap.size := z1
        have H6 := Lib.hid B6
        obtain ⟨x6, y6, z6⟩ := B6
        have H4 := Lib.hid B4
        have H5 := Lib.hid B5
        obtain ⟨x4, y4, z4⟩ := B4
        obtain ⟨x5, y5, z5⟩ := B5

        go_wp2
        refine abs_post (F := fun W => Blk W w.heap.size #[.int .u64 0, .int .i64 0, .int .i64 0] ∧ Blk W (w.heap.size + 1) #[.int .i64 3] ∧ Below w.heap.size w W) ⟨?_, ?_, ?_⟩ ?_
        · exact ((((H4.out.set 0 (by simp) _).set 1 (by simp) _).set 2 (by simp) _).other (by simp) _)
        · exact ((((H5.out.other (by simp) _).other (by simp) _).other (by simp) _).set 0 (by simp) _)
        · repeat (with_reducible first | exact HB.out | refine bel_drewN ?_ _ | refine bel_drew ?_ | refine Below.alloc ?_ (by have := HB.out.size; simp [World.setCell]; omega) _ | refine Below.setCell ?_ (by first | (simp; done) | (simp; omega)) _)
        rintro V ⟨B6, B7, hbv⟩
        exact bodyPost_ret (v := .tuple #[.agg #[.int .u64 0, .int .i64 0, .int .i64 0], .agg #[.int .i64 3]]) (by simp [results, Tryz.results97, go_sem, B6.cell, B7.cell]) rfl ⟨by rw [HR.out]; try rfl, hbv⟩
  · have HR : Hid (joinF x y = folE 3) := Lib.hid (by unfold joinF; rw [if_neg (by simp; intro h; exact absurd h k2)])
    have hk := decP_k x h5
    have t2 : (x % 4 == 2) = false := beq_eq_false_iff_ne.2 k2
    rw [hk] at HD
    clear hk k2
    generalize decP x = p at *
    go_enter Tryz.func97, Tryz.ntmps97
    go_wp2_with fail
    refine (HD.out _).mono ?_
    rintro e w1 ⟨rfl, hb⟩
    clear HD
    have B4 := ((Blk.fresh w #[.int .u64 0, .int .i64 0, .int .i64 0] 113).alloc (.cells #[.int .i64 0] 115)).below hb
    have B5 := (Blk.fresh (w.alloc (.cells #[.int .u64 0, .int .i64 0, .int .i64 0] 113)) #[.int .i64 0] 115).below hb
    rw [World.size_alloc] at B5
    have HB : Hid (Below w.heap.size w w1) := Lib.hid ((((Below.refl _ _).alloc (Nat.le_refl _) _).alloc (by simp) _).trans (hb.mono (by simp; omega)))
    clear hb
    have H4 := Lib.hid B4
    have H5 := Lib.hid B5
    obtain ⟨x4, y4, z4⟩ := B4
    obtain ⟨x5, y5, z5⟩ := B5

    go_wp2
    refine abs_post (F := fun W => Blk W w.heap.size #[.int .u64 0, .int .i64 0, .int .i64 0] ∧ Blk W (w.heap.size + 1) #[.int .i64 3] ∧ Below w.heap.size w W) ⟨?_, ?_, ?_⟩ ?_
    · exact ((((H4.out.set 0 (by simp) _).set 1 (by simp) _).set 2 (by simp) _).other (by simp) _).alloc _
    · exact ((((H5.out.other (by simp) _).other (by simp) _).other (by simp) _).set 0 (by simp) _).alloc _
    · repeat (with_reducible first | exact HB.out | refine bel_drewN ?_ _ | refine bel_drew ?_ | refine Below.alloc ?_ (by have := HB.out.size; simp [World.setCell]; omega) _ | refine Below.setCell ?_ (by first | (simp; done) | (simp; omega)) _)
    rintro V ⟨B6, B7, hbv⟩
    exact bodyPost_ret (v := .tuple #[.agg #[.int .u64 0, .int .i64 0, .int .i64 0], .agg #[.int .i64 3]]) (by simp [results, Tryz.results97, go_sem, B6.cell, B7.cell]) rfl ⟨by rw [HR.out]; try rfl, hbv⟩

/-- what a landing pad of one word yields -/
def oneF (ls : List (List Int)) (sg pa : Int) : Fol := if hasB ls sg pa = true then (if (wordV ls sg pa % 4 == 2) = true then folE 3 else ⟨wordV ls sg pa, sg, pa + 1, 0⟩) else folE 2

theorem decP_kB (x : Int) (h : 0 ≤ x) : Hid ((decP x).k = x % 4) := Lib.hid (decP_k x h)

set_option maxRecDepth 100000 in
set_option maxHeartbeats 1000000 in
theorem FSingle_any (A : Option Addr) (c : Nat) (ls : List (List Int)) (k o d p el cc pa sg lo : Int) (db : Bool) (w : World) (hs : Sg w A ls) (hw : Wd2 ls) (hm : ls.length ≤ 140737488355328) (hf : ∀ j, (seg ls j).length ≤ 140737488355328) (g1 : 0 ≤ sg) (g2 : sg < 4294967296) (g3 : 0 ≤ pa) (g4 : pa < 536870912) :
    Calls Tryz.prog 80 #[.slice A ls.length c, .agg #[.int .i64 k, .int .i64 o, .int .i64 d, .int .i64 p, .int .i64 el, .int .i64 cc, .bool db, .int .i64 pa, .int .u32 sg, .int .u32 lo]] w fun e w' => e = .returned (.tuple #[.agg #[.int .u64 (oneF ls sg pa).w, .int .i64 (oneF ls sg pa).s, .int .i64 (oneF ls sg pa).b], .agg #[.int .i64 (oneF ls sg pa).e]]) ∧ Below w.heap.size w w' := by
  have HRD := Lib.hid (fun w2 hs2 => FRead_any A c ls sg pa w2 hs2 hm hf (by omega) (by omega) (by omega) (by omega))
  have Hs := Lib.hid hs
  have hbd := wordV_bd hw sg pa
  cases hb : hasB ls sg pa with
  | true =>
    have hrd : readF ls sg pa = ⟨wordV ls sg pa, sg, pa + 1, 0⟩ := by unfold readF; rw [if_pos hb]
    rw [hrd] at HRD
    have HDC := Lib.hid (fun w2 => Decode_any (wordV ls sg pa) w2 hbd.1 hbd.2)
    have HK := decP_kB _ hbd.1
    have hfd := ptr_kind
    cases h2 : (wordV ls sg pa % 4 == 2) with
    | true =>
      have HR : Hid (oneF ls sg pa = folE 3) := Lib.hid (by unfold oneF; rw [if_pos hb, if_pos h2])
      clear hrd hb hs hw hf
      generalize wordV ls sg pa = y at *
      rw [HK.out] at HDC
      clear HK
      generalize decP y = q at *
      go_enter Tryz.func80, Tryz.ntmps80
      go_wp2_with fail
      refine (FTarget_any _ _ _ _ _ _ _ _ _ _ _ g1 g2).mono ?_
      rintro e w1 ⟨rfl, hb⟩
      have B4 := ((Blk.fresh (w.alloc (.cells #[.int .i64 k, .int .i64 o, .int .i64 d, .int .i64 p, .int .i64 el, .int .i64 cc, .bool db, .int .i64 pa, .int .u32 sg, .int .u32 lo] 45)) #[.int .u64 0, .int .i64 0, .int .i64 0] 113).alloc (.cells #[.int .i64 0] 115)).below hb
      have B5 := (Blk.fresh ((w.alloc (.cells #[.int .i64 k, .int .i64 o, .int .i64 d, .int .i64 p, .int .i64 el, .int .i64 cc, .bool db, .int .i64 pa, .int .u32 sg, .int .u32 lo] 45)).alloc (.cells #[.int .u64 0, .int .i64 0, .int .i64 0] 113)) #[.int .i64 0] 115).below hb
      rw [World.size_alloc, World.size_alloc] at B5
      rw [World.size_alloc] at B4
      have HB : Hid (Below w.heap.size w w1) := Lib.hid (((((Below.refl _ _).alloc (Nat.le_refl _) _).alloc (by simp) _).alloc (by simp; omega) _).trans (hb.mono (by simp; omega)))
      clear hb
      have H4 := Lib.hid B4
      have H5 := Lib.hid B5
      obtain ⟨x4, y4, z4⟩ := B4
      obtain ⟨x5, y5, z5⟩ := B5

      go_wp2_with fail
      refine (HRD.out _ (Hs.out.below HB.out (Nat.le_refl _))).mono ?_
      rintro e w2 ⟨rfl, hb⟩
      have B4 := H4.out.below hb
      have B5 := H5.out.below hb
      have HB : Hid (Below w.heap.size w w2) := Lib.hid (HB.out.trans (hb.mono HB.out.size))
      clear hb H4 H5 x4 x5 y4 y5 z4 z5 HRD
      have H4 := Lib.hid B4
      have H5 := Lib.hid B5
      obtain ⟨x4, y4, z4⟩ := B4
      obtain ⟨x5, y5, z5⟩ := B5

      go_wp2_with fail
      refine (HDC.out _).mono ?_
      rintro e w3 ⟨rfl, hb⟩
      have B8 := ((Blk.fresh w2 #[.int .u64 y, .int .i64 sg, .int .i64 (pa + 1)] 113).alloc (.cells #[.int .i64 0] 115)).below hb
      have B4 := ((H4.out.alloc (.cells #[.int .u64 y, .int .i64 sg, .int .i64 (pa + 1)] 113)).alloc (.cells #[.int .i64 0] 115)).below hb
      have B5 := ((H5.out.alloc (.cells #[.int .u64 y, .int .i64 sg, .int .i64 (pa + 1)] 113)).alloc (.cells #[.int .i64 0] 115)).below hb
      have hz := HB.out.size
      have z1 := z5
      have HB : Hid (Below w.heap.size w w3) := Lib.hid (((HB.out.alloc HB.out.size _).alloc (by simp; omega) _).trans (hb.mono (by simp; omega)))
      clear hb H4 H5 x4 x5 y4 y5 z4 z5 HDC
      have hz6 : w.heap.size + 2 < w2.heap.size := z1
      have H8 := Lib.hid B8
      obtain ⟨x8, y8, z8⟩ := B8
      have H4 := Lib.hid B4
      have H5 := Lib.hid B5
      obtain ⟨x4, y4, z4⟩ := B4
      obtain ⟨x5, y5, z5⟩ := B5

      go_wp2
      refine abs_post (F := fun W => Blk W (w.heap.size + 1) #[.int .u64 0, .int .i64 0, .int .i64 0] ∧ Blk W (w.heap.size + 2) #[.int .i64 3] ∧ Below w.heap.size w W) ⟨?_, ?_, ?_⟩ ?_
      · exact ((((H4.out.set 0 (by simp) _).set 1 (by simp) _).set 2 (by simp) _).other (by simp) _)
      · exact ((((H5.out.other (by simp) _).other (by simp) _).other (by simp) _).set 0 (by simp) _)
      · repeat (with_reducible first | exact HB.out | refine bel_drewN ?_ _ | refine bel_drew ?_ | refine Below.alloc ?_ (by have := HB.out.size; simp [World.setCell]; omega) _ | refine Below.setCell ?_ (by first | (simp; done) | (simp; omega)) _)
      rintro V ⟨B6, B7, hbv⟩
      exact bodyPost_ret (v := .tuple #[.agg #[.int .u64 0, .int .i64 0, .int .i64 0], .agg #[.int .i64 3]]) (by simp [results, Tryz.results80, go_sem, B6.cell, B7.cell]) rfl ⟨by rw [HR.out]; try rfl, hbv⟩
    | false =>
      have HR : Hid (oneF ls sg pa = ⟨wordV ls sg pa, sg, pa + 1, 0⟩) := Lib.hid (by unfold oneF; rw [if_pos hb, if_neg (by rw [h2]; exact Bool.false_ne_true)])
      clear hrd hb hs hw hf
      generalize wordV ls sg pa = y at *
      rw [HK.out] at HDC
      clear HK
      generalize decP y = q at *
      go_enter Tryz.func80, Tryz.ntmps80
      go_wp2_with fail
      refine (FTarget_any _ _ _ _ _ _ _ _ _ _ _ g1 g2).mono ?_
      rintro e w1 ⟨rfl, hb⟩
      have B4 := ((Blk.fresh (w.alloc (.cells #[.int .i64 k, .int .i64 o, .int .i64 d, .int .i64 p, .int .i64 el, .int .i64 cc, .bool db, .int .i64 pa, .int .u32 sg, .int .u32 lo] 45)) #[.int .u64 0, .int .i64 0, .int .i64 0] 113).alloc (.cells #[.int .i64 0] 115)).below hb
      have B5 := (Blk.fresh ((w.alloc (.cells #[.int .i64 k, .int .i64 o, .int .i64 d, .int .i64 p, .int .i64 el, .int .i64 cc, .bool db, .int .i64 pa, .int .u32 sg, .int .u32 lo] 45)).alloc (.cells #[.int .u64 0, .int .i64 0, .int .i64 0] 113)) #[.int .i64 0] 115).below hb
      rw [World.size_alloc, World.size_alloc] at B5
      rw [World.size_alloc] at B4
      have HB : Hid (Below w.heap.size w w1) := Lib.hid (((((Below.refl _ _).alloc (Nat.le_refl _) _).alloc (by simp) _).alloc (by simp; omega) _).trans (hb.mono (by simp; omega)))
      clear hb
      have H4 := Lib.hid B4
      have H5 := Lib.hid B5
      obtain ⟨x4, y4, z4⟩ := B4
      obtain ⟨x5, y5, z5⟩ := B5

      go_wp2_with fail
      refine (HRD.out _ (Hs.out.below HB.out (Nat.le_refl _))).mono ?_
      rintro e w2 ⟨rfl, hb⟩
      have B4 := H4.out.below hb
      have B5 := H5.out.below hb
      have HB : Hid (Below w.heap.size w w2) := Lib.hid (HB.out.trans (hb.mono HB.out.size))
      clear hb H4 H5 x4 x5 y4 y5 z4 z5 HRD
      have H4 := Lib.hid B4
      have H5 := Lib.hid B5
      obtain ⟨x4, y4, z4⟩ := B4
      obtain ⟨x5, y5, z5⟩ := B5

      go_wp2_with fail
      refine (HDC.out _).mono ?_
      rintro e w3 ⟨rfl, hb⟩
      have B8 := ((Blk.fresh w2 #[.int .u64 y, .int .i64 sg, .int .i64 (pa + 1)] 113).alloc (.cells #[.int .i64 0] 115)).below hb
      have B4 := ((H4.out.alloc (.cells #[.int .u64 y, .int .i64 sg, .int .i64 (pa + 1)] 113)).alloc (.cells #[.int .i64 0] 115)).below hb
      have B5 := ((H5.out.alloc (.cells #[.int .u64 y, .int .i64 sg, .int .i64 (pa + 1)] 113)).alloc (.cells #[.int .i64 0] 115)).below hb
      have hz := HB.out.size
      have z1 := z5
      have HB : Hid (Below w.heap.size w w3) := Lib.hid (((HB.out.alloc HB.out.size _).alloc (by simp; omega) _).trans (hb.mono (by simp; omega)))
      clear hb H4 H5 x4 x5 y4 y5 z4 z5 HDC
      have hz6 : w.heap.size + 2 < w2.heap.size := z1
      have H8 := Lib.hid B8
      obtain ⟨x8, y8, z8⟩ := B8
      have H4 := Lib.hid B4
      have H5 := Lib.hid B5
      obtain ⟨x4, y4, z4⟩ := B4
      obtain ⟨x5, y5, z5⟩ := B5

      go_wp2
      refine abs_post (F := fun W => Blk W (w.heap.size + 1) #[.int .u64 y, .int .i64 sg, .int .i64 (pa + 1)] ∧ Blk W (w.heap.size + 2) #[.int .i64 0] ∧ Below w.heap.size w W) ⟨?_, ?_, ?_⟩ ?_
      · exact ((((H4.out.set 0 (by simp) _).set 1 (by simp) _).set 2 (by simp) _).other (by simp) _)
      · exact ((((H5.out.other (by simp) _).other (by simp) _).other (by simp) _).set 0 (by simp) _)
      · repeat (with_reducible first | exact HB.out | refine bel_drewN ?_ _ | refine bel_drew ?_ | refine Below.alloc ?_ (by have := HB.out.size; simp [World.setCell]; omega) _ | refine Below.setCell ?_ (by first | (simp; done) | (simp; omega)) _)
      rintro V ⟨B6, B7, hbv⟩
      exact bodyPost_ret (v := .tuple #[.agg #[.int .u64 y, .int .i64 sg, .int .i64 (pa + 1)], .agg #[.int .i64 0]]) (by simp [results, Tryz.results80, go_sem, B6.cell, B7.cell]) rfl ⟨by rw [HR.out]; try rfl, hbv⟩
  | false =>
    have hrd : readF ls sg pa = folE 2 := by unfold readF; rw [if_neg (by rw [hb]; exact Bool.false_ne_true)]
    rw [hrd] at HRD
    have HR : Hid (oneF ls sg pa = folE 2) := Lib.hid (by unfold oneF; rw [if_neg (by rw [hb]; exact Bool.false_ne_true)])
    clear hrd hb hs hw hf
    unfold folE at HRD
    go_enter Tryz.func80, Tryz.ntmps80
    go_wp2_with fail
    refine (FTarget_any _ _ _ _ _ _ _ _ _ _ _ g1 g2).mono ?_
    rintro e w1 ⟨rfl, hb⟩
    have B4 := ((Blk.fresh (w.alloc (.cells #[.int .i64 k, .int .i64 o, .int .i64 d, .int .i64 p, .int .i64 el, .int .i64 cc, .bool db, .int .i64 pa, .int .u32 sg, .int .u32 lo] 45)) #[.int .u64 0, .int .i64 0, .int .i64 0] 113).alloc (.cells #[.int .i64 0] 115)).below hb
    have B5 := (Blk.fresh ((w.alloc (.cells #[.int .i64 k, .int .i64 o, .int .i64 d, .int .i64 p, .int .i64 el, .int .i64 cc, .bool db, .int .i64 pa, .int .u32 sg, .int .u32 lo] 45)).alloc (.cells #[.int .u64 0, .int .i64 0, .int .i64 0] 113)) #[.int .i64 0] 115).below hb
    rw [World.size_alloc, World.size_alloc] at B5
    rw [World.size_alloc] at B4
    have HB : Hid (Below w.heap.size w w1) := Lib.hid (((((Below.refl _ _).alloc (Nat.le_refl _) _).alloc (by simp) _).alloc (by simp; omega) _).trans (hb.mono (by simp; omega)))
    clear hb
    have H4 := Lib.hid B4
    have H5 := Lib.hid B5
    obtain ⟨x4, y4, z4⟩ := B4
    obtain ⟨x5, y5, z5⟩ := B5

    go_wp2_with fail
    refine (HRD.out _ (Hs.out.below HB.out (Nat.le_refl _))).mono ?_
    rintro e w2 ⟨rfl, hb⟩
    have B4 := H4.out.below hb
    have B5 := H5.out.below hb
    have HB : Hid (Below w.heap.size w w2) := Lib.hid (HB.out.trans (hb.mono HB.out.size))
    clear hb H4 H5 x4 x5 y4 y5 z4 z5 HRD
    have H4 := Lib.hid B4
    have H5 := Lib.hid B5
    obtain ⟨x4, y4, z4⟩ := B4
    obtain ⟨x5, y5, z5⟩ := B5

    go_wp2
    have B8 := (Blk.fresh w2 #[.int .u64 0, .int .i64 0, .int .i64 0] 113).alloc (.cells #[.int .i64 2] 115)
    have B9 := (Blk.fresh (w2.alloc (.cells #[.int .u64 0, .int .i64 0, .int .i64 0] 113)) #[.int .i64 2] 115)
    rw [World.size_alloc] at B9
    have B4 := ((H4.out.alloc (.cells #[.int .u64 0, .int .i64 0, .int .i64 0] 113)).alloc (.cells #[.int .i64 2] 115))
    have B5 := ((H5.out.alloc (.cells #[.int .u64 0, .int .i64 0, .int .i64 0] 113)).alloc (.cells #[.int .i64 2] 115))
    have hz := HB.out.size
    have hz6 : w.heap.size + 2 < w2.heap.size := z5
    have HB := ((HB.out.alloc HB.out.size (.cells #[.int .u64 0, .int .i64 0, .int .i64 0] 113)).alloc (by simp; omega) (.cells #[.int .i64 2] 115))
    clear H4 H5 x4 x5 y4 y5 z4 z5
    generalize (w2.alloc (.cells #[.int .u64 0, .int .i64 0, .int .i64 0] 113)).alloc (.cells #[.int .i64 2] 115) = W at B4 B5 B8 B9 HB ⊢
    have HB := Lib.hid HB
    have H9 := Lib.hid B9
    obtain ⟨x9, y9, z9⟩ := B9
    clear B8
    have H4 := Lib.hid B4
    have H5 := Lib.hid B5
    obtain ⟨x4, y4, z4⟩ := B4
    obtain ⟨x5, y5, z5⟩ := B5

    go_region
    go_wp2
    refine abs_post (F := fun W => Blk W (w.heap.size + 1) #[.int .u64 0, .int .i64 0, .int .i64 0] ∧ Blk W (w.heap.size + 2) #[.int .i64 2] ∧ Below w.heap.size w W) ⟨?_, ?_, ?_⟩ ?_
    · exact ((((H4.out.set 0 (by simp) _).set 1 (by simp) _).set 2 (by simp) _).other (by simp) _).drew
    · exact ((((H5.out.other (by simp) _).other (by simp) _).other (by simp) _).set 0 (by simp) _).drew
    · repeat (with_reducible first | exact HB.out | refine bel_drewN ?_ _ | refine bel_drew ?_ | refine Below.alloc ?_ (by have := HB.out.size; simp [World.setCell]; omega) _ | refine Below.setCell ?_ (by first | (simp; done) | (simp; omega)) _)
    rintro V ⟨B6, B7, hbv⟩
    exact bodyPost_ret (v := .tuple #[.agg #[.int .u64 0, .int .i64 0, .int .i64 0], .agg #[.int .i64 2]]) (by simp [results, Tryz.results80, go_sem, B6.cell, B7.cell]) rfl ⟨by rw [HR.out]; try rfl, hbv⟩

/-- what a landing pad of two words yields -/
def twoF (ls : List (List Int)) (sg pa : Int) : Fol := if hasB ls sg pa = true then (if hasB ls sg (pa + 1) = true then joinF (wordV ls sg pa) (wordV ls sg (pa + 1)) else folE 2) else folE 2

set_option maxRecDepth 100000 in
set_option maxHeartbeats 1000000 in
theorem FDouble_any (A : Option Addr) (c : Nat) (ls : List (List Int)) (k o d p el cc pa sg lo : Int) (db : Bool) (w : World) (hs : Sg w A ls) (hw : Wd2 ls) (hm : ls.length ≤ 140737488355328) (hf : ∀ j, (seg ls j).length ≤ 140737488355328) (g1 : 0 ≤ sg) (g2 : sg < 4294967296) (g3 : 0 ≤ pa) (g4 : pa < 536870912) :
    Calls Tryz.prog 79 #[.slice A ls.length c, .agg #[.int .i64 k, .int .i64 o, .int .i64 d, .int .i64 p, .int .i64 el, .int .i64 cc, .bool db, .int .i64 pa, .int .u32 sg, .int .u32 lo]] w fun e w' => e = .returned (.tuple #[.agg #[.int .u64 (twoF ls sg pa).w, .int .i64 (twoF ls sg pa).s, .int .i64 (twoF ls sg pa).b], .agg #[.int .i64 (twoF ls sg pa).e]]) ∧ Below w.heap.size w w' := by
  have HRD := Lib.hid (fun w2 hs2 => FRead_any A c ls sg pa w2 hs2 hm hf (by omega) (by omega) (by omega) (by omega))
  have HRD2 := Lib.hid (fun w2 hs2 => FRead_any A c ls sg (pa + 1) w2 hs2 hm hf (by omega) (by omega) (by omega) (by omega))
  have Hs := Lib.hid hs
  have hbd := wordV_bd hw sg pa
  have hbd2 := wordV_bd hw sg (pa + 1)
  cases hb : hasB ls sg pa with
  | true =>
    have hrd : readF ls sg pa = ⟨wordV ls sg pa, sg, pa + 1, 0⟩ := by unfold readF; rw [if_pos hb]
    rw [hrd] at HRD
    cases hb2 : hasB ls sg (pa + 1) with
    | true =>
      have hrd2 : readF ls sg (pa + 1) = ⟨wordV ls sg (pa + 1), sg, pa + 1 + 1, 0⟩ := by unfold readF; rw [if_pos hb2]
      rw [hrd2] at HRD2
      have HJ := Lib.hid (fun w2 => FJoin_any (wordV ls sg pa) (wordV ls sg (pa + 1)) w2 hbd.1 hbd.2 hbd2.1 hbd2.2)
      have HR : Hid (twoF ls sg pa = joinF (wordV ls sg pa) (wordV ls sg (pa + 1))) := Lib.hid (by unfold twoF; rw [if_pos hb, if_pos hb2])
      clear hrd hrd2 hb hb2 hs hw hf
      generalize wordV ls sg pa = y at *
      generalize wordV ls sg (pa + 1) = z at *
      generalize joinF y z = q at *
      go_enter Tryz.func79, Tryz.ntmps79
      go_wp2_with fail
      refine (FTarget_any _ _ _ _ _ _ _ _ _ _ _ g1 g2).mono ?_
      rintro e w1 ⟨rfl, hb⟩
      have B4 := ((Blk.fresh (w.alloc (.cells #[.int .i64 k, .int .i64 o, .int .i64 d, .int .i64 p, .int .i64 el, .int .i64 cc, .bool db, .int .i64 pa, .int .u32 sg, .int .u32 lo] 45)) #[.int .u64 0, .int .i64 0, .int .i64 0] 113).alloc (.cells #[.int .i64 0] 115)).below hb
      have B5 := (Blk.fresh ((w.alloc (.cells #[.int .i64 k, .int .i64 o, .int .i64 d, .int .i64 p, .int .i64 el, .int .i64 cc, .bool db, .int .i64 pa, .int .u32 sg, .int .u32 lo] 45)).alloc (.cells #[.int .u64 0, .int .i64 0, .int .i64 0] 113)) #[.int .i64 0] 115).below hb
      rw [World.size_alloc, World.size_alloc] at B5
      rw [World.size_alloc] at B4
      have HB : Hid (Below w.heap.size w w1) := Lib.hid (((((Below.refl _ _).alloc (Nat.le_refl _) _).alloc (by simp) _).alloc (by simp; omega) _).trans (hb.mono (by simp; omega)))
      clear hb
      have H4 := Lib.hid B4
      have H5 := Lib.hid B5
      obtain ⟨x4, y4, z4⟩ := B4
      obtain ⟨x5, y5, z5⟩ := B5

      go_wp2_with fail
      refine (HRD.out _ (Hs.out.below HB.out (Nat.le_refl _))).mono ?_
      rintro e w2 ⟨rfl, hb⟩
      have B4 := H4.out.below hb
      have B5 := H5.out.below hb
      have HB : Hid (Below w.heap.size w w2) := Lib.hid (HB.out.trans (hb.mono HB.out.size))
      clear hb H4 H5 x4 x5 y4 y5 z4 z5 HRD
      have H4 := Lib.hid B4
      have H5 := Lib.hid B5
      obtain ⟨x4, y4, z4⟩ := B4
      obtain ⟨x5, y5, z5⟩ := B5

      go_wp2_with fail
      refine (HRD2.out _ (sg_alloc (sg_alloc (Hs.out.below HB.out (Nat.le_refl _)) _) _)).mono ?_
      rintro e w3 ⟨rfl, hb⟩
      have B8 := ((Blk.fresh w2 #[.int .u64 y, .int .i64 sg, .int .i64 (pa + 1)] 113).alloc (.cells #[.int .i64 0] 115)).below hb
      have B9 := (Blk.fresh (w2.alloc (.cells #[.int .u64 y, .int .i64 sg, .int .i64 (pa + 1)] 113)) #[.int .i64 0] 115).below hb
      rw [World.size_alloc] at B9
      have B4 := ((H4.out.alloc (.cells #[.int .u64 y, .int .i64 sg, .int .i64 (pa + 1)] 113)).alloc (.cells #[.int .i64 0] 115)).below hb
      have B5 := ((H5.out.alloc (.cells #[.int .u64 y, .int .i64 sg, .int .i64 (pa + 1)] 113)).alloc (.cells #[.int .i64 0] 115)).below hb
      have hz := HB.out.size
      have z1 := z5
      have HB : Hid (Below w.heap.size w w3) := Lib.hid (((HB.out.alloc HB.out.size _).alloc (by simp; omega) _).trans (hb.mono (by simp; omega)))
      clear hb H4 H5 x4 x5 y4 y5 z4 z5 HRD2
      have hz6 : w.heap.size + 2 < w2.heap.size := z1
      have H8 := Lib.hid B8
      obtain ⟨x8, y8, z8⟩ := B8
      have H9 := Lib.hid B9
      obtain ⟨x9, y9, z9⟩ := B9
      have H4 := Lib.hid B4
      have H5 := Lib.hid B5
      obtain ⟨x4, y4, z4⟩ := B4
      obtain ⟨x5, y5, z5⟩ := B5

      go_wp2_with fail
      refine (HJ.out _).mono ?_
      rintro e w4 ⟨rfl, hb⟩
      have hz := HB.out.size
      have B4 := ((H4.out.other (p := ⟨w2.heap.size + 1, 0, none⟩) (by simp; omega) (.int .i64 0)).alloc (.cells #[.int .u64 z, .int .i64 sg, .int .i64 (pa + 1 + 1)] 113))
      have B5 := ((H5.out.other (p := ⟨w2.heap.size + 1, 0, none⟩) (by simp; omega) (.int .i64 0)).alloc (.cells #[.int .u64 z, .int .i64 sg, .int .i64 (pa + 1 + 1)] 113))
      have B9 := ((H9.out.set 0 (by simp) (.int .i64 0)).alloc (.cells #[.int .u64 z, .int .i64 sg, .int .i64 (pa + 1 + 1)] 113))
      have hz2 := HB.out.size
      have z1 := z5
      have HB := ((HB.out.setCell (p := ⟨w2.heap.size + 1, 0, none⟩) (by simp; omega) (.int .i64 0)).alloc (by simp [World.setCell]; omega) (.cells #[.int .u64 z, .int .i64 sg, .int .i64 (pa + 1 + 1)] 113))
      clear H4 H5 x4 x5 y4 y5 z4 z5 H9 x9 y9 z9 H8 x8 y8 z8 z1
      have B4 := B4.below hb
      have B5 := B5.below hb
      have HB := Lib.hid (HB.trans (hb.mono HB.size))
      clear hb B9
      have H4 := Lib.hid B4
      have H5 := Lib.hid B5
      obtain ⟨x4, y4, z4⟩ := B4
      obtain ⟨x5, y5, z5⟩ := B5
      go_wp2

      refine abs_post (F := fun W => Blk W (w.heap.size + 1) #[.int .u64 q.w, .int .i64 q.s, .int .i64 q.b] ∧ Blk W (w.heap.size + 2) #[.int .i64 q.e] ∧ Below w.heap.size w W) ⟨?_, ?_, ?_⟩ ?_
      · exact ((((H4.out.set 0 (by simp) _).set 1 (by simp) _).set 2 (by simp) _).other (by simp) _)
      · exact ((((H5.out.other (by simp) _).other (by simp) _).other (by simp) _).set 0 (by simp) _)
      · repeat (with_reducible first | exact HB.out | refine bel_drewN ?_ _ | refine bel_drew ?_ | refine Below.alloc ?_ (by have := HB.out.size; simp [World.setCell]; omega) _ | refine Below.setCell ?_ (by first | (simp; done) | (simp; omega)) _)
      rintro V ⟨B6, B7, hbv⟩
      exact bodyPost_ret (v := .tuple #[.agg #[.int .u64 q.w, .int .i64 q.s, .int .i64 q.b], .agg #[.int .i64 q.e]]) (by simp [results, Tryz.results79, go_sem, B6.cell, B7.cell]) rfl ⟨by rw [HR.out]; try rfl, hbv⟩
    | false =>
      have hrd2 : readF ls sg (pa + 1) = folE 2 := by unfold readF; rw [if_neg (by rw [hb2]; exact Bool.false_ne_true)]
      rw [hrd2] at HRD2
      have HR : Hid (twoF ls sg pa = folE 2) := Lib.hid (by unfold twoF; rw [if_pos hb, if_neg (by rw [hb2]; exact Bool.false_ne_true)])
      clear hrd hrd2 hb hb2 hs hw hf
      generalize wordV ls sg pa = y at *
      unfold folE at HRD2
      go_enter Tryz.func79, Tryz.ntmps79
      go_wp2_with fail
      refine (FTarget_any _ _ _ _ _ _ _ _ _ _ _ g1 g2).mono ?_
      rintro e w1 ⟨rfl, hb⟩
      have B4 := ((Blk.fresh (w.alloc (.cells #[.int .i64 k, .int .i64 o, .int .i64 d, .int .i64 p, .int .i64 el, .int .i64 cc, .bool db, .int .i64 pa, .int .u32 sg, .int .u32 lo] 45)) #[.int .u64 0, .int .i64 0, .int .i64 0] 113).alloc (.cells #[.int .i64 0] 115)).below hb
      have B5 := (Blk.fresh ((w.alloc (.cells #[.int .i64 k, .int .i64 o, .int .i64 d, .int .i64 p, .int .i64 el, .int .i64 cc, .bool db, .int .i64 pa, .int .u32 sg, .int .u32 lo] 45)).alloc (.cells #[.int .u64 0, .int .i64 0, .int .i64 0] 113)) #[.int .i64 0] 115).below hb
      rw [World.size_alloc, World.size_alloc] at B5
      rw [World.size_alloc] at B4
      have HB : Hid (Below w.heap.size w w1) := Lib.hid (((((Below.refl _ _).alloc (Nat.le_refl _) _).alloc (by simp) _).alloc (by simp; omega) _).trans (hb.mono (by simp; omega)))
      clear hb
      have H4 := Lib.hid B4
      have H5 := Lib.hid B5
      obtain ⟨x4, y4, z4⟩ := B4
      obtain ⟨x5, y5, z5⟩ := B5

      go_wp2_with fail
      refine (HRD.out _ (Hs.out.below HB.out (Nat.le_refl _))).mono ?_
      rintro e w2 ⟨rfl, hb⟩
      have B4 := H4.out.below hb
      have B5 := H5.out.below hb
      have HB : Hid (Below w.heap.size w w2) := Lib.hid (HB.out.trans (hb.mono HB.out.size))
      clear hb H4 H5 x4 x5 y4 y5 z4 z5 HRD
      have H4 := Lib.hid B4
      have H5 := Lib.hid B5
      obtain ⟨x4, y4, z4⟩ := B4
      obtain ⟨x5, y5, z5⟩ := B5

      go_wp2_with fail
      refine (HRD2.out _ (sg_alloc (sg_alloc (Hs.out.below HB.out (Nat.le_refl _)) _) _)).mono ?_
      rintro e w3 ⟨rfl, hb⟩
      have B8 := ((Blk.fresh w2 #[.int .u64 y, .int .i64 sg, .int .i64 (pa + 1)] 113).alloc (.cells #[.int .i64 0] 115)).below hb
      have B9 := (Blk.fresh (w2.alloc (.cells #[.int .u64 y, .int .i64 sg, .int .i64 (pa + 1)] 113)) #[.int .i64 0] 115).below hb
      rw [World.size_alloc] at B9
      have B4 := ((H4.out.alloc (.cells #[.int .u64 y, .int .i64 sg, .int .i64 (pa + 1)] 113)).alloc (.cells #[.int .i64 0] 115)).below hb
      have B5 := ((H5.out.alloc (.cells #[.int .u64 y, .int .i64 sg, .int .i64 (pa + 1)] 113)).alloc (.cells #[.int .i64 0] 115)).below hb
      have hz := HB.out.size
      have z1 := z5
      have HB : Hid (Below w.heap.size w w3) := Lib.hid (((HB.out.alloc HB.out.size _).alloc (by simp; omega) _).trans (hb.mono (by simp; omega)))
      clear hb H4 H5 x4 x5 y4 y5 z4 z5 HRD2
      have hz6 : w.heap.size + 2 < w2.heap.size := z1
      have H8 := Lib.hid B8
      obtain ⟨x8, y8, z8⟩ := B8
      have H9 := Lib.hid B9
      obtain ⟨x9, y9, z9⟩ := B9
      have H4 := Lib.hid B4
      have H5 := Lib.hid B5
      obtain ⟨x4, y4, z4⟩ := B4
      obtain ⟨x5, y5, z5⟩ := B5

      go_wp2
      have hz := HB.out.size
      have B4 := ((H4.out.other (p := ⟨w2.heap.size + 1, 0, none⟩) (by simp; omega) (.int .i64 2)).alloc (.cells #[.int .u64 0, .int .i64 0, .int .i64 0] 113))
      have B5 := ((H5.out.other (p := ⟨w2.heap.size + 1, 0, none⟩) (by simp; omega) (.int .i64 2)).alloc (.cells #[.int .u64 0, .int .i64 0, .int .i64 0] 113))
      have B9 := ((H9.out.set 0 (by simp) (.int .i64 2)).alloc (.cells #[.int .u64 0, .int .i64 0, .int .i64 0] 113))
      have hz2 := HB.out.size
      have z1 := z5
      have HB := ((HB.out.setCell (p := ⟨w2.heap.size + 1, 0, none⟩) (by simp; omega) (.int .i64 2)).alloc (by simp [World.setCell]; omega) (.cells #[.int .u64 0, .int .i64 0, .int .i64 0] 113))
      clear H4 H5 x4 x5 y4 y5 z4 z5 H9 x9 y9 z9 H8 x8 y8 z8 z1
      generalize (w3.setCell ⟨w2.heap.size + 1, 0, none⟩ (.int .i64 2)).alloc (.cells #[.int .u64 0, .int .i64 0, .int .i64 0] 113) = W at B4 B5 B9 HB ⊢
      have HB := Lib.hid HB
      have H9 := Lib.hid B9
      obtain ⟨x9, y9, z9⟩ := B9
      have H4 := Lib.hid B4
      have H5 := Lib.hid B5
      obtain ⟨x4, y4, z4⟩ := B4
      obtain ⟨x5, y5, z5⟩ := B5
      go_region
      go_wp2

      refine abs_post (F := fun W => Blk W (w.heap.size + 1) #[.int .u64 0, .int .i64 0, .int .i64 0] ∧ Blk W (w.heap.size + 2) #[.int .i64 2] ∧ Below w.heap.size w W) ⟨?_, ?_, ?_⟩ ?_
      · exact ((((H4.out.set 0 (by simp) _).set 1 (by simp) _).set 2 (by simp) _).other (by simp) _).drew
      · exact ((((H5.out.other (by simp) _).other (by simp) _).other (by simp) _).set 0 (by simp) _).drew
      · repeat (with_reducible first | exact HB.out | refine bel_drewN ?_ _ | refine bel_drew ?_ | refine Below.alloc ?_ (by have := HB.out.size; simp [World.setCell]; omega) _ | refine Below.setCell ?_ (by first | (simp; done) | (simp; omega)) _)
      rintro V ⟨B6, B7, hbv⟩
      exact bodyPost_ret (v := .tuple #[.agg #[.int .u64 0, .int .i64 0, .int .i64 0], .agg #[.int .i64 2]]) (by simp [results, Tryz.results79, go_sem, B6.cell, B7.cell]) rfl ⟨by rw [HR.out]; try rfl, hbv⟩
  | false =>
    have hrd : readF ls sg pa = folE 2 := by unfold readF; rw [if_neg (by rw [hb]; exact Bool.false_ne_true)]
    rw [hrd] at HRD
    have HR : Hid (twoF ls sg pa = folE 2) := Lib.hid (by unfold twoF; rw [if_neg (by rw [hb]; exact Bool.false_ne_true)])
    clear hrd hb hs hw hf HRD2
    unfold folE at HRD
    go_enter Tryz.func79, Tryz.ntmps79
    go_wp2_with fail
    refine (FTarget_any _ _ _ _ _ _ _ _ _ _ _ g1 g2).mono ?_
    rintro e w1 ⟨rfl, hb⟩
    have B4 := ((Blk.fresh (w.alloc (.cells #[.int .i64 k, .int .i64 o, .int .i64 d, .int .i64 p, .int .i64 el, .int .i64 cc, .bool db, .int .i64 pa, .int .u32 sg, .int .u32 lo] 45)) #[.int .u64 0, .int .i64 0, .int .i64 0] 113).alloc (.cells #[.int .i64 0] 115)).below hb
    have B5 := (Blk.fresh ((w.alloc (.cells #[.int .i64 k, .int .i64 o, .int .i64 d, .int .i64 p, .int .i64 el, .int .i64 cc, .bool db, .int .i64 pa, .int .u32 sg, .int .u32 lo] 45)).alloc (.cells #[.int .u64 0, .int .i64 0, .int .i64 0] 113)) #[.int .i64 0] 115).below hb
    rw [World.size_alloc, World.size_alloc] at B5
    rw [World.size_alloc] at B4
    have HB : Hid (Below w.heap.size w w1) := Lib.hid (((((Below.refl _ _).alloc (Nat.le_refl _) _).alloc (by simp) _).alloc (by simp; omega) _).trans (hb.mono (by simp; omega)))
    clear hb
    have H4 := Lib.hid B4
    have H5 := Lib.hid B5
    obtain ⟨x4, y4, z4⟩ := B4
    obtain ⟨x5, y5, z5⟩ := B5

    go_wp2_with fail
    refine (HRD.out _ (Hs.out.below HB.out (Nat.le_refl _))).mono ?_
    rintro e w2 ⟨rfl, hb⟩
    have B4 := H4.out.below hb
    have B5 := H5.out.below hb
    have HB : Hid (Below w.heap.size w w2) := Lib.hid (HB.out.trans (hb.mono HB.out.size))
    clear hb H4 H5 x4 x5 y4 y5 z4 z5 HRD
    have H4 := Lib.hid B4
    have H5 := Lib.hid B5
    obtain ⟨x4, y4, z4⟩ := B4
    obtain ⟨x5, y5, z5⟩ := B5

    go_wp2
    have B8 := (Blk.fresh w2 #[.int .u64 0, .int .i64 0, .int .i64 0] 113).alloc (.cells #[.int .i64 2] 115)
    have B9 := (Blk.fresh (w2.alloc (.cells #[.int .u64 0, .int .i64 0, .int .i64 0] 113)) #[.int .i64 2] 115)
    rw [World.size_alloc] at B9
    have B4 := ((H4.out.alloc (.cells #[.int .u64 0, .int .i64 0, .int .i64 0] 113)).alloc (.cells #[.int .i64 2] 115))
    have B5 := ((H5.out.alloc (.cells #[.int .u64 0, .int .i64 0, .int .i64 0] 113)).alloc (.cells #[.int .i64 2] 115))
    have hz := HB.out.size
    have hz6 : w.heap.size + 2 < w2.heap.size := z5
    have HB := ((HB.out.alloc HB.out.size (.cells #[.int .u64 0, .int .i64 0, .int .i64 0] 113)).alloc (by simp; omega) (.cells #[.int .i64 2] 115))
    clear H4 H5 x4 x5 y4 y5 z4 z5
    generalize (w2.alloc (.cells #[.int .u64 0, .int .i64 0, .int .i64 0] 113)).alloc (.cells #[.int .i64 2] 115) = W at B4 B5 B8 B9 HB ⊢
    have HB := Lib.hid HB
    have H9 := Lib.hid B9
    obtain ⟨x9, y9, z9⟩ := B9
    clear B8
    have H4 := Lib.hid B4
    have H5 := Lib.hid B5
    obtain ⟨x4, y4, z4⟩ := B4
    obtain ⟨x5, y5, z5⟩ := B5

    go_region
    go_wp2
    refine abs_post (F := fun W => Blk W (w.heap.size + 1) #[.int .u64 0, .int .i64 0, .int .i64 0] ∧ Blk W (w.heap.size + 2) #[.int .i64 2] ∧ Below w.heap.size w W) ⟨?_, ?_, ?_⟩ ?_
    · exact ((((H4.out.set 0 (by simp) _).set 1 (by simp) _).set 2 (by simp) _).other (by simp) _).drew
    · exact ((((H5.out.other (by simp) _).other (by simp) _).other (by simp) _).set 0 (by simp) _).drew
    · repeat (with_reducible first | exact HB.out | refine bel_drewN ?_ _ | refine bel_drew ?_ | refine Below.alloc ?_ (by have := HB.out.size; simp [World.setCell]; omega) _ | refine Below.setCell ?_ (by first | (simp; done) | (simp; omega)) _)
    rintro V ⟨B6, B7, hbv⟩
    exact bodyPost_ret (v := .tuple #[.agg #[.int .u64 0, .int .i64 0, .int .i64 0], .agg #[.int .i64 2]]) (by simp [results, Tryz.results79, go_sem, B6.cell, B7.cell]) rfl ⟨by rw [HR.out]; try rfl, hbv⟩

theorem fol_oneF {ls : List (List Int)} {s a : Int} (h1 : hasB ls s a = true) (h2 : (wordV ls s a % 4 == 2) = true) (h3 : wordV ls s a / 4 % 2 = 0) : followF ls s a = oneF ls (wordV ls s a / 4294967296) (wordV ls s a % 4294967296 / 8) := by
  unfold followF oneF
  rw [if_neg (by rw [h1]; simp), if_neg (by rw [h2]; simp)]
  cases h4 : hasB ls (wordV ls s a / 4294967296) (wordV ls s a % 4294967296 / 8)
  · rw [if_pos rfl, if_neg (by simp)]
  · rw [if_neg (by simp), if_pos rfl, if_pos h3]

theorem fol_twoF {ls : List (List Int)} (hw : Wd2 ls) {s a : Int} (h1 : hasB ls s a = true) (h2 : (wordV ls s a % 4 == 2) = true) (h3 : wordV ls s a / 4 % 2 = 1) : followF ls s a = twoF ls (wordV ls s a / 4294967296) (wordV ls s a % 4294967296 / 8) := by
  unfold followF twoF
  rw [if_neg (by rw [h1]; simp), if_neg (by rw [h2]; simp)]
  cases h4 : hasB ls (wordV ls s a / 4294967296) (wordV ls s a % 4294967296 / 8)
  · rw [if_pos rfl, if_neg (by simp)]
  rw [if_neg (by simp), if_pos rfl, if_neg (by omega)]
  have b2 := (wordV_bd hw (wordV ls s a / 4294967296) (wordV ls s a % 4294967296 / 8 + 1)).1
  generalize wordV ls (wordV ls s a / 4294967296) (wordV ls s a % 4294967296 / 8) = y at *
  generalize wordV ls (wordV ls s a / 4294967296) (wordV ls s a % 4294967296 / 8 + 1) = z at *
  have hk := decP_k z b2
  cases h5 : hasB ls (wordV ls s a / 4294967296) (wordV ls s a % 4294967296 / 8 + 1)
  · rw [if_pos rfl, if_neg (by simp)]
  rw [if_neg (by simp), if_pos rfl]
  unfold joinF tagB
  rw [hk]
  by_cases h6 : (y % 4 == 2) = false ∨ y / 4 % 2 = 1 ∨ 1 < z % 4 ∨ (decP z).o ≠ 0
  · rw [if_pos h6, if_neg]
    rintro ⟨g1, g2, g3⟩
    have g4 := of_decide_eq_true g3
    rcases h6 with h | h | h | h
    · rw [h] at g1; cases g1
    · exact g2 h
    · omega
    · exact h g4.2
  · rw [if_neg h6, if_pos]
    have c1 : ¬ (y % 4 == 2) = false := fun h => h6 (.inl h)
    have c2 : ¬ y / 4 % 2 = 1 := fun h => h6 (.inr (.inl h))
    have c3 : ¬ 1 < z % 4 := fun h => h6 (.inr (.inr (.inl h)))
    have c4 : (decP z).o = 0 := Classical.byContradiction fun h => h6 (.inr (.inr (.inr h)))
    exact ⟨by simpa using c1, c2, decide_eq_true ⟨by omega, c4⟩⟩

set_option maxRecDepth 100000 in
set_option maxHeartbeats 1000000 in
theorem FDescribe_any (A : Option Addr) (c : Nat) (ls : List (List Int)) (s a : Int) (w : World) (hs : Sg w A ls) (hw : Wd2 ls) (hm : ls.length ≤ 140737488355328) (hf : ∀ j, (seg ls j).length ≤ 140737488355328)
    (hs0 : -9223372036854775808 ≤ s) (hs1 : s ≤ 9223372036854775807) (ha0 : -9223372036854775808 ≤ a) (ha1 : a ≤ 9223372036854775807) :
    Calls Tryz.prog 68 #[.slice A ls.length c, .int .i64 s, .int .i64 a] w fun e w' => e = .returned (.tuple #[.agg #[.int .u64 (followF ls s a).w, .int .i64 (followF ls s a).s, .int .i64 (followF ls s a).b], .agg #[.int .i64 (followF ls s a).e]]) ∧ Below w.heap.size w w' := by
  have HRD := Lib.hid (fun w2 hs2 => FRead_any A c ls s a w2 hs2 hm hf hs0 hs1 ha0 ha1)
  have Hs := Lib.hid hs
  have hbd := wordV_bd hw s a
  cases hb : hasB ls s a with
  | true =>
    have hrd : readF ls s a = ⟨wordV ls s a, s, a + 1, 0⟩ := by unfold readF; rw [if_pos hb]
    rw [hrd] at HRD
    have HDC := Lib.hid (fun w2 => Decode_any (wordV ls s a) w2 hbd.1 hbd.2)
    cases h2 : (wordV ls s a % 4 == 2) with
    | true =>
      have hp := decP_far (beq_iff_eq.1 h2) hbd.1 hbd.2
      rw [hp] at HDC
      have q1 : 0 ≤ (wordV ls s a / 4294967296) ∧ (wordV ls s a / 4294967296) < 4294967296 := by omega
      have q2 : 0 ≤ (wordV ls s a % 4294967296 / 8) ∧ (wordV ls s a % 4294967296 / 8) < 536870912 := by omega
      by_cases h3 : wordV ls s a / 4 % 2 = 1
      · have HD2 := Lib.hid (fun w2 hs2 => FDouble_any A c ls 2 0 0 0 0 0 (wordV ls s a % 4294967296 / 8) (wordV ls s a / 4294967296) 0 true w2 hs2 hw hm hf q1.1 q1.2 q2.1 q2.2)
        have HR := Lib.hid (fol_twoF hw hb h2 h3)
        have hd : (wordV ls s a / 4 % 2 == 1) = true := beq_iff_eq.2 h3
        rw [hd] at HDC
        clear hrd hb hs hw hf h2 h3 hp hd
        generalize twoF ls (wordV ls s a / 4294967296) (wordV ls s a % 4294967296 / 8) = q at *
        generalize wordV ls s a = x at *
        go_enter Tryz.func68, Tryz.ntmps68
        go_wp2_with fail
        refine (HRD.out _ (sg_alloc (sg_alloc Hs.out _) _)).mono ?_
        rintro e w1 ⟨rfl, hb⟩
        clear HRD
        have B4 := ((Blk.fresh w #[.int .u64 0, .int .i64 0, .int .i64 0] 113).alloc (.cells #[.int .i64 0] 115)).below hb
        have B5 := (Blk.fresh (w.alloc (.cells #[.int .u64 0, .int .i64 0, .int .i64 0] 113)) #[.int .i64 0] 115).below hb
        rw [World.size_alloc] at B5
        have HB : Hid (Below w.heap.size w w1) := Lib.hid ((((Below.refl _ _).alloc (Nat.le_refl _) _).alloc (by simp) _).trans (hb.mono (by simp; omega)))
        clear hb
        have H4 := Lib.hid B4
        have H5 := Lib.hid B5
        obtain ⟨x4, y4, z4⟩ := B4
        obtain ⟨x5, y5, z5⟩ := B5

        go_wp2_with fail
        refine (HDC.out _).mono ?_
        rintro e w2 ⟨rfl, hb⟩
        have B8 := ((Blk.fresh w1 #[.int .u64 x, .int .i64 s, .int .i64 (a + 1)] 113).alloc (.cells #[.int .i64 0] 115)).below hb
        have B4 := ((H4.out.alloc (.cells #[.int .u64 x, .int .i64 s, .int .i64 (a + 1)] 113)).alloc (.cells #[.int .i64 0] 115)).below hb
        have B5 := ((H5.out.alloc (.cells #[.int .u64 x, .int .i64 s, .int .i64 (a + 1)] 113)).alloc (.cells #[.int .i64 0] 115)).below hb
        have hz := HB.out.size
        have z1 := z5
        have HB : Hid (Below w.heap.size w w2) := Lib.hid (((HB.out.alloc HB.out.size _).alloc (by simp; omega) _).trans (hb.mono (by simp; omega)))
        clear hb H4 H5 x4 x5 y4 y5 z4 z5 HDC
        have hz6 : w.heap.size + 1 < w1.heap.size := z1
        have H8 := Lib.hid B8
        obtain ⟨x8, y8, z8⟩ := B8
        have H4 := Lib.hid B4
        have H5 := Lib.hid B5
        obtain ⟨x4, y4, z4⟩ := B4
        obtain ⟨x5, y5, z5⟩ := B5

        go_wp2_with fail
        refine (HD2.out _ (sg_alloc (Hs.out.below HB.out (Nat.le_refl _)) _)).mono ?_
        rintro e w3 ⟨rfl, hb⟩
        have B4 := (H4.out.alloc (.cells #[.int .i64 2, .int .i64 0, .int .i64 0, .int .i64 0, .int .i64 0, .int .i64 0, .bool true, .int .i64 (x % 4294967296 / 8), .int .u32 (x / 4294967296), .int .u32 0] 45)).below hb
        have B5 := (H5.out.alloc (.cells #[.int .i64 2, .int .i64 0, .int .i64 0, .int .i64 0, .int .i64 0, .int .i64 0, .bool true, .int .i64 (x % 4294967296 / 8), .int .u32 (x / 4294967296), .int .u32 0] 45)).below hb
        have HB : Hid (Below w.heap.size w w3) := Lib.hid ((HB.out.alloc HB.out.size _).trans (hb.mono (by have := HB.out.size; simp; omega)))
        clear hb H4 H5 x4 x5 y4 y5 z4 z5 H8 x8 y8 z8
        have H4 := Lib.hid B4
        have H5 := Lib.hid B5
        obtain ⟨x4, y4, z4⟩ := B4
        obtain ⟨x5, y5, z5⟩ := B5
        go_wp2

        refine abs_post (F := fun W => Blk W w.heap.size #[.int .u64 q.w, .int .i64 q.s, .int .i64 q.b] ∧ Blk W (w.heap.size + 1) #[.int .i64 q.e] ∧ Below w.heap.size w W) ⟨?_, ?_, ?_⟩ ?_
        · exact ((((H4.out.set 0 (by simp) _).set 1 (by simp) _).set 2 (by simp) _).other (by simp) _)
        · exact ((((H5.out.other (by simp) _).other (by simp) _).other (by simp) _).set 0 (by simp) _)
        · repeat (with_reducible first | exact HB.out | refine bel_drewN ?_ _ | refine bel_drew ?_ | refine Below.alloc ?_ (by have := HB.out.size; simp [World.setCell]; omega) _ | refine Below.setCell ?_ (by first | (simp; done) | (simp; omega)) _)
        rintro V ⟨B6, B7, hbv⟩
        exact bodyPost_ret (v := .tuple #[.agg #[.int .u64 q.w, .int .i64 q.s, .int .i64 q.b], .agg #[.int .i64 q.e]]) (by simp [results, Tryz.results68, go_sem, B6.cell, B7.cell]) rfl ⟨by rw [HR.out]; try rfl, hbv⟩
      · have HD2 := Lib.hid (fun w2 hs2 => FSingle_any A c ls 2 0 0 0 0 0 (wordV ls s a % 4294967296 / 8) (wordV ls s a / 4294967296) 0 false w2 hs2 hw hm hf q1.1 q1.2 q2.1 q2.2)
        have HR := Lib.hid (fol_oneF hb h2 (by omega))
        have hd : (wordV ls s a / 4 % 2 == 1) = false := beq_eq_false_iff_ne.2 h3
        rw [hd] at HDC
        clear hrd hb hs hw hf h2 h3 hp hd
        generalize oneF ls (wordV ls s a / 4294967296) (wordV ls s a % 4294967296 / 8) = q at *
        generalize wordV ls s a = x at *
        go_enter Tryz.func68, Tryz.ntmps68
        go_wp2_with fail
        refine (HRD.out _ (sg_alloc (sg_alloc Hs.out _) _)).mono ?_
        rintro e w1 ⟨rfl, hb⟩
        clear HRD
        have B4 := ((Blk.fresh w #[.int .u64 0, .int .i64 0, .int .i64 0] 113).alloc (.cells #[.int .i64 0] 115)).below hb
        have B5 := (Blk.fresh (w.alloc (.cells #[.int .u64 0, .int .i64 0, .int .i64 0] 113)) #[.int .i64 0] 115).below hb
        rw [World.size_alloc] at B5
        have HB : Hid (Below w.heap.size w w1) := Lib.hid ((((Below.refl _ _).alloc (Nat.le_refl _) _).alloc (by simp) _).trans (hb.mono (by simp; omega)))
        clear hb
        have H4 := Lib.hid B4
        have H5 := Lib.hid B5
        obtain ⟨x4, y4, z4⟩ := B4
        obtain ⟨x5, y5, z5⟩ := B5

        go_wp2_with fail
        refine (HDC.out _).mono ?_
        rintro e w2 ⟨rfl, hb⟩
        have B8 := ((Blk.fresh w1 #[.int .u64 x, .int .i64 s, .int .i64 (a + 1)] 113).alloc (.cells #[.int .i64 0] 115)).below hb
        have B4 := ((H4.out.alloc (.cells #[.int .u64 x, .int .i64 s, .int .i64 (a + 1)] 113)).alloc (.cells #[.int .i64 0] 115)).below hb
        have B5 := ((H5.out.alloc (.cells #[.int .u64 x, .int .i64 s, .int .i64 (a + 1)] 113)).alloc (.cells #[.int .i64 0] 115)).below hb
        have hz := HB.out.size
        have z1 := z5
        have HB : Hid (Below w.heap.size w w2) := Lib.hid (((HB.out.alloc HB.out.size _).alloc (by simp; omega) _).trans (hb.mono (by simp; omega)))
        clear hb H4 H5 x4 x5 y4 y5 z4 z5 HDC
        have hz6 : w.heap.size + 1 < w1.heap.size := z1
        have H8 := Lib.hid B8
        obtain ⟨x8, y8, z8⟩ := B8
        have H4 := Lib.hid B4
        have H5 := Lib.hid B5
        obtain ⟨x4, y4, z4⟩ := B4
        obtain ⟨x5, y5, z5⟩ := B5

        go_wp2_with fail
        refine (HD2.out _ (sg_alloc (Hs.out.below HB.out (Nat.le_refl _)) _)).mono ?_
        rintro e w3 ⟨rfl, hb⟩
        have B4 := (H4.out.alloc (.cells #[.int .i64 2, .int .i64 0, .int .i64 0, .int .i64 0, .int .i64 0, .int .i64 0, .bool false, .int .i64 (x % 4294967296 / 8), .int .u32 (x / 4294967296), .int .u32 0] 45)).below hb
        have B5 := (H5.out.alloc (.cells #[.int .i64 2, .int .i64 0, .int .i64 0, .int .i64 0, .int .i64 0, .int .i64 0, .bool false, .int .i64 (x % 4294967296 / 8), .int .u32 (x / 4294967296), .int .u32 0] 45)).below hb
        have HB : Hid (Below w.heap.size w w3) := Lib.hid ((HB.out.alloc HB.out.size _).trans (hb.mono (by have := HB.out.size; simp; omega)))
        clear hb H4 H5 x4 x5 y4 y5 z4 z5 H8 x8 y8 z8
        have H4 := Lib.hid B4
        have H5 := Lib.hid B5
        obtain ⟨x4, y4, z4⟩ := B4
        obtain ⟨x5, y5, z5⟩ := B5
        go_wp2

        refine abs_post (F := fun W => Blk W w.heap.size #[.int .u64 q.w, .int .i64 q.s, .int .i64 q.b] ∧ Blk W (w.heap.size + 1) #[.int .i64 q.e] ∧ Below w.heap.size w W) ⟨?_, ?_, ?_⟩ ?_
        · exact ((((H4.out.set 0 (by simp) _).set 1 (by simp) _).set 2 (by simp) _).other (by simp) _)
        · exact ((((H5.out.other (by simp) _).other (by simp) _).other (by simp) _).set 0 (by simp) _)
        · repeat (with_reducible first | exact HB.out | refine bel_drewN ?_ _ | refine bel_drew ?_ | refine Below.alloc ?_ (by have := HB.out.size; simp [World.setCell]; omega) _ | refine Below.setCell ?_ (by first | (simp; done) | (simp; omega)) _)
        rintro V ⟨B6, B7, hbv⟩
        exact bodyPost_ret (v := .tuple #[.agg #[.int .u64 q.w, .int .i64 q.s, .int .i64 q.b], .agg #[.int .i64 q.e]]) (by simp [results, Tryz.results68, go_sem, B6.cell, B7.cell]) rfl ⟨by rw [HR.out]; try rfl, hbv⟩
    | false =>
      have HR : Hid (followF ls s a = ⟨wordV ls s a, s, a + 1, 0⟩) := Lib.hid (by unfold followF; rw [if_neg (by rw [hb]; simp), if_pos h2])
      have HK := decP_kB _ hbd.1
      clear hrd hb hs hw hf
      generalize wordV ls s a = x at *
      rw [HK.out] at HDC
      clear HK
      generalize decP x = q at *
      go_enter Tryz.func68, Tryz.ntmps68
      go_wp2_with fail
      refine (HRD.out _ (sg_alloc (sg_alloc Hs.out _) _)).mono ?_
      rintro e w1 ⟨rfl, hb⟩
      clear HRD
      have B4 := ((Blk.fresh w #[.int .u64 0, .int .i64 0, .int .i64 0] 113).alloc (.cells #[.int .i64 0] 115)).below hb
      have B5 := (Blk.fresh (w.alloc (.cells #[.int .u64 0, .int .i64 0, .int .i64 0] 113)) #[.int .i64 0] 115).below hb
      rw [World.size_alloc] at B5
      have HB : Hid (Below w.heap.size w w1) := Lib.hid ((((Below.refl _ _).alloc (Nat.le_refl _) _).alloc (by simp) _).trans (hb.mono (by simp; omega)))
      clear hb
      have H4 := Lib.hid B4
      have H5 := Lib.hid B5
      obtain ⟨x4, y4, z4⟩ := B4
      obtain ⟨x5, y5, z5⟩ := B5

      go_wp2_with fail
      refine (HDC.out _).mono ?_
      rintro e w2 ⟨rfl, hb⟩
      have B8 := ((Blk.fresh w1 #[.int .u64 x, .int .i64 s, .int .i64 (a + 1)] 113).alloc (.cells #[.int .i64 0] 115)).below hb
      have B4 := ((H4.out.alloc (.cells #[.int .u64 x, .int .i64 s, .int .i64 (a + 1)] 113)).alloc (.cells #[.int .i64 0] 115)).below hb
      have B5 := ((H5.out.alloc (.cells #[.int .u64 x, .int .i64 s, .int .i64 (a + 1)] 113)).alloc (.cells #[.int .i64 0] 115)).below hb
      have hz := HB.out.size
      have z1 := z5
      have HB : Hid (Below w.heap.size w w2) := Lib.hid (((HB.out.alloc HB.out.size _).alloc (by simp; omega) _).trans (hb.mono (by simp; omega)))
      clear hb H4 H5 x4 x5 y4 y5 z4 z5 HDC
      have hz6 : w.heap.size + 1 < w1.heap.size := z1
      have H8 := Lib.hid B8
      obtain ⟨x8, y8, z8⟩ := B8
      have H4 := Lib.hid B4
      have H5 := Lib.hid B5
      obtain ⟨x4, y4, z4⟩ := B4
      obtain ⟨x5, y5, z5⟩ := B5

      go_wp2
      refine abs_post (F := fun W => Blk W w.heap.size #[.int .u64 x, .int .i64 s, .int .i64 (a + 1)] ∧ Blk W (w.heap.size + 1) #[.int .i64 0] ∧ Below w.heap.size w W) ⟨?_, ?_, ?_⟩ ?_
      · exact ((((H4.out.set 0 (by simp) _).set 1 (by simp) _).set 2 (by simp) _).other (by simp) _).alloc _
      · exact ((((H5.out.other (by simp) _).other (by simp) _).other (by simp) _).set 0 (by simp) _).alloc _
      · repeat (with_reducible first | exact HB.out | refine bel_drewN ?_ _ | refine bel_drew ?_ | refine Below.alloc ?_ (by have := HB.out.size; simp [World.setCell]; omega) _ | refine Below.setCell ?_ (by first | (simp; done) | (simp; omega)) _)
      rintro V ⟨B6, B7, hbv⟩
      exact bodyPost_ret (v := .tuple #[.agg #[.int .u64 x, .int .i64 s, .int .i64 (a + 1)], .agg #[.int .i64 0]]) (by simp [results, Tryz.results68, go_sem, B6.cell, B7.cell]) rfl ⟨by rw [HR.out]; try rfl, hbv⟩
  | false =>
    have hrd : readF ls s a = folE 2 := by unfold readF; rw [if_neg (by rw [hb]; exact Bool.false_ne_true)]
    rw [hrd] at HRD
    have HR : Hid (followF ls s a = folE 2) := Lib.hid (by unfold followF; rw [if_pos hb])
    clear hrd hb hs hw hf
    unfold folE at HRD
    go_enter Tryz.func68, Tryz.ntmps68
    go_wp2_with fail
    refine (HRD.out _ (sg_alloc (sg_alloc Hs.out _) _)).mono ?_
    rintro e w1 ⟨rfl, hb⟩
    clear HRD
    have B4 := ((Blk.fresh w #[.int .u64 0, .int .i64 0, .int .i64 0] 113).alloc (.cells #[.int .i64 0] 115)).below hb
    have B5 := (Blk.fresh (w.alloc (.cells #[.int .u64 0, .int .i64 0, .int .i64 0] 113)) #[.int .i64 0] 115).below hb
    rw [World.size_alloc] at B5
    have HB : Hid (Below w.heap.size w w1) := Lib.hid ((((Below.refl _ _).alloc (Nat.le_refl _) _).alloc (by simp) _).trans (hb.mono (by simp; omega)))
    clear hb
    have H4 := Lib.hid B4
    have H5 := Lib.hid B5
    obtain ⟨x4, y4, z4⟩ := B4
    obtain ⟨x5, y5, z5⟩ := B5

    go_wp2
    have B8 := (Blk.fresh w1 #[.int .u64 0, .int .i64 0, .int .i64 0] 113).alloc (.cells #[.int .i64 2] 115)
    have B9 := (Blk.fresh (w1.alloc (.cells #[.int .u64 0, .int .i64 0, .int .i64 0] 113)) #[.int .i64 2] 115)
    rw [World.size_alloc] at B9
    have B4 := ((H4.out.alloc (.cells #[.int .u64 0, .int .i64 0, .int .i64 0] 113)).alloc (.cells #[.int .i64 2] 115))
    have B5 := ((H5.out.alloc (.cells #[.int .u64 0, .int .i64 0, .int .i64 0] 113)).alloc (.cells #[.int .i64 2] 115))
    have hz := HB.out.size
    have hz6 : w.heap.size + 1 < w1.heap.size := z5
    have HB := ((HB.out.alloc HB.out.size (.cells #[.int .u64 0, .int .i64 0, .int .i64 0] 113)).alloc (by simp; omega) (.cells #[.int .i64 2] 115))
    clear H4 H5 x4 x5 y4 y5 z4 z5
    generalize (w1.alloc (.cells #[.int .u64 0, .int .i64 0, .int .i64 0] 113)).alloc (.cells #[.int .i64 2] 115) = W at B4 B5 B8 B9 HB ⊢
    have HB := Lib.hid HB
    have H9 := Lib.hid B9
    obtain ⟨x9, y9, z9⟩ := B9
    clear B8
    have H4 := Lib.hid B4
    have H5 := Lib.hid B5
    obtain ⟨x4, y4, z4⟩ := B4
    obtain ⟨x5, y5, z5⟩ := B5

    go_region
    go_wp2
    refine abs_post (F := fun W => Blk W w.heap.size #[.int .u64 0, .int .i64 0, .int .i64 0] ∧ Blk W (w.heap.size + 1) #[.int .i64 2] ∧ Below w.heap.size w W) ⟨?_, ?_, ?_⟩ ?_
    · exact ((((H4.out.set 0 (by simp) _).set 1 (by simp) _).set 2 (by simp) _).other (by simp) _).drew
    · exact ((((H5.out.other (by simp) _).other (by simp) _).other (by simp) _).set 0 (by simp) _).drew
    · repeat (with_reducible first | exact HB.out | refine bel_drewN ?_ _ | refine bel_drew ?_ | refine Below.alloc ?_ (by have := HB.out.size; simp [World.setCell]; omega) _ | refine Below.setCell ?_ (by first | (simp; done) | (simp; omega)) _)
    rintro V ⟨B6, B7, hbv⟩
    exact bodyPost_ret (v := .tuple #[.agg #[.int .u64 0, .int .i64 0, .int .i64 0], .agg #[.int .i64 2]]) (by simp [results, Tryz.results68, go_sem, B6.cell, B7.cell]) rfl ⟨by rw [HR.out]; try rfl, hbv⟩

theorem fol_E (ls : List (List Int)) (s a : Int) : (followF ls s a).e = 0 ∨ followF ls s a = folE 2 ∨ followF ls s a = folE 3 := by
  unfold followF
  repeat' split
  all_goals first
    | exact .inl rfl
    | exact .inr (.inl rfl)
    | exact .inr (.inr rfl)

theorem FFollow_any (A : Option Addr) (c : Nat) (ls : List (List Int)) (s a : Int) (w : World) (hs : Sg w A ls) (hw : Wd2 ls) (hm : ls.length ≤ 140737488355328) (hf : ∀ j, (seg ls j).length ≤ 140737488355328)
    (hs0 : -9223372036854775808 ≤ s) (hs1 : s ≤ 9223372036854775807) (ha0 : -9223372036854775808 ≤ a) (ha1 : a ≤ 9223372036854775807) :
    Calls Tryz.prog 51 #[.slice A ls.length c, .int .i64 s, .int .i64 a] w fun e w' => e = .returned (.tuple #[.int .u64 (followF ls s a).w, .int .i64 (followF ls s a).s, .int .i64 (followF ls s a).b, .int .i64 (followF ls s a).e]) ∧ Below w.heap.size w w' := by
  have HD := Lib.hid (FDescribe_any A c ls s a w hs hw hm hf hs0 hs1 ha0 ha1)
  rcases fol_E ls s a with h0 | h1 | h1
  · have t0 : ((followF ls s a).e != 0) = false := by rw [h0]; rfl
    have H0 := Lib.hid h0
    clear hs hw hf h0
    generalize followF ls s a = q at *
    rw [H0.out] at HD
    clear t0
    go_enter Tryz.func51, Tryz.ntmps51
    go_wp2_with fail
    refine HD.out.mono ?_
    rintro e w1 ⟨rfl, hb⟩
    have HB := Lib.hid hb
    clear hb HD
    go_wp2
    go_quiet (fail)
    go_wp2
    refine bodyPost_ret (v := .tuple #[.int .u64 q.w, .int .i64 q.s, .int .i64 q.b, .int .i64 0]) (by simp [results, Tryz.results51, go_sem]) rfl ⟨by rw [H0.out], ?_⟩
    exact bel_drewN ((HB.out.alloc HB.out.size _).alloc (by have := HB.out.size; simp; omega) _) _
  · have H1 := Lib.hid h1
    rw [h1] at HD
    clear hs hw hf h1
    generalize followF ls s a = q at *
    unfold folE at HD
    go_enter Tryz.func51, Tryz.ntmps51
    go_wp2_with fail
    refine HD.out.mono ?_
    rintro e w1 ⟨rfl, hb⟩
    have HB := Lib.hid hb
    clear hb HD
    go_wp2
    go_quiet (fail)
    go_wp2
    refine bodyPost_ret (v := .tuple #[.int .u64 0, .int .i64 0, .int .i64 0, .int .i64 2]) (by simp [results, Tryz.results51, go_sem]) rfl ⟨by rw [H1.out]; rfl, ?_⟩
    exact bel_drewN ((HB.out.alloc HB.out.size _).alloc (by have := HB.out.size; simp; omega) _) _
  · have H1 := Lib.hid h1
    rw [h1] at HD
    clear hs hw hf h1
    generalize followF ls s a = q at *
    unfold folE at HD
    go_enter Tryz.func51, Tryz.ntmps51
    go_wp2_with fail
    refine HD.out.mono ?_
    rintro e w1 ⟨rfl, hb⟩
    have HB := Lib.hid hb
    clear hb HD
    go_wp2
    go_quiet (fail)
    go_wp2
    refine bodyPost_ret (v := .tuple #[.int .u64 0, .int .i64 0, .int .i64 0, .int .i64 3]) (by simp [results, Tryz.results51, go_sem]) rfl ⟨by rw [H1.out]; rfl, ?_⟩
    exact bel_drewN ((HB.out.alloc HB.out.size _).alloc (by have := HB.out.size; simp; omega) _) _
end Go.Proofs.YtnmanhediiooaaaGreatDoor

/- bytes.Clone by its code: the same bytes in memory of the call's own. -/
namespace Go.Proofs.YtnmanhediiooaaaGreatDoor
open Go.ChangeShapes Go.WideShapes Go.ChangeAt Go.RowKit
set_option linter.unusedVariables false
set_option linter.unusedSimpArgs false
set_option maxRecDepth 100000

theorem bytesClone_any (A : Option Addr) (cap : Nat) (b : List Int) (w : World) (hr : Ri w .u8 A b) (hm : b.length ≤ 140737488355328) (hnil : A = none → cap = 0) (hc : b.length ≤ cap) (n : Nat) (hn : n = b.length) :
    Calls Tryz.prog 30 #[.slice A n cap] w fun e w' => ∃ r, e = .returned r ∧ Got w' w.heap.size 5 .u8 r b ∧ Below w.heap.size w w' := by
  obtain ⟨i0, hi, hz0, hz1, hz2⟩ := info_parts int8_info
  have q := fun (w : World) (a : Option Addr) (n c n' c' : Nat) => Lib.run_eql_slice_nil (P := Tryz.prog) w _ _ a n c n' c' Tryz.underlying27
  cases A with
  | none =>
    have hz := hnil rfl
    have h0 : b = [] := List.eq_nil_of_length_eq_zero (by omega)
    subst h0
    subst hz
    subst hn
    go_enter Tryz.func30, Tryz.ntmps30
    go_wp2
    go_ret
    exact ⟨_, rfl, Got.empty _ _ _ _, Below.refl _ _⟩
  | some a =>
    have HA1 := Lib.hid (hr.alloc (.cells #[] 5))
    have HN := Lib.hid hn
    have hnb : n ≤ 140737488355328 := by omega
    clear hn hr
    go_enter Tryz.func30, Tryz.ntmps30
    go_wp2_with (at_builtin; refine wpList_appNn n rfl (.tmp 5) (.tmp 6) 27 rfl Tryz.underlying27 hi hz0 hz1 hz2 HN.out rfl (Got.empty_made w 5 .u8 (base := w.heap.size) (Nat.le_refl _)) rfl HA1.out (fun h => by cases h) (by unfold maxLen; simp; omega) (by simp; omega) (by simp) ?_; intro v2 w2 hg2 hb2)
    go_ret
    exact ⟨_, rfl, hg2, ((Below.refl _ _).alloc (Nat.le_refl _) _).trans hb2⟩

end Go.Proofs.YtnmanhediiooaaaGreatDoor

/- What the functions of package listsize do, each by a contract (by the code at a4747f4). -/
namespace Go.Proofs.YtnmanhediiooaaaGreatDoor
open Go.ChangeShapes Go.WideShapes Go.ChangeAt Go.RowKit
set_option linter.unusedVariables false
set_option linter.unusedSimpArgs false
set_option maxRecDepth 100000

theorem elemZ_bits (k : Nat) (h : k ≤ 7) : elemZ.getD k 0 = bitsI k := by
  rcases (by omega : k = 0 ∨ k = 1 ∨ k = 2 ∨ k = 3 ∨ k = 4 ∨ k = 5 ∨ k = 6 ∨ k = 7) with h | h | h | h | h | h | h | h <;> subst h <;> rfl

theorem LBits_any (e : Int) (w : World) (hT : TabOK w) (h0 : 0 ≤ e) (h7 : e ≤ 7) : Calls Tryz.prog 103 #[.int .i64 e] w fun r w' => r = .returned (.int .i64 (bitsI e)) ∧ w = w' := by
  obtain ⟨k, rfl⟩ := Int.eq_ofNat_of_zero_le h0
  have hk : k ≤ 7 := by omega
  have hc := hT k (by omega)
  rw [elemZ_bits k hk] at hc
  have HT := Lib.hid hT
  generalize bitsI k = x at *
  clear hT
  go_enter Tryz.func103, Tryz.ntmps103
  go_wp2
  go_ret
  exact ⟨rfl, rfl⟩

theorem totalBits_any (e c : Int) (w : World) (hT : TabOK w) (h0 : 0 ≤ e) (h7 : e ≤ 7) (hc : 0 ≤ c) (h1 : c ≤ 536870911) : Calls Tryz.prog 92 #[.int .i64 e, .int .i64 c] w fun r w' => r = .returned (.int .i64 (bitsI e * c)) ∧ w = w' := by
  have HB := Lib.hid (LBits_any e w hT h0 h7)
  obtain ⟨m0, m1⟩ := bitsI_mul e c hc
  clear hT
  generalize bitsI e = x at *
  go_enter Tryz.func92, Tryz.ntmps92
  go_wp2_with fail
  refine HB.out.mono ?_
  rintro e w' ⟨rfl, rfl⟩
  go_wp2
  go_ret
  exact ⟨rfl, rfl⟩

theorem units_any (e c s : Int) (w : World) (hT : TabOK w) (h0 : 0 ≤ e) (h7 : e ≤ 7) (hc : 0 ≤ c) (h1 : c ≤ 536870911) (hs : s = 8 ∨ s = 64) : Calls Tryz.prog 93 #[.int .i64 e, .int .i64 c, .int .i64 s] w fun r w' => r = .returned (.int .i64 ((bitsI e * c + s - 1) / s)) ∧ w = w' := by
  have HB := Lib.hid (totalBits_any e c w hT h0 h7 hc h1)
  obtain ⟨m0, m1⟩ := bitsI_mul e c hc
  clear hT
  generalize bitsI e * c = x at *
  rcases hs with rfl | rfl
  all_goals
    go_enter Tryz.func93, Tryz.ntmps93
    go_wp2_with fail
    refine HB.out.mono ?_
    rintro e w' ⟨rfl, rfl⟩
    go_wp2
    go_ret
    exact ⟨rfl, rfl⟩

theorem LWords_any (e c : Int) (w : World) (hT : TabOK w) (h0 : 0 ≤ e) (h7 : e ≤ 7) (hc : 0 ≤ c) (h1 : c ≤ 536870911) : Calls Tryz.prog 74 #[.int .i64 e, .int .i64 c] w fun r w' => r = .returned (.int .i64 (wordsI e c)) ∧ w = w' := by
  by_cases he : e = 7
  · subst he
    have HW : Hid (wordsI 7 c = 1 + c) := Lib.hid (by unfold wordsI; rw [if_pos rfl]; omega)
    clear hT
    go_enter Tryz.func74, Tryz.ntmps74
    go_wp2
    go_ret
    exact ⟨by rw [HW.out]; rfl, rfl⟩
  · have HW : Hid (wordsI e c = (bitsI e * c + 64 - 1) / 64) := Lib.hid (by unfold wordsI; rw [if_neg he]; omega)
    have HB := Lib.hid (units_any e c 64 w hT h0 h7 hc h1 (.inr rfl))
    have he2 : (e == 7) = false := beq_eq_false_iff_ne.2 he
    clear hT he
    rw [← HW.out] at HB
    generalize wordsI e c = x at *
    go_enter Tryz.func74, Tryz.ntmps74
    go_wp2_with fail
    refine HB.out.mono ?_
    rintro e w' ⟨rfl, rfl⟩
    go_wp2
    go_ret
    exact ⟨rfl, rfl⟩

theorem LBytes_any (e c : Int) (w : World) (hT : TabOK w) (h0 : 0 ≤ e) (h5 : e ≤ 5) (hc : 0 ≤ c) (h1 : c ≤ 536870911) : Calls Tryz.prog 91 #[.int .i64 e, .int .i64 c] w fun r w' => r = .returned (.int .i64 (bytesI e c)) ∧ w = w' := by
  have HW : Hid (bytesI e c = (bitsI e * c + 8 - 1) / 8) := Lib.hid (by unfold bytesI; omega)
  have HB := Lib.hid (units_any e c 8 w hT h0 (by omega) hc h1 (.inl rfl))
  clear hT
  rw [← HW.out] at HB
  generalize bytesI e c = x at *
  go_enter Tryz.func91, Tryz.ntmps91
  go_wp2_with fail
  refine HB.out.mono ?_
  rintro e w' ⟨rfl, rfl⟩
  go_wp2
  go_ret
  exact ⟨rfl, rfl⟩

/-! ## Trim -/
set_option maxRecDepth 100000 in
theorem mask8_fin : ∀ q : Fin 8, ∀ z : Fin 256, bits .and .u8 (z.val : Int) ((2 ^ q.val - 1) % 256) = (z.val : Int) % p2 q.val := by decide +kernel
theorem mask8 (q : Nat) (h : q < 8) (z : Int) (h0 : 0 ≤ z) (h1 : z < 256) : bits .and .u8 z ((2 ^ q - 1) % 256) = z % p2 q := by
  have := mask8_fin ⟨q, h⟩ ⟨z.toNat, by omega⟩
  simpa [Int.toNat_of_nonneg h0] using this

theorem trimL_plain {b : List Int} {e c : Int} {n : Nat} (hn : bytesI e c = n) (hnb : n ≤ b.length) (he : 0 ≤ e) (he5 : e ≤ 5) (hc : 0 ≤ c) (hu : bitsI e * c % 8 = 0) : trimL b e c = b.take n := by
  apply ext_zat
  · rw [trimL_length, hn, List.length_take]; omega
  · intro i hi
    rw [trimL_length, hn] at hi
    have hi2 : i < n := by omega
    rw [trimL_zat _ _ _ _ (by rw [hn]; omega), zat_take _ _ _ hi2]
    unfold trimAt
    rw [if_neg]
    rintro ⟨rfl, h⟩
    unfold bytesI at hn
    have h4 : bitsI 1 = 1 := rfl
    rw [h4] at hn hu
    omega
theorem trimL_last {b : List Int} {e c : Int} {n : Nat} {q : Nat} (hn : bytesI e c = n) (hnb : n ≤ b.length) (he : 0 ≤ e) (he5 : e ≤ 5) (hc : 0 ≤ c) (hu : bitsI e * c % 8 = q) (hq : 0 < q) :
    1 ≤ n ∧ q < 8 ∧ trimL b e c = (b.take n).set (n - 1) (zat b (n - 1) % p2 q) := by
  have h1 : e = 1 := by
    rcases (by omega : e = 0 ∨ e = 1 ∨ e = 2 ∨ e = 3 ∨ e = 4 ∨ e = 5) with h | h | h | h | h | h <;> subst h
    · rw [show bitsI 0 = 0 from rfl] at hu; omega
    · rfl
    · rw [show bitsI 2 = 8 from rfl] at hu; omega
    · rw [show bitsI 3 = 16 from rfl] at hu; omega
    · rw [show bitsI 4 = 32 from rfl] at hu; omega
    · rw [show bitsI 5 = 64 from rfl] at hu; omega
  subst h1
  have hn' := hn
  unfold bytesI at hn'
  have h4 : bitsI 1 = 1 := rfl
  rw [h4] at hn' hu
  refine ⟨by omega, by omega, ?_⟩
  apply ext_zat
  · rw [trimL_length, hn, List.length_set, List.length_take]; omega
  · intro i hi
    rw [trimL_length, hn] at hi
    have hi2 : i < n := by omega
    rw [trimL_zat _ _ _ _ (by rw [hn]; omega)]
    unfold trimAt
    by_cases hl : i = n - 1
    · subst hl
      rw [if_pos ⟨rfl, by omega⟩, show c - 8 * ((n - 1 : Nat) : Int) = q by omega]
      simp [zat, List.getD_eq_getElem?_getD, List.getElem?_set, show n - 1 < n by omega, show n - 1 < b.length by omega, show n - 1 < min n b.length by omega]
    · rw [if_neg (by rintro ⟨-, h⟩; omega)]
      simp [zat, List.getD_eq_getElem?_getD, List.getElem?_set, show n - 1 ≠ i by omega, hi2]

attribute [local irreducible] p2

set_option maxRecDepth 100000 in
theorem LTrim_any (A : Option Addr) (cp : Nat) (b : List Int) (e c : Int) (w : World) (hT : TabOK w) (hr : Ri w .u8 A b) (hb : Bts b) (hnil : A = none → cp = 0) (hm : b.length ≤ 1099511627776) (hc : b.length ≤ cp) (hcm : cp ≤ 9223372036854775807) (he0 : 0 ≤ e) (he5 : e ≤ 5) (h0 : 0 ≤ c) (h1 : c ≤ 536870911) (hl : bytesI e c ≤ b.length) :
    Calls Tryz.prog 73 #[.int .i64 e, .int .i64 c, .slice A b.length cp] w fun r w' => ∃ v, r = .returned v ∧ Got w' w.heap.size 5 .u8 v (trimL b e c) ∧ Below w.heap.size w w' := by
  obtain ⟨m0, m1⟩ := bitsI_mul e c h0
  have hB : 0 ≤ bytesI e c := by unfold bytesI; omega
  obtain ⟨n, hn⟩ := Int.eq_ofNat_of_zero_le hB
  have hnb : n ≤ b.length := by omega
  have hnb2 : (n : Int) ≤ (b.length : Int) := by omega
  have HB := Lib.hid (LBytes_any e c w hT he0 he5 h0 h1)
  have HTB := Lib.hid (fun w' (h : TabOK w') => totalBits_any e c w' h he0 (by omega) h0 h1)
  rw [hn] at HB
  have HT := Lib.hid hT
  have HTK : Hid (n = (b.take n).length) := Lib.hid (by rw [List.length_take]; omega)
  have HCL := Lib.hid (bytesClone_any A cp (b.take n) w (hr.take n) (by rw [List.length_take]; omega) hnil (by rw [List.length_take]; omega) n HTK.out)
  obtain ⟨q, hq⟩ : ∃ q : Nat, bitsI e * c % 8 = q := ⟨(bitsI e * c % 8).toNat, by omega⟩
  have HQ := Lib.hid hq
  have HP := Lib.hid (fun h : q = 0 => trimL_plain hn hnb he0 he5 h0 (by rw [hq, h]; rfl))
  have HLAST := Lib.hid (fun h : 0 < q => trimL_last hn hnb he0 he5 h0 hq h)
  have Hb := Lib.hid hb
  have hcase : (∃ g, A = some g) ∨ (A = none ∧ cp = 0 ∧ n = 0) := by
    cases A with
    | none => have := hnil rfl; exact .inr ⟨rfl, this, by omega⟩
    | some g => exact .inl ⟨g, rfl⟩
  have hq8 : q < 8 := by omega
  clear hT hr hb hl hn hB hq hnil
  generalize trimL b e c = T at *
  generalize bitsI e * c = x at *
  rcases hcase with ⟨g, rfl⟩ | ⟨rfl, rfl, rfl⟩
  · have hz : q = 0 ∨ 0 < q := by omega
    rcases hz with hz | hz
    · have HR := Lib.hid (HP.out hz)
      have tq : (0 : Int) < x % 8 ↔ False := by rw [HQ.out]; simp; omega
      clear hz HP HLAST
      go_enter Tryz.func73, Tryz.ntmps73
      go_wp2_with fail
      refine HB.out.mono ?_
      rintro e w' ⟨rfl, rfl⟩
      go_wp2_with fail
      refine HCL.out.mono ?_
      rintro e w1 ⟨v, rfl, hg, hb1⟩
      have HW1 := Lib.hid hb1
      clear hb1
      go_wp2_with fail
      refine (HTB.out _ (HT.out.on HW1.out)).mono ?_
      rintro e w' ⟨rfl, rfl⟩
      go_wp2
      go_ret
      exact ⟨_, rfl, hg.cast rfl HR.out.symm, HW1.out⟩
    · obtain ⟨hn1, -, hR⟩ := HLAST.out hz
      obtain ⟨m, rfl⟩ : ∃ m, n = m + 1 := ⟨n - 1, by omega⟩
      rw [Nat.add_sub_cancel] at hR
      have HR := Lib.hid hR
      have tq : 0 < x % 8 := by rw [HQ.out]; omega
      have tq0 : 0 ≤ x % 8 := by omega
      have tq1 : x % 8 < 8 := by omega
      have HZ := Lib.hid hz
      clear hz HP HLAST hR
      go_enter Tryz.func73, Tryz.ntmps73
      go_wp2_with fail
      refine HB.out.mono ?_
      rintro e w' ⟨rfl, rfl⟩
      go_wp2_with fail
      refine HCL.out.mono ?_
      rintro e w1 ⟨v, rfl, hg, hb1⟩
      have HW1 := Lib.hid hb1
      clear hb1
      have hlen : (b.take (m + 1)).length = m + 1 := HTK.out.symm
      obtain ⟨A2, c2, rfl, hc2, hm2, _⟩ := hg.slice
      obtain ⟨g2, rfl, hg0, hg1, _⟩ := hg.addr (by omega)
      have hcell := hg.cell m (by omega)
      have hfree := hg.free m
      rw [zat_take _ _ _ (by omega)] at hcell
      have hzm := Hb.out.at m
      have hzm0 := hzm.1
      have hzm1 := hzm.2
      have HG := Lib.hid (fun y => hg.put m y)
      clear hg hzm
      rw [hlen] at hc2 ⊢
      clear hlen
      go_wp2_with fail
      refine (HTB.out _ (HT.out.on HW1.out)).mono ?_
      rintro e w' ⟨rfl, rfl⟩
      go_wp2
      go_ret
      refine ⟨_, rfl, ?_, HW1.out.setCell hg0 _⟩
      rw [HR.out, HQ.out, Int.toNat_natCast, mask8 q hq8 _ hzm0 hzm1]
      exact (HG.out _).cast (by rw [← HTK.out]; rfl) rfl
  · have hz : q = 0 := by
      rcases (by omega : q = 0 ∨ 0 < q) with h | h
      · exact h
      · have := (HLAST.out h).1; omega
    have HR := Lib.hid (HP.out hz)
    have tq : (0 : Int) < x % 8 ↔ False := by rw [HQ.out]; simp; omega
    clear hz HP HLAST
    go_enter Tryz.func73, Tryz.ntmps73
    go_wp2_with fail
    refine HB.out.mono ?_
    rintro e w' ⟨rfl, rfl⟩
    go_wp2_with fail
    refine HCL.out.mono ?_
    rintro e w1 ⟨v, rfl, hg, hb1⟩
    have HW1 := Lib.hid hb1
    clear hb1
    go_wp2_with fail
    refine (HTB.out _ (HT.out.on HW1.out)).mono ?_
    rintro e w' ⟨rfl, rfl⟩
    go_wp2
    go_ret
    exact ⟨_, rfl, hg.cast rfl HR.out.symm, HW1.out⟩
end Go.Proofs.YtnmanhediiooaaaGreatDoor

/- What the functions of package resolve below Object do, each by a contract (by the code at 5978601). -/
namespace Go.Proofs.YtnmanhediiooaaaGreatDoor
open Go.ChangeShapes Go.WideShapes Go.ChangeAt Go.RowKit
set_option linter.unusedVariables false
set_option linter.unusedSimpArgs false
set_option maxRecDepth 100000

/-- a struct, a list that is not composite, a composite list: at the position where the contents begin -/
def strR (ls : List (List Int)) (d p s t : Int) : Ob × Int := if inB ls s t (d + p) = true then (⟨1, s, t, d, p, 0, 0, d + p⟩, 0) else (ob0, 2)
def lstR (ls : List (List Int)) (el cc s t : Int) : Ob × Int := if inB ls s t (wordsI el cc) = true then (⟨2, s, t, 0, 0, el, cc, wordsI el cc⟩, 0) else (ob0, 2)
def cmpR (ls : List (List Int)) (cc s t : Int) : Ob × Int := if inB ls s t (wordsI 7 cc) = true then compF ls s t cc (wordsI 7 cc) else (ob0, 2)

theorem holds_any (A : Option Addr) (c : Nat) (ls : List (List Int)) (k o d p el cc pa pg lo s t : Int) (db : Bool) (w : World) (n : Int) (hs : Sg w A ls) (hm : ls.length ≤ 140737488355328) (hs0 : -9223372036854775808 ≤ s) (hs1 : s ≤ 9223372036854775807) (ht0 : -9223372036854775808 ≤ t) (ht1 : t ≤ 9223372036854775807) (hn0 : -9223372036854775808 ≤ n) (hn1 : n ≤ 9223372036854775807) :
    Calls Tryz.prog 100 #[.agg #[.slice A ls.length c, .int .i64 k, .int .i64 o, .int .i64 d, .int .i64 p, .int .i64 el, .int .i64 cc, .bool db, .int .i64 pa, .int .u32 pg, .int .u32 lo, .int .i64 s, .int .i64 t], .int .i64 n] w fun e w' => e = .returned (.bool (inB ls s t n)) ∧ Below w.heap.size w w' := by
  have HI := Lib.hid (fun w2 hs2 => AInF_any A c ls s t n w2 hs2 hm hs0 hs1 ht0 ht1 hn0 hn1)
  have Hs := Lib.hid hs
  clear hs
  go_enter Tryz.func100, Tryz.ntmps100
  go_wp2_with fail
  refine (HI.out _ (Hs.out.alloc _)).mono ?_
  rintro e w' ⟨rfl, rfl⟩
  go_wp2
  go_ret
  exact ⟨rfl, (Below.refl _ _).alloc (Nat.le_refl _) _⟩

set_option maxRecDepth 100000 in
set_option maxHeartbeats 1000000 in
theorem structure_any (A : Option Addr) (c : Nat) (ls : List (List Int)) (k o d p el cc pa pg lo s t : Int) (db : Bool) (w : World) (d0 : 0 ≤ d) (d1 : d ≤ 65535) (p0 : 0 ≤ p) (p1 : p ≤ 65535) (hs : Sg w A ls) (hm : ls.length ≤ 140737488355328) (hs0 : -9223372036854775808 ≤ s) (hs1 : s ≤ 9223372036854775807) (ht0 : -9223372036854775808 ≤ t) (ht1 : t ≤ 9223372036854775807) :
    Calls Tryz.prog 83 #[.agg #[.slice A ls.length c, .int .i64 k, .int .i64 o, .int .i64 d, .int .i64 p, .int .i64 el, .int .i64 cc, .bool db, .int .i64 pa, .int .u32 pg, .int .u32 lo, .int .i64 s, .int .i64 t]] w fun e w' => e = .returned (.tuple #[.agg #[.int .i64 (strR ls d p s t).1.k, .int .i64 (strR ls d p s t).1.sg, .int .i64 (strR ls d p s t).1.at', .int .i64 (strR ls d p s t).1.d, .int .i64 (strR ls d p s t).1.p, .int .i64 (strR ls d p s t).1.el, .int .i64 (strR ls d p s t).1.n, .int .i64 (strR ls d p s t).1.cost], .int .i64 (strR ls d p s t).2]) ∧ Below w.heap.size w w' := by
  have HH := Lib.hid (fun w2 hs2 => holds_any A c ls k o d p el cc pa pg lo s t db w2 (d + p) hs2 hm hs0 hs1 ht0 ht1 (by omega) (by omega))
  have Hs := Lib.hid hs
  clear hs
  cases hi : inB ls s t (d + p) with
  | true =>
    have HR : Hid (strR ls d p s t = (⟨1, s, t, d, p, 0, 0, d + p⟩, 0)) := Lib.hid (by unfold strR; rw [hi]; rfl)
    rw [hi] at HH
    clear hi
    go_enter Tryz.func83, Tryz.ntmps83
    go_wp2_with fail
    refine (HH.out _ (((Hs.out.alloc _).alloc _).alloc _)).mono ?_
    rintro e w1 ⟨rfl, hb⟩
    have BL := (((Blk.fresh w #[.slice A ls.length c, .int .i64 k, .int .i64 o, .int .i64 d, .int .i64 p, .int .i64 el, .int .i64 cc, .bool db, .int .i64 pa, .int .u32 pg, .int .u32 lo, .int .i64 s, .int .i64 t] 122).alloc _).alloc _).below hb
    have BO := ((Blk.fresh (w.alloc (.cells #[.slice A ls.length c, .int .i64 k, .int .i64 o, .int .i64 d, .int .i64 p, .int .i64 el, .int .i64 cc, .bool db, .int .i64 pa, .int .u32 pg, .int .u32 lo, .int .i64 s, .int .i64 t] 122)) #[.int .i64 0, .int .i64 0, .int .i64 0, .int .i64 0, .int .i64 0, .int .i64 0, .int .i64 0, .int .i64 0] 74).alloc _).below hb
    have BP := (Blk.fresh ((w.alloc (.cells #[.slice A ls.length c, .int .i64 k, .int .i64 o, .int .i64 d, .int .i64 p, .int .i64 el, .int .i64 cc, .bool db, .int .i64 pa, .int .u32 pg, .int .u32 lo, .int .i64 s, .int .i64 t] 122)).alloc (.cells #[.int .i64 0, .int .i64 0, .int .i64 0, .int .i64 0, .int .i64 0, .int .i64 0, .int .i64 0, .int .i64 0] 74)) #[.int .i64 k, .int .i64 o, .int .i64 d, .int .i64 p, .int .i64 el, .int .i64 cc, .bool db, .int .i64 pa, .int .u32 pg, .int .u32 lo] 45).below hb
    rw [World.size_alloc] at BO BP
    rw [World.size_alloc] at BP
    have HB : Hid (Below w.heap.size w w1) := Lib.hid (((((Below.refl _ _).alloc (Nat.le_refl _) _).alloc (by simp) _).alloc (by simp; omega) _).trans (hb.mono (by simp; omega)))
    clear hb HH
    have HO := Lib.hid BO
    obtain ⟨xl, yl, zl⟩ := BL
    obtain ⟨xo, yo, zo⟩ := BO
    obtain ⟨xp, yp, zp⟩ := BP
    go_wp2_with fail
    refine abs_post (F := fun W => Blk W (w.heap.size + 1) #[.int .i64 1, .int .i64 s, .int .i64 t, .int .i64 d, .int .i64 p, .int .i64 0, .int .i64 0, .int .i64 (d + p)] ∧ Below w.heap.size w W) ⟨?_, ?_⟩ ?_
    · exact ((((((((HO.out.set 0 (by simp) _).set 1 (by simp) _).set 2 (by simp) _).set 3 (by simp) _).set 4 (by simp) _).set 5 (by simp) _).set 6 (by simp) _).set 7 (by simp) _)
    · repeat (with_reducible first | exact HB.out | refine bel_drewN ?_ _ | refine bel_drew ?_ | refine Below.alloc ?_ (by have := HB.out.size; simp [World.setCell]; omega) _ | refine Below.setCell ?_ (by first | (simp; done) | (simp; omega)) _)
    rintro V ⟨B6, hbv⟩
    exact bodyPost_ret (v := .tuple #[.agg #[.int .i64 1, .int .i64 s, .int .i64 t, .int .i64 d, .int .i64 p, .int .i64 0, .int .i64 0, .int .i64 (d + p)], .int .i64 0]) (by simp [results, Tryz.results83, go_sem, B6.cell]) rfl ⟨by rw [HR.out]; try rfl, hbv⟩
  | false =>
    have HR : Hid (strR ls d p s t = (ob0, 2)) := Lib.hid (by unfold strR; rw [hi]; rfl)
    rw [hi] at HH
    clear hi
    go_enter Tryz.func83, Tryz.ntmps83
    go_wp2_with fail
    refine (HH.out _ (((Hs.out.alloc _).alloc _).alloc _)).mono ?_
    rintro e w1 ⟨rfl, hb⟩
    have BL := (((Blk.fresh w #[.slice A ls.length c, .int .i64 k, .int .i64 o, .int .i64 d, .int .i64 p, .int .i64 el, .int .i64 cc, .bool db, .int .i64 pa, .int .u32 pg, .int .u32 lo, .int .i64 s, .int .i64 t] 122).alloc _).alloc _).below hb
    have BO := ((Blk.fresh (w.alloc (.cells #[.slice A ls.length c, .int .i64 k, .int .i64 o, .int .i64 d, .int .i64 p, .int .i64 el, .int .i64 cc, .bool db, .int .i64 pa, .int .u32 pg, .int .u32 lo, .int .i64 s, .int .i64 t] 122)) #[.int .i64 0, .int .i64 0, .int .i64 0, .int .i64 0, .int .i64 0, .int .i64 0, .int .i64 0, .int .i64 0] 74).alloc _).below hb
    have BP := (Blk.fresh ((w.alloc (.cells #[.slice A ls.length c, .int .i64 k, .int .i64 o, .int .i64 d, .int .i64 p, .int .i64 el, .int .i64 cc, .bool db, .int .i64 pa, .int .u32 pg, .int .u32 lo, .int .i64 s, .int .i64 t] 122)).alloc (.cells #[.int .i64 0, .int .i64 0, .int .i64 0, .int .i64 0, .int .i64 0, .int .i64 0, .int .i64 0, .int .i64 0] 74)) #[.int .i64 k, .int .i64 o, .int .i64 d, .int .i64 p, .int .i64 el, .int .i64 cc, .bool db, .int .i64 pa, .int .u32 pg, .int .u32 lo] 45).below hb
    rw [World.size_alloc] at BO BP
    rw [World.size_alloc] at BP
    have HB : Hid (Below w.heap.size w w1) := Lib.hid (((((Below.refl _ _).alloc (Nat.le_refl _) _).alloc (by simp) _).alloc (by simp; omega) _).trans (hb.mono (by simp; omega)))
    clear hb HH
    have HO := Lib.hid BO
    obtain ⟨xl, yl, zl⟩ := BL
    obtain ⟨xo, yo, zo⟩ := BO
    obtain ⟨xp, yp, zp⟩ := BP
    go_wp2_with fail
    refine abs_post (F := fun W => Blk W (w.heap.size + 1) #[.int .i64 0, .int .i64 0, .int .i64 0, .int .i64 0, .int .i64 0, .int .i64 0, .int .i64 0, .int .i64 0] ∧ Below w.heap.size w W) ⟨?_, ?_⟩ ?_
    · exact ((((((((HO.out.set 0 (by simp) _).set 1 (by simp) _).set 2 (by simp) _).set 3 (by simp) _).set 4 (by simp) _).set 5 (by simp) _).set 6 (by simp) _).set 7 (by simp) _)
    · repeat (with_reducible first | exact HB.out | refine bel_drewN ?_ _ | refine bel_drew ?_ | refine Below.alloc ?_ (by have := HB.out.size; simp [World.setCell]; omega) _ | refine Below.setCell ?_ (by first | (simp; done) | (simp; omega)) _)
    rintro V ⟨B6, hbv⟩
    exact bodyPost_ret (v := .tuple #[.agg #[.int .i64 0, .int .i64 0, .int .i64 0, .int .i64 0, .int .i64 0, .int .i64 0, .int .i64 0, .int .i64 0], .int .i64 2]) (by simp [results, Tryz.results83, go_sem, B6.cell]) rfl ⟨by rw [HR.out]; try rfl, hbv⟩

set_option maxRecDepth 100000 in
set_option maxHeartbeats 1000000 in
theorem list_any (A : Option Addr) (c : Nat) (ls : List (List Int)) (k o d p el cc pa pg lo s t : Int) (db : Bool) (w : World) (hT : TabOK w) (e0 : 0 ≤ el) (e7 : el ≤ 7) (c0 : 0 ≤ cc) (c1 : cc ≤ 536870911) (hs : Sg w A ls) (hm : ls.length ≤ 140737488355328) (hs0 : -9223372036854775808 ≤ s) (hs1 : s ≤ 9223372036854775807) (ht0 : -9223372036854775808 ≤ t) (ht1 : t ≤ 9223372036854775807) :
    Calls Tryz.prog 86 #[.agg #[.slice A ls.length c, .int .i64 k, .int .i64 o, .int .i64 d, .int .i64 p, .int .i64 el, .int .i64 cc, .bool db, .int .i64 pa, .int .u32 pg, .int .u32 lo, .int .i64 s, .int .i64 t]] w fun e w' => e = .returned (.tuple #[.agg #[.int .i64 (lstR ls el cc s t).1.k, .int .i64 (lstR ls el cc s t).1.sg, .int .i64 (lstR ls el cc s t).1.at', .int .i64 (lstR ls el cc s t).1.d, .int .i64 (lstR ls el cc s t).1.p, .int .i64 (lstR ls el cc s t).1.el, .int .i64 (lstR ls el cc s t).1.n, .int .i64 (lstR ls el cc s t).1.cost], .int .i64 (lstR ls el cc s t).2]) ∧ Below w.heap.size w w' := by
  have HH := Lib.hid (fun w2 hs2 => holds_any A c ls k o d p el cc pa pg lo s t db w2 (wordsI el cc) hs2 hm hs0 hs1 ht0 ht1 (by have := wordsI_lim el cc c0 c1; omega) (by have := wordsI_lim el cc c0 c1; omega))
  have Hs := Lib.hid hs
  have HT := Lib.hid hT
  have HL := Lib.hid (fun w2 hT2 => LWords_any el cc w2 hT2 e0 e7 c0 c1)
  clear hT
  clear hs
  cases hi : inB ls s t (wordsI el cc) with
  | true =>
    have HR : Hid (lstR ls el cc s t = (⟨2, s, t, 0, 0, el, cc, wordsI el cc⟩, 0)) := Lib.hid (by unfold lstR; rw [hi]; rfl)
    rw [hi] at HH
    clear hi
    generalize wordsI el cc = n at *
    go_enter Tryz.func86, Tryz.ntmps86
    go_wp2_with fail
    refine (HL.out _ (((HT.out.alloc _).alloc _).alloc _)).mono ?_
    rintro e w' ⟨rfl, rfl⟩
    go_wp2_with fail
    refine (HH.out _ (((Hs.out.alloc _).alloc _).alloc _)).mono ?_
    rintro e w1 ⟨rfl, hb⟩
    have BL := (((Blk.fresh w #[.slice A ls.length c, .int .i64 k, .int .i64 o, .int .i64 d, .int .i64 p, .int .i64 el, .int .i64 cc, .bool db, .int .i64 pa, .int .u32 pg, .int .u32 lo, .int .i64 s, .int .i64 t] 122).alloc _).alloc _).below hb
    have BO := ((Blk.fresh (w.alloc (.cells #[.slice A ls.length c, .int .i64 k, .int .i64 o, .int .i64 d, .int .i64 p, .int .i64 el, .int .i64 cc, .bool db, .int .i64 pa, .int .u32 pg, .int .u32 lo, .int .i64 s, .int .i64 t] 122)) #[.int .i64 0, .int .i64 0, .int .i64 0, .int .i64 0, .int .i64 0, .int .i64 0, .int .i64 0, .int .i64 0] 74).alloc _).below hb
    have BP := (Blk.fresh ((w.alloc (.cells #[.slice A ls.length c, .int .i64 k, .int .i64 o, .int .i64 d, .int .i64 p, .int .i64 el, .int .i64 cc, .bool db, .int .i64 pa, .int .u32 pg, .int .u32 lo, .int .i64 s, .int .i64 t] 122)).alloc (.cells #[.int .i64 0, .int .i64 0, .int .i64 0, .int .i64 0, .int .i64 0, .int .i64 0, .int .i64 0, .int .i64 0] 74)) #[.int .i64 k, .int .i64 o, .int .i64 d, .int .i64 p, .int .i64 el, .int .i64 cc, .bool db, .int .i64 pa, .int .u32 pg, .int .u32 lo] 45).below hb
    rw [World.size_alloc] at BO BP
    rw [World.size_alloc] at BP
    have HB : Hid (Below w.heap.size w w1) := Lib.hid (((((Below.refl _ _).alloc (Nat.le_refl _) _).alloc (by simp) _).alloc (by simp; omega) _).trans (hb.mono (by simp; omega)))
    clear hb HH
    have HO := Lib.hid BO
    obtain ⟨xl, yl, zl⟩ := BL
    obtain ⟨xo, yo, zo⟩ := BO
    obtain ⟨xp, yp, zp⟩ := BP
    go_wp2_with fail
    refine abs_post (F := fun W => Blk W (w.heap.size + 1) #[.int .i64 2, .int .i64 s, .int .i64 t, .int .i64 0, .int .i64 0, .int .i64 el, .int .i64 cc, .int .i64 n] ∧ Below w.heap.size w W) ⟨?_, ?_⟩ ?_
    · exact ((((((((HO.out.set 0 (by simp) _).set 1 (by simp) _).set 2 (by simp) _).set 3 (by simp) _).set 4 (by simp) _).set 5 (by simp) _).set 6 (by simp) _).set 7 (by simp) _)
    · repeat (with_reducible first | exact HB.out | refine bel_drewN ?_ _ | refine bel_drew ?_ | refine Below.alloc ?_ (by have := HB.out.size; simp [World.setCell]; omega) _ | refine Below.setCell ?_ (by first | (simp; done) | (simp; omega)) _)
    rintro V ⟨B6, hbv⟩
    exact bodyPost_ret (v := .tuple #[.agg #[.int .i64 2, .int .i64 s, .int .i64 t, .int .i64 0, .int .i64 0, .int .i64 el, .int .i64 cc, .int .i64 n], .int .i64 0]) (by simp [results, Tryz.results86, go_sem, B6.cell]) rfl ⟨by rw [HR.out]; try rfl, hbv⟩
  | false =>
    have HR : Hid (lstR ls el cc s t = (ob0, 2)) := Lib.hid (by unfold lstR; rw [hi]; rfl)
    rw [hi] at HH
    clear hi
    generalize wordsI el cc = n at *
    go_enter Tryz.func86, Tryz.ntmps86
    go_wp2_with fail
    refine (HL.out _ (((HT.out.alloc _).alloc _).alloc _)).mono ?_
    rintro e w' ⟨rfl, rfl⟩
    go_wp2_with fail
    refine (HH.out _ (((Hs.out.alloc _).alloc _).alloc _)).mono ?_
    rintro e w1 ⟨rfl, hb⟩
    have BL := (((Blk.fresh w #[.slice A ls.length c, .int .i64 k, .int .i64 o, .int .i64 d, .int .i64 p, .int .i64 el, .int .i64 cc, .bool db, .int .i64 pa, .int .u32 pg, .int .u32 lo, .int .i64 s, .int .i64 t] 122).alloc _).alloc _).below hb
    have BO := ((Blk.fresh (w.alloc (.cells #[.slice A ls.length c, .int .i64 k, .int .i64 o, .int .i64 d, .int .i64 p, .int .i64 el, .int .i64 cc, .bool db, .int .i64 pa, .int .u32 pg, .int .u32 lo, .int .i64 s, .int .i64 t] 122)) #[.int .i64 0, .int .i64 0, .int .i64 0, .int .i64 0, .int .i64 0, .int .i64 0, .int .i64 0, .int .i64 0] 74).alloc _).below hb
    have BP := (Blk.fresh ((w.alloc (.cells #[.slice A ls.length c, .int .i64 k, .int .i64 o, .int .i64 d, .int .i64 p, .int .i64 el, .int .i64 cc, .bool db, .int .i64 pa, .int .u32 pg, .int .u32 lo, .int .i64 s, .int .i64 t] 122)).alloc (.cells #[.int .i64 0, .int .i64 0, .int .i64 0, .int .i64 0, .int .i64 0, .int .i64 0, .int .i64 0, .int .i64 0] 74)) #[.int .i64 k, .int .i64 o, .int .i64 d, .int .i64 p, .int .i64 el, .int .i64 cc, .bool db, .int .i64 pa, .int .u32 pg, .int .u32 lo] 45).below hb
    rw [World.size_alloc] at BO BP
    rw [World.size_alloc] at BP
    have HB : Hid (Below w.heap.size w w1) := Lib.hid (((((Below.refl _ _).alloc (Nat.le_refl _) _).alloc (by simp) _).alloc (by simp; omega) _).trans (hb.mono (by simp; omega)))
    clear hb HH
    have HO := Lib.hid BO
    obtain ⟨xl, yl, zl⟩ := BL
    obtain ⟨xo, yo, zo⟩ := BO
    obtain ⟨xp, yp, zp⟩ := BP
    go_wp2_with fail
    refine abs_post (F := fun W => Blk W (w.heap.size + 1) #[.int .i64 0, .int .i64 0, .int .i64 0, .int .i64 0, .int .i64 0, .int .i64 0, .int .i64 0, .int .i64 0] ∧ Below w.heap.size w W) ⟨?_, ?_⟩ ?_
    · exact ((((((((HO.out.set 0 (by simp) _).set 1 (by simp) _).set 2 (by simp) _).set 3 (by simp) _).set 4 (by simp) _).set 5 (by simp) _).set 6 (by simp) _).set 7 (by simp) _)
    · repeat (with_reducible first | exact HB.out | refine bel_drewN ?_ _ | refine bel_drew ?_ | refine Below.alloc ?_ (by have := HB.out.size; simp [World.setCell]; omega) _ | refine Below.setCell ?_ (by first | (simp; done) | (simp; omega)) _)
    rintro V ⟨B6, hbv⟩
    exact bodyPost_ret (v := .tuple #[.agg #[.int .i64 0, .int .i64 0, .int .i64 0, .int .i64 0, .int .i64 0, .int .i64 0, .int .i64 0, .int .i64 0], .int .i64 2]) (by simp [results, Tryz.results86, go_sem, B6.cell]) rfl ⟨by rw [HR.out]; try rfl, hbv⟩

end Go.Proofs.YtnmanhediiooaaaGreatDoor

/- What (capnp/resolve.location).composite does (by the code at 5978601). -/
namespace Go.Proofs.YtnmanhediiooaaaGreatDoor
open Go.ChangeShapes Go.WideShapes Go.ChangeAt Go.RowKit
set_option linter.unusedVariables false
set_option linter.unusedSimpArgs false
set_option maxRecDepth 100000

set_option maxRecDepth 100000 in
set_option maxHeartbeats 8000000 in
theorem composite_any (A : Option Addr) (c : Nat) (ls : List (List Int)) (k o d p el cc pa pg lo s t : Int) (db : Bool) (w : World) (hT : TabOK w) (c0 : 0 ≤ cc) (c1 : cc ≤ 536870911) (hs : Sg w A ls) (hw : Wd2 ls) (hm : ls.length ≤ 140737488355328) (hf : ∀ j, (seg ls j).length ≤ 140737488355328) (hs0 : -9223372036854775808 ≤ s) (hs1 : s ≤ 9223372036854775807) (ht0 : -9223372036854775808 ≤ t) (ht1 : t ≤ 9223372036854775807) :
    Calls Tryz.prog 85 #[.agg #[.slice A ls.length c, .int .i64 k, .int .i64 o, .int .i64 d, .int .i64 p, .int .i64 el, .int .i64 cc, .bool db, .int .i64 pa, .int .u32 pg, .int .u32 lo, .int .i64 s, .int .i64 t]] w fun e w' => e = .returned (.tuple #[.agg #[.int .i64 (cmpR ls cc s t).1.k, .int .i64 (cmpR ls cc s t).1.sg, .int .i64 (cmpR ls cc s t).1.at', .int .i64 (cmpR ls cc s t).1.d, .int .i64 (cmpR ls cc s t).1.p, .int .i64 (cmpR ls cc s t).1.el, .int .i64 (cmpR ls cc s t).1.n, .int .i64 (cmpR ls cc s t).1.cost], .int .i64 (cmpR ls cc s t).2]) ∧ Below w.heap.size w w' := by
  have hwl := wordsI_lim 7 cc c0 c1
  have HH := Lib.hid (fun w2 hs2 => holds_any A c ls k o d p el cc pa pg lo s t db w2 (wordsI 7 cc) hs2 hm hs0 hs1 ht0 ht1 (by omega) (by omega))
  have HA := Lib.hid (fun w2 hs2 => AWordF_any A c ls s t w2 hs2 hm hs0 hs1 ht0 ht1)
  have Hs := Lib.hid hs
  have HT := Lib.hid hT
  have HL := Lib.hid (fun w2 hT2 => LWords_any 7 cc w2 hT2 (by omega) (by omega) c0 c1)
  have hwd := wordV_bd hw s t
  have HD := Lib.hid (fun w2 => Decode_any (wordV ls s t) w2 hwd.1 hwd.2)
  have hq := decP_bd (wordV ls s t) hwd.1 hwd.2
  clear hT hs hwd hw
  cases hi : inB ls s t (wordsI 7 cc) with
  | false =>
    have HR : Hid (cmpR ls cc s t = (ob0, 2)) := Lib.hid (by unfold cmpR; rw [hi]; rfl)
    rw [hi] at HH
    clear hi hq HD HA hf hwl
    generalize wordsI 7 cc = n at *
    go_enter Tryz.func85, Tryz.ntmps85
    go_wp2_with fail
    refine (HL.out _ ((HT.out.alloc _).alloc _)).mono ?_
    rintro e w' ⟨rfl, rfl⟩
    go_wp2_with fail
    refine (HH.out _ ((Hs.out.alloc _).alloc _)).mono ?_
    rintro e w1 ⟨rfl, hb⟩
    have BL := ((Blk.fresh w #[.slice A ls.length c, .int .i64 k, .int .i64 o, .int .i64 d, .int .i64 p, .int .i64 el, .int .i64 cc, .bool db, .int .i64 pa, .int .u32 pg, .int .u32 lo, .int .i64 s, .int .i64 t] 122).alloc _).below hb
    have BO := (Blk.fresh (w.alloc (.cells #[.slice A ls.length c, .int .i64 k, .int .i64 o, .int .i64 d, .int .i64 p, .int .i64 el, .int .i64 cc, .bool db, .int .i64 pa, .int .u32 pg, .int .u32 lo, .int .i64 s, .int .i64 t] 122)) #[.int .i64 0, .int .i64 0, .int .i64 0, .int .i64 0, .int .i64 0, .int .i64 0, .int .i64 0, .int .i64 0] 74).below hb
    rw [World.size_alloc] at BO
    have HB : Hid (Below w.heap.size w w1) := Lib.hid ((((Below.refl _ _).alloc (Nat.le_refl _) _).alloc (by simp) _).trans (hb.mono (by simp; omega)))
    clear hb HH
    have HLc := Lib.hid BL
    have HO := Lib.hid BO
    obtain ⟨xl, yl, zl⟩ := BL
    obtain ⟨xo, yo, zo⟩ := BO
    go_wp2_with fail
    refine abs_post (F := fun W => Blk W (w.heap.size + 1) #[.int .i64 0, .int .i64 0, .int .i64 0, .int .i64 0, .int .i64 0, .int .i64 0, .int .i64 0, .int .i64 0] ∧ Below w.heap.size w W) ⟨?_, ?_⟩ ?_
    · exact ((((((((HO.out.set 0 (by simp) _).set 1 (by simp) _).set 2 (by simp) _).set 3 (by simp) _).set 4 (by simp) _).set 5 (by simp) _).set 6 (by simp) _).set 7 (by simp) _)
    · repeat (with_reducible first | exact HB.out | refine bel_drewN ?_ _ | refine bel_drew ?_ | refine Below.alloc ?_ (by have := HB.out.size; simp [World.setCell]; omega) _ | refine Below.setCell ?_ (by first | (simp; done) | (simp; omega)) _)
    rintro V ⟨B6, hbv⟩
    exact bodyPost_ret (v := .tuple #[.agg #[.int .i64 0, .int .i64 0, .int .i64 0, .int .i64 0, .int .i64 0, .int .i64 0, .int .i64 0, .int .i64 0], .int .i64 2]) (by simp [results, Tryz.results85, go_sem, B6.cell]) rfl ⟨by rw [HR.out]; try rfl, hbv⟩
  | true =>
    have h0 := inB_iff.1 hi
    have hf2 := hf s.toNat
    have HTB : Hid (t + 1 ≤ 140737488355329 ∧ 0 ≤ t) := Lib.hid (by omega)
    have hr : cmpR ls cc s t = compF ls s t cc (wordsI 7 cc) := by unfold cmpR; rw [hi]; rfl
    unfold compF at hr
    have HR := Lib.hid hr
    have HWL := Lib.hid hwl
    rw [hi] at HH
    clear hi hr h0 hf2 hf hwl
    generalize wordsI 7 cc = n at *
    generalize decP (wordV ls s t) = q at *
    generalize wordV ls s t = x at *
    go_enter Tryz.func85, Tryz.ntmps85
    go_wp2_with fail
    refine (HL.out _ ((HT.out.alloc _).alloc _)).mono ?_
    rintro e w' ⟨rfl, rfl⟩
    go_wp2_with fail
    refine (HH.out _ ((Hs.out.alloc _).alloc _)).mono ?_
    rintro e w1 ⟨rfl, hb⟩
    have BL := ((Blk.fresh w #[.slice A ls.length c, .int .i64 k, .int .i64 o, .int .i64 d, .int .i64 p, .int .i64 el, .int .i64 cc, .bool db, .int .i64 pa, .int .u32 pg, .int .u32 lo, .int .i64 s, .int .i64 t] 122).alloc _).below hb
    have BO := (Blk.fresh (w.alloc (.cells #[.slice A ls.length c, .int .i64 k, .int .i64 o, .int .i64 d, .int .i64 p, .int .i64 el, .int .i64 cc, .bool db, .int .i64 pa, .int .u32 pg, .int .u32 lo, .int .i64 s, .int .i64 t] 122)) #[.int .i64 0, .int .i64 0, .int .i64 0, .int .i64 0, .int .i64 0, .int .i64 0, .int .i64 0, .int .i64 0] 74).below hb
    rw [World.size_alloc] at BO
    have HB : Hid (Below w.heap.size w w1) := Lib.hid ((((Below.refl _ _).alloc (Nat.le_refl _) _).alloc (by simp) _).trans (hb.mono (by simp; omega)))
    clear hb HH
    have HLc := Lib.hid BL
    have HO := Lib.hid BO
    obtain ⟨xl, yl, zl⟩ := BL
    obtain ⟨xo, yo, zo⟩ := BO
    go_wp2_with fail
    refine (HA.out _ (Hs.out.below HB.out (Nat.le_refl _))).mono ?_
    rintro e w' ⟨rfl, rfl⟩
    go_wp2_with fail
    refine (HD.out _).mono ?_
    rintro e w2 ⟨rfl, hb⟩
    have BL := HLc.out.below hb
    have BO := HO.out.below hb
    have hsz := HB.out.size
    have HB : Hid (Below w.heap.size w w2) := Lib.hid (HB.out.trans (hb.mono hsz))
    clear hb hsz HA HD HL HLc HO xl yl zl xo yo zo
    have HLc := Lib.hid BL
    have HO := Lib.hid BO
    obtain ⟨xl, yl, zl⟩ := BL
    obtain ⟨xo, yo, zo⟩ := BO
    have hq2 : 0 ≤ q.d ∧ q.d ≤ 65535 ∧ 0 ≤ q.p ∧ q.p ≤ 65535 ∧ -536870912 ≤ q.o ∧ q.o ≤ 536870911 := by omega
    clear hq
    obtain ⟨b1, b2, b3, b4, b5, b6⟩ := hq2
    have htb := HTB.out
    have hwl := HWL.out
    by_cases h1 : q.k = 0
    · have t5 : (q.k != 0) = false := by simpa using h1
      have H0 := Lib.hid h1
      clear h1
      by_cases h2 : q.o < 0
      · have H1 := Lib.hid h2
        go_wp2_with fail
        refine abs_post (F := fun W => Blk W (w.heap.size + 1) #[.int .i64 0, .int .i64 0, .int .i64 0, .int .i64 0, .int .i64 0, .int .i64 0, .int .i64 0, .int .i64 0] ∧ Below w.heap.size w W) ⟨?_, ?_⟩ ?_
        · exact ((((((((HO.out.set 0 (by simp) _).set 1 (by simp) _).set 2 (by simp) _).set 3 (by simp) _).set 4 (by simp) _).set 5 (by simp) _).set 6 (by simp) _).set 7 (by simp) _).alloc _
        · repeat (with_reducible first | exact HB.out | refine bel_drewN ?_ _ | refine bel_drew ?_ | refine Below.alloc ?_ (by have := HB.out.size; simp [World.setCell]; omega) _ | refine Below.setCell ?_ (by first | (simp; done) | (simp; omega)) _)
        rintro V ⟨B6, hbv⟩
        exact bodyPost_ret (v := .tuple #[.agg #[.int .i64 0, .int .i64 0, .int .i64 0, .int .i64 0, .int .i64 0, .int .i64 0, .int .i64 0, .int .i64 0], .int .i64 5]) (by simp [results, Tryz.results85, go_sem, B6.cell]) rfl ⟨by rw [HR.out, if_pos (Or.inr (Or.inl H1.out))]; try rfl, hbv⟩
      have m0 : 0 ≤ q.o * (q.d + q.p) := Int.mul_nonneg (by omega) (by omega)
      have m1 : q.o * (q.d + q.p) ≤ 536870911 * 131070 := Int.mul_le_mul (by omega) (by omega) (by omega) (by omega)
      by_cases h3 : cc < q.o * (q.d + q.p)
      · have H1 := Lib.hid h3
        go_wp2_with fail
        refine abs_post (F := fun W => Blk W (w.heap.size + 1) #[.int .i64 0, .int .i64 0, .int .i64 0, .int .i64 0, .int .i64 0, .int .i64 0, .int .i64 0, .int .i64 0] ∧ Below w.heap.size w W) ⟨?_, ?_⟩ ?_
        · exact ((((((((HO.out.set 0 (by simp) _).set 1 (by simp) _).set 2 (by simp) _).set 3 (by simp) _).set 4 (by simp) _).set 5 (by simp) _).set 6 (by simp) _).set 7 (by simp) _).alloc _
        · repeat (with_reducible first | exact HB.out | refine bel_drewN ?_ _ | refine bel_drew ?_ | refine Below.alloc ?_ (by have := HB.out.size; simp [World.setCell]; omega) _ | refine Below.setCell ?_ (by first | (simp; done) | (simp; omega)) _)
        rintro V ⟨B6, hbv⟩
        exact bodyPost_ret (v := .tuple #[.agg #[.int .i64 0, .int .i64 0, .int .i64 0, .int .i64 0, .int .i64 0, .int .i64 0, .int .i64 0, .int .i64 0], .int .i64 5]) (by simp [results, Tryz.results85, go_sem, B6.cell]) rfl ⟨by rw [HR.out, if_pos (Or.inr (Or.inr H1.out))]; try rfl, hbv⟩
      have HN : Hid (¬ (q.k ≠ 0 ∨ q.o < 0 ∨ cc < q.o * (q.d + q.p))) := Lib.hid (by have := H0.out; rintro (h | h | h) <;> omega)
      rw [if_neg HN.out] at HR
      clear HN
      by_cases h4 : q.d + q.p = 0
      · have t4 : (q.d + q.p == 0) = true := by simpa using h4
        rw [if_pos h4] at HR
        clear h4
        go_wp2_with fail
        refine abs_post (F := fun W => Blk W (w.heap.size + 1) #[.int .i64 2, .int .i64 s, .int .i64 (t + 1), .int .i64 q.d, .int .i64 q.p, .int .i64 7, .int .i64 q.o, .int .i64 (n + q.o)] ∧ Below w.heap.size w W) ⟨?_, ?_⟩ ?_
        · exact ((((((((HO.out.set 0 (by simp) _).set 1 (by simp) _).set 2 (by simp) _).set 3 (by simp) _).set 4 (by simp) _).set 5 (by simp) _).set 6 (by simp) _).set 7 (by simp) _).alloc _
        · repeat (with_reducible first | exact HB.out | refine bel_drewN ?_ _ | refine bel_drew ?_ | refine Below.alloc ?_ (by have := HB.out.size; simp [World.setCell]; omega) _ | refine Below.setCell ?_ (by first | (simp; done) | (simp; omega)) _)
        rintro V ⟨B6, hbv⟩
        exact bodyPost_ret (v := .tuple #[.agg #[.int .i64 2, .int .i64 s, .int .i64 (t + 1), .int .i64 q.d, .int .i64 q.p, .int .i64 7, .int .i64 q.o, .int .i64 (n + q.o)], .int .i64 0]) (by simp [results, Tryz.results85, go_sem, B6.cell]) rfl ⟨by rw [HR.out]; try rfl, hbv⟩
      · have t4 : (q.d + q.p == 0) = false := by simpa using h4
        rw [if_neg h4] at HR
        clear h4
        go_wp2_with fail
        refine abs_post (F := fun W => Blk W (w.heap.size + 1) #[.int .i64 2, .int .i64 s, .int .i64 (t + 1), .int .i64 q.d, .int .i64 q.p, .int .i64 7, .int .i64 q.o, .int .i64 n] ∧ Below w.heap.size w W) ⟨?_, ?_⟩ ?_
        · exact ((((((((HO.out.set 0 (by simp) _).set 1 (by simp) _).set 2 (by simp) _).set 3 (by simp) _).set 4 (by simp) _).set 5 (by simp) _).set 6 (by simp) _).set 7 (by simp) _).alloc _
        · repeat (with_reducible first | exact HB.out | refine bel_drewN ?_ _ | refine bel_drew ?_ | refine Below.alloc ?_ (by have := HB.out.size; simp [World.setCell]; omega) _ | refine Below.setCell ?_ (by first | (simp; done) | (simp; omega)) _)
        rintro V ⟨B6, hbv⟩
        exact bodyPost_ret (v := .tuple #[.agg #[.int .i64 2, .int .i64 s, .int .i64 (t + 1), .int .i64 q.d, .int .i64 q.p, .int .i64 7, .int .i64 q.o, .int .i64 n], .int .i64 0]) (by simp [results, Tryz.results85, go_sem, B6.cell]) rfl ⟨by rw [HR.out]; try rfl, hbv⟩
    · have t5 : (q.k != 0) = true := by simpa using h1
      have H1 := Lib.hid h1
      clear h1
      go_wp2_with fail
      refine abs_post (F := fun W => Blk W (w.heap.size + 1) #[.int .i64 0, .int .i64 0, .int .i64 0, .int .i64 0, .int .i64 0, .int .i64 0, .int .i64 0, .int .i64 0] ∧ Below w.heap.size w W) ⟨?_, ?_⟩ ?_
      · exact ((((((((HO.out.set 0 (by simp) _).set 1 (by simp) _).set 2 (by simp) _).set 3 (by simp) _).set 4 (by simp) _).set 5 (by simp) _).set 6 (by simp) _).set 7 (by simp) _).alloc _
      · repeat (with_reducible first | exact HB.out | refine bel_drewN ?_ _ | refine bel_drew ?_ | refine Below.alloc ?_ (by have := HB.out.size; simp [World.setCell]; omega) _ | refine Below.setCell ?_ (by first | (simp; done) | (simp; omega)) _)
      rintro V ⟨B6, hbv⟩
      exact bodyPost_ret (v := .tuple #[.agg #[.int .i64 0, .int .i64 0, .int .i64 0, .int .i64 0, .int .i64 0, .int .i64 0, .int .i64 0, .int .i64 0], .int .i64 5]) (by simp [results, Tryz.results85, go_sem, B6.cell]) rfl ⟨by rw [HR.out, if_pos (Or.inl H1.out)]; try rfl, hbv⟩

end Go.Proofs.YtnmanhediiooaaaGreatDoor

/- What the function literals of package resolve do (by the code at 5978601). -/
namespace Go.Proofs.YtnmanhediiooaaaGreatDoor
open Go.ChangeShapes Go.WideShapes Go.ChangeAt Go.RowKit
set_option linter.unusedVariables false
set_option linter.unusedSimpArgs false
set_option maxRecDepth 100000

set_option maxRecDepth 100000 in
set_option maxHeartbeats 1000000 in
theorem case0_any (A : Option Addr) (c : Nat) (ls : List (List Int)) (k o d p el cc pa pg lo s t : Int) (db : Bool) (w : World) (hT : TabOK w) (d0 : 0 ≤ d) (d1 : d ≤ 65535) (p0 : 0 ≤ p) (p1 : p ≤ 65535) (hs : Sg w A ls) (hw : Wd2 ls) (hm : ls.length ≤ 140737488355328) (hf : ∀ j, (seg ls j).length ≤ 140737488355328) (hs0 : -9223372036854775808 ≤ s) (hs1 : s ≤ 9223372036854775807) (ht0 : -9223372036854775808 ≤ t) (ht1 : t ≤ 9223372036854775807) :
    Calls Tryz.prog 82 #[.agg #[.slice A ls.length c, .int .i64 k, .int .i64 o, .int .i64 d, .int .i64 p, .int .i64 el, .int .i64 cc, .bool db, .int .i64 pa, .int .u32 pg, .int .u32 lo, .int .i64 s, .int .i64 t]] w fun e w' => e = .returned (.tuple #[.agg #[.int .i64 (strR ls d p s t).1.k, .int .i64 (strR ls d p s t).1.sg, .int .i64 (strR ls d p s t).1.at', .int .i64 (strR ls d p s t).1.d, .int .i64 (strR ls d p s t).1.p, .int .i64 (strR ls d p s t).1.el, .int .i64 (strR ls d p s t).1.n, .int .i64 (strR ls d p s t).1.cost], .int .i64 (strR ls d p s t).2]) ∧ Below w.heap.size w w' := by
  have Hs := Lib.hid hs
  have HT := Lib.hid hT
  have HH := Lib.hid (fun w2 (hT2 : TabOK w2) hs2 => structure_any A c ls k o d p el cc pa pg lo s t db w2 d0 d1 p0 p1 hs2 hm hs0 hs1 ht0 ht1)
  clear hs hT hw hf
  generalize strR ls d p s t = r at *
  go_enter Tryz.func82, Tryz.ntmps82
  go_wp2_with fail
  refine (HH.out _ ((HT.out.alloc _).alloc _) ((Hs.out.alloc _).alloc _)).mono ?_
  rintro e w1 ⟨rfl, hb⟩
  have BO := (Blk.fresh (w.alloc (.cells #[.slice A ls.length c, .int .i64 k, .int .i64 o, .int .i64 d, .int .i64 p, .int .i64 el, .int .i64 cc, .bool db, .int .i64 pa, .int .u32 pg, .int .u32 lo, .int .i64 s, .int .i64 t] 122)) #[.int .i64 0, .int .i64 0, .int .i64 0, .int .i64 0, .int .i64 0, .int .i64 0, .int .i64 0, .int .i64 0] 74).below hb
  rw [World.size_alloc] at BO
  have HB : Hid (Below w.heap.size w w1) := Lib.hid ((((Below.refl _ _).alloc (Nat.le_refl _) _).alloc (by simp) _).trans (hb.mono (by simp; omega)))
  clear hb HH
  have HO := Lib.hid BO
  obtain ⟨xo, yo, zo⟩ := BO
  go_wp2_with fail
  refine abs_post (F := fun W => Blk W (w.heap.size + 1) #[.int .i64 r.1.k, .int .i64 r.1.sg, .int .i64 r.1.at', .int .i64 r.1.d, .int .i64 r.1.p, .int .i64 r.1.el, .int .i64 r.1.n, .int .i64 r.1.cost] ∧ Below w.heap.size w W) ⟨?_, ?_⟩ ?_
  · exact ((((((((HO.out.set 0 (by simp) _).set 1 (by simp) _).set 2 (by simp) _).set 3 (by simp) _).set 4 (by simp) _).set 5 (by simp) _).set 6 (by simp) _).set 7 (by simp) _)
  · repeat (with_reducible first | exact HB.out | refine bel_drewN ?_ _ | refine bel_drew ?_ | refine Below.alloc ?_ (by have := HB.out.size; simp [World.setCell]; omega) _ | refine Below.setCell ?_ (by first | (simp; done) | (simp; omega)) _)
  rintro V ⟨B6, hbv⟩
  exact bodyPost_ret (v := .tuple #[.agg #[.int .i64 r.1.k, .int .i64 r.1.sg, .int .i64 r.1.at', .int .i64 r.1.d, .int .i64 r.1.p, .int .i64 r.1.el, .int .i64 r.1.n, .int .i64 r.1.cost], .int .i64 r.2]) (by simp [results, Tryz.results82, go_sem, B6.cell]) rfl ⟨rfl, hbv⟩

set_option maxRecDepth 100000 in
set_option maxHeartbeats 1000000 in
theorem case1c_any (A : Option Addr) (c : Nat) (ls : List (List Int)) (k o d p el cc pa pg lo s t : Int) (db : Bool) (w : World) (hT : TabOK w) (h7 : el = 7) (c0 : 0 ≤ cc) (c1 : cc ≤ 536870911) (hs : Sg w A ls) (hw : Wd2 ls) (hm : ls.length ≤ 140737488355328) (hf : ∀ j, (seg ls j).length ≤ 140737488355328) (hs0 : -9223372036854775808 ≤ s) (hs1 : s ≤ 9223372036854775807) (ht0 : -9223372036854775808 ≤ t) (ht1 : t ≤ 9223372036854775807) :
    Calls Tryz.prog 84 #[.agg #[.slice A ls.length c, .int .i64 k, .int .i64 o, .int .i64 d, .int .i64 p, .int .i64 el, .int .i64 cc, .bool db, .int .i64 pa, .int .u32 pg, .int .u32 lo, .int .i64 s, .int .i64 t]] w fun e w' => e = .returned (.tuple #[.agg #[.int .i64 (cmpR ls cc s t).1.k, .int .i64 (cmpR ls cc s t).1.sg, .int .i64 (cmpR ls cc s t).1.at', .int .i64 (cmpR ls cc s t).1.d, .int .i64 (cmpR ls cc s t).1.p, .int .i64 (cmpR ls cc s t).1.el, .int .i64 (cmpR ls cc s t).1.n, .int .i64 (cmpR ls cc s t).1.cost], .int .i64 (cmpR ls cc s t).2]) ∧ Below w.heap.size w w' := by
  have Hs := Lib.hid hs
  have HT := Lib.hid hT
  have HH := Lib.hid (fun w2 (hT2 : TabOK w2) hs2 => composite_any A c ls k o d p el cc pa pg lo s t db w2 hT2 c0 c1 hs2 hw hm hf hs0 hs1 ht0 ht1)
  clear hs hT hw hf
  have t7 : (el == 7) = true := by simpa using h7
  clear h7
  generalize cmpR ls cc s t = r at *
  go_enter Tryz.func84, Tryz.ntmps84
  go_wp2_with fail
  refine (HH.out _ ((HT.out.alloc _).alloc _) ((Hs.out.alloc _).alloc _)).mono ?_
  rintro e w1 ⟨rfl, hb⟩
  have BO := (Blk.fresh (w.alloc (.cells #[.slice A ls.length c, .int .i64 k, .int .i64 o, .int .i64 d, .int .i64 p, .int .i64 el, .int .i64 cc, .bool db, .int .i64 pa, .int .u32 pg, .int .u32 lo, .int .i64 s, .int .i64 t] 122)) #[.int .i64 0, .int .i64 0, .int .i64 0, .int .i64 0, .int .i64 0, .int .i64 0, .int .i64 0, .int .i64 0] 74).below hb
  rw [World.size_alloc] at BO
  have HB : Hid (Below w.heap.size w w1) := Lib.hid ((((Below.refl _ _).alloc (Nat.le_refl _) _).alloc (by simp) _).trans (hb.mono (by simp; omega)))
  clear hb HH
  have HO := Lib.hid BO
  obtain ⟨xo, yo, zo⟩ := BO
  go_wp2_with fail
  refine abs_post (F := fun W => Blk W (w.heap.size + 1) #[.int .i64 r.1.k, .int .i64 r.1.sg, .int .i64 r.1.at', .int .i64 r.1.d, .int .i64 r.1.p, .int .i64 r.1.el, .int .i64 r.1.n, .int .i64 r.1.cost] ∧ Below w.heap.size w W) ⟨?_, ?_⟩ ?_
  · exact ((((((((HO.out.set 0 (by simp) _).set 1 (by simp) _).set 2 (by simp) _).set 3 (by simp) _).set 4 (by simp) _).set 5 (by simp) _).set 6 (by simp) _).set 7 (by simp) _)
  · repeat (with_reducible first | exact HB.out | refine bel_drewN ?_ _ | refine bel_drew ?_ | refine Below.alloc ?_ (by have := HB.out.size; simp [World.setCell]; omega) _ | refine Below.setCell ?_ (by first | (simp; done) | (simp; omega)) _)
  rintro V ⟨B6, hbv⟩
  exact bodyPost_ret (v := .tuple #[.agg #[.int .i64 r.1.k, .int .i64 r.1.sg, .int .i64 r.1.at', .int .i64 r.1.d, .int .i64 r.1.p, .int .i64 r.1.el, .int .i64 r.1.n, .int .i64 r.1.cost], .int .i64 r.2]) (by simp [results, Tryz.results84, go_sem, B6.cell]) rfl ⟨rfl, hbv⟩

set_option maxRecDepth 100000 in
set_option maxHeartbeats 1000000 in
theorem case1l_any (A : Option Addr) (c : Nat) (ls : List (List Int)) (k o d p el cc pa pg lo s t : Int) (db : Bool) (w : World) (hT : TabOK w) (h7 : ¬ el = 7) (e0 : 0 ≤ el) (e7 : el ≤ 7) (c0 : 0 ≤ cc) (c1 : cc ≤ 536870911) (hs : Sg w A ls) (hw : Wd2 ls) (hm : ls.length ≤ 140737488355328) (hf : ∀ j, (seg ls j).length ≤ 140737488355328) (hs0 : -9223372036854775808 ≤ s) (hs1 : s ≤ 9223372036854775807) (ht0 : -9223372036854775808 ≤ t) (ht1 : t ≤ 9223372036854775807) :
    Calls Tryz.prog 84 #[.agg #[.slice A ls.length c, .int .i64 k, .int .i64 o, .int .i64 d, .int .i64 p, .int .i64 el, .int .i64 cc, .bool db, .int .i64 pa, .int .u32 pg, .int .u32 lo, .int .i64 s, .int .i64 t]] w fun e w' => e = .returned (.tuple #[.agg #[.int .i64 (lstR ls el cc s t).1.k, .int .i64 (lstR ls el cc s t).1.sg, .int .i64 (lstR ls el cc s t).1.at', .int .i64 (lstR ls el cc s t).1.d, .int .i64 (lstR ls el cc s t).1.p, .int .i64 (lstR ls el cc s t).1.el, .int .i64 (lstR ls el cc s t).1.n, .int .i64 (lstR ls el cc s t).1.cost], .int .i64 (lstR ls el cc s t).2]) ∧ Below w.heap.size w w' := by
  have Hs := Lib.hid hs
  have HT := Lib.hid hT
  have HH := Lib.hid (fun w2 (hT2 : TabOK w2) hs2 => list_any A c ls k o d p el cc pa pg lo s t db w2 hT2 e0 e7 c0 c1 hs2 hm hs0 hs1 ht0 ht1)
  clear hs hT hw hf
  have t7 : (el == 7) = false := by simpa using h7
  clear h7
  generalize lstR ls el cc s t = r at *
  go_enter Tryz.func84, Tryz.ntmps84
  go_wp2_with fail
  refine (HH.out _ ((HT.out.alloc _).alloc _) ((Hs.out.alloc _).alloc _)).mono ?_
  rintro e w1 ⟨rfl, hb⟩
  have BO := (Blk.fresh (w.alloc (.cells #[.slice A ls.length c, .int .i64 k, .int .i64 o, .int .i64 d, .int .i64 p, .int .i64 el, .int .i64 cc, .bool db, .int .i64 pa, .int .u32 pg, .int .u32 lo, .int .i64 s, .int .i64 t] 122)) #[.int .i64 0, .int .i64 0, .int .i64 0, .int .i64 0, .int .i64 0, .int .i64 0, .int .i64 0, .int .i64 0] 74).below hb
  rw [World.size_alloc] at BO
  have HB : Hid (Below w.heap.size w w1) := Lib.hid ((((Below.refl _ _).alloc (Nat.le_refl _) _).alloc (by simp) _).trans (hb.mono (by simp; omega)))
  clear hb HH
  have HO := Lib.hid BO
  obtain ⟨xo, yo, zo⟩ := BO
  go_wp2_with fail
  refine abs_post (F := fun W => Blk W (w.heap.size + 1) #[.int .i64 r.1.k, .int .i64 r.1.sg, .int .i64 r.1.at', .int .i64 r.1.d, .int .i64 r.1.p, .int .i64 r.1.el, .int .i64 r.1.n, .int .i64 r.1.cost] ∧ Below w.heap.size w W) ⟨?_, ?_⟩ ?_
  · exact ((((((((HO.out.set 0 (by simp) _).set 1 (by simp) _).set 2 (by simp) _).set 3 (by simp) _).set 4 (by simp) _).set 5 (by simp) _).set 6 (by simp) _).set 7 (by simp) _)
  · repeat (with_reducible first | exact HB.out | refine bel_drewN ?_ _ | refine bel_drew ?_ | refine Below.alloc ?_ (by have := HB.out.size; simp [World.setCell]; omega) _ | refine Below.setCell ?_ (by first | (simp; done) | (simp; omega)) _)
  rintro V ⟨B6, hbv⟩
  exact bodyPost_ret (v := .tuple #[.agg #[.int .i64 r.1.k, .int .i64 r.1.sg, .int .i64 r.1.at', .int .i64 r.1.d, .int .i64 r.1.p, .int .i64 r.1.el, .int .i64 r.1.n, .int .i64 r.1.cost], .int .i64 r.2]) (by simp [results, Tryz.results84, go_sem, B6.cell]) rfl ⟨rfl, hbv⟩

def othR (lo : Int) : Ob × Int := (ob0, if lo = 0 then 6 else 4)
set_option maxRecDepth 100000 in
set_option maxHeartbeats 1000000 in
theorem case3_any (A : Option Addr) (c : Nat) (ls : List (List Int)) (k o d p el cc pa pg lo s t : Int) (db : Bool) (w : World) (hk : k = 3) :
    Calls Tryz.prog 87 #[.agg #[.slice A ls.length c, .int .i64 k, .int .i64 o, .int .i64 d, .int .i64 p, .int .i64 el, .int .i64 cc, .bool db, .int .i64 pa, .int .u32 pg, .int .u32 lo, .int .i64 s, .int .i64 t]] w fun e w' => e = .returned (.tuple #[.agg #[.int .i64 (othR lo).1.k, .int .i64 (othR lo).1.sg, .int .i64 (othR lo).1.at', .int .i64 (othR lo).1.d, .int .i64 (othR lo).1.p, .int .i64 (othR lo).1.el, .int .i64 (othR lo).1.n, .int .i64 (othR lo).1.cost], .int .i64 (othR lo).2]) ∧ Below w.heap.size w w' := by
  by_cases hl : lo = 0
  · have HR : Hid (othR lo = (ob0, 6)) := Lib.hid (by unfold othR; rw [if_pos hl])
    have tl : (k == 3 && lo == 0) = true := by simp [hk, hl]
    clear hl hk
    go_enter Tryz.func87, Tryz.ntmps87
    go_wp2_with fail
    refine (IsCapability_any _ _ _ _ _ _ _ _ _ _ _).mono ?_
    rintro e w1 ⟨rfl, hb⟩
    rw [tl]
    clear tl
    have BO := (Blk.fresh (w.alloc (.cells #[.slice A ls.length c, .int .i64 k, .int .i64 o, .int .i64 d, .int .i64 p, .int .i64 el, .int .i64 cc, .bool db, .int .i64 pa, .int .u32 pg, .int .u32 lo, .int .i64 s, .int .i64 t] 122)) #[.int .i64 0, .int .i64 0, .int .i64 0, .int .i64 0, .int .i64 0, .int .i64 0, .int .i64 0, .int .i64 0] 74).below hb
    rw [World.size_alloc] at BO
    have HB : Hid (Below w.heap.size w w1) := Lib.hid ((((Below.refl _ _).alloc (Nat.le_refl _) _).alloc (by simp) _).trans (hb.mono (by simp; omega)))
    clear hb
    have HO := Lib.hid BO
    obtain ⟨xo, yo, zo⟩ := BO
    go_wp2_with fail
    refine abs_post (F := fun W => Blk W (w.heap.size + 1) #[.int .i64 0, .int .i64 0, .int .i64 0, .int .i64 0, .int .i64 0, .int .i64 0, .int .i64 0, .int .i64 0] ∧ Below w.heap.size w W) ⟨?_, ?_⟩ ?_
    · exact ((((((((HO.out.set 0 (by simp) _).set 1 (by simp) _).set 2 (by simp) _).set 3 (by simp) _).set 4 (by simp) _).set 5 (by simp) _).set 6 (by simp) _).set 7 (by simp) _)
    · repeat (with_reducible first | exact HB.out | refine bel_drewN ?_ _ | refine bel_drew ?_ | refine Below.alloc ?_ (by have := HB.out.size; simp [World.setCell]; omega) _ | refine Below.setCell ?_ (by first | (simp; done) | (simp; omega)) _)
    rintro V ⟨B6, hbv⟩
    exact bodyPost_ret (v := .tuple #[.agg #[.int .i64 0, .int .i64 0, .int .i64 0, .int .i64 0, .int .i64 0, .int .i64 0, .int .i64 0, .int .i64 0], .int .i64 6]) (by simp [results, Tryz.results87, go_sem, B6.cell]) rfl ⟨by rw [HR.out]; try rfl, hbv⟩
  · have HR : Hid (othR lo = (ob0, 4)) := Lib.hid (by unfold othR; rw [if_neg hl])
    have tl : (k == 3 && lo == 0) = false := by simp [hk, hl]
    clear hl hk
    go_enter Tryz.func87, Tryz.ntmps87
    go_wp2_with fail
    refine (IsCapability_any _ _ _ _ _ _ _ _ _ _ _).mono ?_
    rintro e w1 ⟨rfl, hb⟩
    rw [tl]
    clear tl
    have BO := (Blk.fresh (w.alloc (.cells #[.slice A ls.length c, .int .i64 k, .int .i64 o, .int .i64 d, .int .i64 p, .int .i64 el, .int .i64 cc, .bool db, .int .i64 pa, .int .u32 pg, .int .u32 lo, .int .i64 s, .int .i64 t] 122)) #[.int .i64 0, .int .i64 0, .int .i64 0, .int .i64 0, .int .i64 0, .int .i64 0, .int .i64 0, .int .i64 0] 74).below hb
    rw [World.size_alloc] at BO
    have HB : Hid (Below w.heap.size w w1) := Lib.hid ((((Below.refl _ _).alloc (Nat.le_refl _) _).alloc (by simp) _).trans (hb.mono (by simp; omega)))
    clear hb
    have HO := Lib.hid BO
    obtain ⟨xo, yo, zo⟩ := BO
    go_wp2_with fail
    refine abs_post (F := fun W => Blk W (w.heap.size + 1) #[.int .i64 0, .int .i64 0, .int .i64 0, .int .i64 0, .int .i64 0, .int .i64 0, .int .i64 0, .int .i64 0] ∧ Below w.heap.size w W) ⟨?_, ?_⟩ ?_
    · exact ((((((((HO.out.set 0 (by simp) _).set 1 (by simp) _).set 2 (by simp) _).set 3 (by simp) _).set 4 (by simp) _).set 5 (by simp) _).set 6 (by simp) _).set 7 (by simp) _)
    · repeat (with_reducible first | exact HB.out | refine bel_drewN ?_ _ | refine bel_drew ?_ | refine Below.alloc ?_ (by have := HB.out.size; simp [World.setCell]; omega) _ | refine Below.setCell ?_ (by first | (simp; done) | (simp; omega)) _)
    rintro V ⟨B6, hbv⟩
    exact bodyPost_ret (v := .tuple #[.agg #[.int .i64 0, .int .i64 0, .int .i64 0, .int .i64 0, .int .i64 0, .int .i64 0, .int .i64 0, .int .i64 0], .int .i64 4]) (by simp [results, Tryz.results87, go_sem, B6.cell]) rfl ⟨by rw [HR.out]; try rfl, hbv⟩

/-- the array of function literals -/
def casesV : Value := .agg #[.func (.func 82) #[] #[], .func (.func 84) #[] #[], .nilFunc, .func (.func 87) #[] #[]]
theorem cases_any (w : World) : Calls Tryz.prog 70 #[] w fun e w' => e = .returned casesV ∧ Below w.heap.size w w' := by
  go_enter Tryz.func70, Tryz.ntmps70
  go_wp2
  refine bodyPost_ret (v := casesV) (by simp [results, Tryz.results70, go_sem, casesV]) rfl ⟨rfl, ?_⟩
  repeat (with_reducible first | exact Below.refl _ _ | refine Below.alloc ?_ (by first | exact Nat.le_refl _ | (simp [World.setCell]; omega)) _ | refine Below.setCell ?_ (by first | (simp; done) | (simp; omega)) _)

end Go.Proofs.YtnmanhediiooaaaGreatDoor

/- What the functions of package resolve do, each by a contract (by the code at 5978601; the laws rest on RObject_any, RElement_any and RPointers_any alone). -/
namespace Go.Proofs.YtnmanhediiooaaaGreatDoor
open Go.ChangeShapes Go.WideShapes Go.ChangeAt Go.RowKit
set_option linter.unusedVariables false
set_option linter.unusedSimpArgs false
set_option maxRecDepth 100000

theorem folR_cases {ls : List (List Int)} (hw : Wd2 ls) (s a : Int) :
    (((followF ls s a).e = 2 ∨ (followF ls s a).e = 3) ∧ (followF ls s a).w = 0 ∧ (followF ls s a).s = 0 ∧ (followF ls s a).b = 0) ∨
    ((followF ls s a).e = 0 ∧ (followF ls s a).w % 4 ≠ 2 ∧ hasB ls s a = true ∧ (wordV ls s a % 4 = 2 ∨ ((followF ls s a).w = wordV ls s a ∧ (followF ls s a).s = s ∧ (followF ls s a).b = a + 1))) := by
  unfold followF
  by_cases h1 : hasB ls s a = false
  · rw [if_pos h1]; exact .inl ⟨.inl rfl, rfl, rfl, rfl⟩
  rw [if_neg h1]
  have h1' : hasB ls s a = true := by simpa using h1
  by_cases h2 : (wordV ls s a % 4 == 2) = false
  · rw [if_pos h2]
    refine .inr ⟨rfl, ?_, h1', .inr ⟨rfl, rfl, rfl⟩⟩
    simpa using h2
  rw [if_neg h2]
  have h2' : wordV ls s a % 4 = 2 := by simpa using h2
  by_cases h3 : hasB ls (wordV ls s a / 4294967296) (wordV ls s a % 4294967296 / 8) = false
  · rw [if_pos h3]; exact .inl ⟨.inl rfl, rfl, rfl, rfl⟩
  rw [if_neg h3]
  by_cases h4 : wordV ls s a / 4 % 2 = 0
  · rw [if_pos h4]
    by_cases h5 : (wordV ls (wordV ls s a / 4294967296) (wordV ls s a % 4294967296 / 8) % 4 == 2) = true
    · rw [if_pos h5]; exact .inl ⟨.inr rfl, rfl, rfl, rfl⟩
    · rw [if_neg h5]
      refine .inr ⟨rfl, ?_, h1', .inl h2'⟩
      simpa using h5
  rw [if_neg h4]
  by_cases h6 : hasB ls (wordV ls s a / 4294967296) (wordV ls s a % 4294967296 / 8 + 1) = false
  · rw [if_pos h6]; exact .inl ⟨.inl rfl, rfl, rfl, rfl⟩
  rw [if_neg h6]
  split
  · exact .inl ⟨.inr rfl, rfl, rfl, rfl⟩
  · rename_i h7
    refine .inr ⟨rfl, ?_, h1', .inl h2'⟩
    have b2 := (wordV_bd hw (wordV ls s a / 4294967296) (wordV ls s a % 4294967296 / 8 + 1)).1
    have h8 : ¬ 1 < (decP (wordV ls (wordV ls s a / 4294967296) (wordV ls s a % 4294967296 / 8 + 1))).k := fun h => h7 (.inr (.inr (.inl h)))
    rw [decP_k _ b2] at h8
    show wordV ls (wordV ls s a / 4294967296) (wordV ls s a % 4294967296 / 8 + 1) % 4 ≠ 2
    omega

theorem abs_codeR {P : Program} {C : Code} {Q : Exit → Act → World → Prop} {a : Act} {V : World} (F : World → Prop) (hF : F V) (h : ∀ W, F W → C.wp P Q a W) : C.wp P Q a V := h V hF

/-- the entry of the array of function literals -/
def CasesAt (k : Int) (f : FuncId) : Prop := ∀ w, (Instr.index 119 casesV (.int .i64 k)).run Tryz.prog w = .ok (.func (.func f) #[] #[]) w
def Entered (f : FuncId) : Prop := ∀ args w, (callFunc f args).run Tryz.prog w = .ok (.enter f args) w
theorem enter0 : Entered 82 := fun args w => by rfl
theorem enter1 : Entered 84 := fun args w => by rfl
theorem enter3 : Entered 87 := fun args w => by rfl
theorem cases0 : CasesAt 0 82 := fun w => by kernel_rfl
theorem cases1 : CasesAt 1 84 := fun w => by kernel_rfl
theorem cases3 : CasesAt 3 87 := fun w => by kernel_rfl
attribute [local irreducible] casesV
attribute [local simp] AllK KnowsV look Is

set_option maxRecDepth 100000 in
set_option maxHeartbeats 4000000 in
theorem Object_tail (A : Option Addr) (c : Nat) (ls : List (List Int)) (s a : Int) (fw fs fb : Int) (p : Ptr) (fid : FuncId) (r : Ob × Int) (w : World) (hT : TabOK w) (hs : Sg w A ls)
    (HFOL : Hid (∀ w2, Sg w2 A ls → Calls Tryz.prog 51 #[.slice A ls.length c, .int .i64 s, .int .i64 a] w2 fun e w' => e = .returned (.tuple #[.int .u64 fw, .int .i64 fs, .int .i64 fb, .int .i64 0]) ∧ Below w2.heap.size w2 w'))
    (HDEC : Hid (∀ w2, Calls Tryz.prog 69 #[.int .u64 fw] w2 fun e w' => e = .returned (.agg #[.int .i64 p.k, .int .i64 p.o, .int .i64 p.d, .int .i64 p.p, .int .i64 p.el, .int .i64 p.c, .bool p.db, .int .i64 p.pa, .int .u32 p.sg, .int .u32 p.lo]) ∧ Below w2.heap.size w2 w'))
    (hw0 : (fw == 0) = false) (hb0 : 0 ≤ fb) (hb1 : fb ≤ 140737488355329) (ho0 : -536870912 ≤ p.o) (ho1 : p.o ≤ 536870911) (hix : CasesAt p.k fid) (hen : Entered fid)
    (HC : Hid (∀ w2, TabOK w2 → Sg w2 A ls → Calls Tryz.prog fid #[.agg #[.slice A ls.length c, .int .i64 p.k, .int .i64 p.o, .int .i64 p.d, .int .i64 p.p, .int .i64 p.el, .int .i64 p.c, .bool p.db, .int .i64 p.pa, .int .u32 p.sg, .int .u32 p.lo, .int .i64 fs, .int .i64 (fb + p.o)]] w2 fun e w' => e = .returned (.tuple #[.agg #[.int .i64 r.1.k, .int .i64 r.1.sg, .int .i64 r.1.at', .int .i64 r.1.d, .int .i64 r.1.p, .int .i64 r.1.el, .int .i64 r.1.n, .int .i64 r.1.cost], .int .i64 r.2]) ∧ Below w2.heap.size w2 w')) :
    Calls Tryz.prog 55 #[.slice A ls.length c, .int .i64 s, .int .i64 a] w fun e w' => e = .returned (.tuple #[.agg #[.int .i64 r.1.k, .int .i64 r.1.sg, .int .i64 r.1.at', .int .i64 r.1.d, .int .i64 r.1.p, .int .i64 r.1.el, .int .i64 r.1.n, .int .i64 r.1.cost], .int .i64 r.2]) ∧ Below w.heap.size w w' := by
  have Hs := Lib.hid hs
  have HT := Lib.hid hT
  have HIX := Lib.hid hix
  have HEN := Lib.hid hen
  clear hs hT hix hen
  go_enter Tryz.func55, Tryz.ntmps55
  go_wp2_with fail
  refine (HFOL.out _ (Hs.out.alloc _)).mono ?_
  rintro e w1 ⟨rfl, hb⟩
  have BO := (Blk.fresh w #[.int .i64 0, .int .i64 0, .int .i64 0, .int .i64 0, .int .i64 0, .int .i64 0, .int .i64 0, .int .i64 0] 74).below hb
  have HB : Hid (Below w.heap.size w w1) := Lib.hid (((Below.refl _ _).alloc (Nat.le_refl _) _).trans (hb.mono (by simp)))
  clear hb HFOL
  have HO := Lib.hid BO
  obtain ⟨xo, yo, zo⟩ := BO
  go_wp2_with fail
  refine (IsNull_any _ _).mono ?_
  rintro e w' ⟨rfl, rfl⟩
  go_wp2_with fail
  refine (HDEC.out _).mono ?_
  rintro e w2 ⟨rfl, hb⟩
  have BO := HO.out.below hb
  have hsz := HB.out.size
  have HB : Hid (Below w.heap.size w w2) := Lib.hid (HB.out.trans (hb.mono hsz))
  clear hb hsz HDEC HO xo yo zo
  have HO := Lib.hid BO
  obtain ⟨xo, yo, zo⟩ := BO
  go_wp2_with fail
  refine abs_codeR (F := fun W => Blk W w.heap.size #[.int .i64 0, .int .i64 0, .int .i64 0, .int .i64 0, .int .i64 0, .int .i64 0, .int .i64 0, .int .i64 0] ∧ Blk W w2.heap.size #[.int .i64 p.k, .int .i64 p.o, .int .i64 p.d, .int .i64 p.p, .int .i64 p.el, .int .i64 p.c, .bool p.db, .int .i64 p.pa, .int .u32 p.sg, .int .u32 p.lo] ∧ Below w.heap.size w W) ⟨?_, ?_, ?_⟩ ?_
  · exact HO.out.alloc _
  · exact Blk.fresh _ _ _
  · exact HB.out.alloc HB.out.size _
  rintro W ⟨h6, h12, hb⟩
  generalize w2.heap.size = b12 at *
  clear HO HB xo yo zo
  rename_i KK hKK
  have H6 := Lib.hid h6
  have H12 := Lib.hid h12
  have HB := Lib.hid hb
  obtain ⟨x6, y6, z6⟩ := h6
  obtain ⟨x12, y12, z12⟩ := h12
  clear hb
  refine wp_region_t15_2 [] (by kernel_rfl) (by kernel_rfl) ?_

  refine t_call (T := Is casesV) (Is casesV) 70 [] (by kernel_rfl) rfl (by kernel_rfl) trivial (stable_is _) (free_is _) (fun _ _ h => h) (fun ρ wc hbc hcn hq => ?_) ?_
  · obtain ⟨hcn, hfn⟩ := hcn
    refine ⟨_, by go_simp; rfl, ?_⟩
    refine (cases_any _).mono ?_
    rintro e w' ⟨rfl, hbq⟩
    exact ⟨_, rfl, rfl, hbq⟩
  refine t_val (u := ?_) [12] (by kernel_rfl) rfl (by kernel_rfl) trivial (fun ρ wc hbc hcn hq => ?_) ?_; rotate_left
  · obtain ⟨hcn, hfn⟩ := hcn
    simp at hq
    go_simp
    rfl
  refine t_val (u := .int .i64 p.k) [32] (by kernel_rfl) rfl (by kernel_rfl) trivial (fun ρ wc hbc hcn hq => ?_) ?_
  · obtain ⟨hcn, hfn⟩ := hcn
    simp at hq
    obtain ⟨hcc, -⟩ := bcell hbc
    simp at hcc
    go_simp
  refine t_val (u := .func (.func fid) #[] #[]) [31, 33] (by kernel_rfl) rfl (by kernel_rfl) trivial (fun ρ wc hbc hcn hq => ?_) ?_
  · obtain ⟨hcn, hfn⟩ := hcn
    simp at hq
    have hix := HIX.out wc
    go_simp
  refine t_val (u := ?_) [0] (by kernel_rfl) rfl (by kernel_rfl) trivial (fun ρ wc hbc hcn hq => ?_) ?_; rotate_left
  · obtain ⟨hcn, hfn⟩ := hcn
    simp at hq
    go_simp
    rfl
  refine t_val (u := ?_) [12] (by kernel_rfl) rfl (by kernel_rfl) trivial (fun ρ wc hbc hcn hq => ?_) ?_; rotate_left
  · obtain ⟨hcn, hfn⟩ := hcn
    simp at hq
    obtain ⟨hcc, -⟩ := bcell hbc
    simp at hcc
    go_simp
    rfl
  refine t_val (u := ?_) [9] (by kernel_rfl) rfl (by kernel_rfl) trivial (fun ρ wc hbc hcn hq => ?_) ?_; rotate_left
  · obtain ⟨hcn, hfn⟩ := hcn
    simp at hq
    go_simp
    rfl
  refine t_val (u := ?_) [10] (by kernel_rfl) rfl (by kernel_rfl) trivial (fun ρ wc hbc hcn hq => ?_) ?_; rotate_left
  · obtain ⟨hcn, hfn⟩ := hcn
    simp at hq
    go_simp
    rfl
  refine t_val (u := ?_) [12] (by kernel_rfl) rfl (by kernel_rfl) trivial (fun ρ wc hbc hcn hq => ?_) ?_; rotate_left
  · obtain ⟨hcn, hfn⟩ := hcn
    simp at hq
    go_simp
    rfl
  refine t_val (u := .int .i64 p.o) [39] (by kernel_rfl) rfl (by kernel_rfl) trivial (fun ρ wc hbc hcn hq => ?_) ?_
  · obtain ⟨hcn, hfn⟩ := hcn
    simp at hq
    obtain ⟨hcc, -⟩ := bcell hbc
    simp at hcc
    go_simp
  refine t_val (u := .int .i64 (fb + p.o)) [38, 40] (by kernel_rfl) rfl (by kernel_rfl) trivial (fun ρ wc hbc hcn hq => ?_) ?_
  · obtain ⟨hcn, hfn⟩ := hcn
    simp at hq
    go_simp
    rw [IntKind.wrap_i64]
    omega
  refine t_val (u := .agg #[.slice A ls.length c, .int .i64 p.k, .int .i64 p.o, .int .i64 p.d, .int .i64 p.p, .int .i64 p.el, .int .i64 p.c, .bool p.db, .int .i64 p.pa, .int .u32 p.sg, .int .u32 p.lo, .int .i64 fs, .int .i64 (fb + p.o)]) [35, 36, 37, 41] (by kernel_rfl) rfl (by kernel_rfl) trivial (fun ρ wc hbc hcn hq => ?_) ?_
  · obtain ⟨hcn, hfn⟩ := hcn
    simp at hq
    go_simp
  refine t_call (T := Is (.tuple #[.agg #[.int .i64 r.1.k, .int .i64 r.1.sg, .int .i64 r.1.at', .int .i64 r.1.d, .int .i64 r.1.p, .int .i64 r.1.el, .int .i64 r.1.n, .int .i64 r.1.cost], .int .i64 r.2])) (Is (.tuple #[.agg #[.int .i64 r.1.k, .int .i64 r.1.sg, .int .i64 r.1.at', .int .i64 r.1.d, .int .i64 r.1.p, .int .i64 r.1.el, .int .i64 r.1.n, .int .i64 r.1.cost], .int .i64 r.2])) fid [34, 42] (by kernel_rfl) rfl (by kernel_rfl) trivial (stable_is _) (free_is _) (fun _ _ h => h) (fun ρ wc hbc hcn hq => ?_) ?_
  · obtain ⟨hcn, hfn⟩ := hcn
    simp at hq
    refine ⟨#[.agg #[.slice A ls.length c, .int .i64 p.k, .int .i64 p.o, .int .i64 p.d, .int .i64 p.p, .int .i64 p.el, .int .i64 p.c, .bool p.db, .int .i64 p.pa, .int .u32 p.sg, .int .u32 p.lo, .int .i64 fs, .int .i64 (fb + p.o)]], by (have hen := HEN.out); go_simp; exact hen _ _, ?_⟩
    have hbel : Below w.heap.size w wc := bel_on (bel_drew HB.out) hbc
    refine (HC.out _ (HT.out.on hbel) (Hs.out.below hbel (Nat.le_refl _))).mono ?_
    rintro e w' ⟨rfl, hbq⟩
    exact ⟨_, rfl, rfl, hbq⟩
  refine t_val (u := .agg #[.int .i64 r.1.k, .int .i64 r.1.sg, .int .i64 r.1.at', .int .i64 r.1.d, .int .i64 r.1.p, .int .i64 r.1.el, .int .i64 r.1.n, .int .i64 r.1.cost]) [43] (by kernel_rfl) rfl (by kernel_rfl) trivial (fun ρ wc hbc hcn hq => ?_) ?_
  · obtain ⟨hcn, hfn⟩ := hcn
    simp at hq
    go_simp
  refine t_val (u := .int .i64 r.2) [43] (by kernel_rfl) rfl (by kernel_rfl) trivial (fun ρ wc hbc hcn hq => ?_) ?_
  · obtain ⟨hcn, hfn⟩ := hcn
    simp at hq
    go_simp
  refine t_end_lit 46 rfl (fun ff w4 hb7 hq => ?_)
  have hb4 : Below W.heap.size W w4 := ⟨hb7.os, hb7.tape, hb7.output, hb7.size, hb7.block⟩
  have HB4 := Lib.hid (bel_on HB.out hb4)
  have B6 := H6.out.below hb4
  clear hb7 hb4 HB H6 x6 y6 z6 x12 y12 z12
  have HB := HB4
  clear HB4
  have H6 := Lib.hid B6
  obtain ⟨x6, y6, z6⟩ := B6
  simp [AllN] at hq
  simp only [frameL, hq, Nat.zero_add, Nat.reduceAdd]
  clear hq
  go_wp2
  refine ⟨rfl, ?_⟩
  go_wp2_with fail
  refine abs_post (F := fun W => Blk W w.heap.size #[.int .i64 r.1.k, .int .i64 r.1.sg, .int .i64 r.1.at', .int .i64 r.1.d, .int .i64 r.1.p, .int .i64 r.1.el, .int .i64 r.1.n, .int .i64 r.1.cost] ∧ Below w.heap.size w W) ⟨?_, ?_⟩ ?_
  · exact ((((((((H6.out.set 0 (by simp) _).set 1 (by simp) _).set 2 (by simp) _).set 3 (by simp) _).set 4 (by simp) _).set 5 (by simp) _).set 6 (by simp) _).set 7 (by simp) _)
  · repeat (with_reducible first | exact HB.out | refine bel_drewN ?_ _ | refine bel_drew ?_ | refine Below.alloc ?_ (by have := HB.out.size; simp [World.setCell]; omega) _ | refine Below.setCell ?_ (by first | (simp; done) | (simp; omega)) _)
  rintro V ⟨B6, hbv⟩
  exact bodyPost_ret (v := .tuple #[.agg #[.int .i64 r.1.k, .int .i64 r.1.sg, .int .i64 r.1.at', .int .i64 r.1.d, .int .i64 r.1.p, .int .i64 r.1.el, .int .i64 r.1.n, .int .i64 r.1.cost], .int .i64 r.2]) (by simp [results, Tryz.results55, go_sem, B6.cell]) rfl ⟨rfl, hbv⟩

set_option maxRecDepth 100000 in
set_option maxHeartbeats 1000000 in
theorem Object_err (A : Option Addr) (c : Nat) (ls : List (List Int)) (s a : Int) (q : Fol) (w : World) (hs : Sg w A ls) (hq : q.e ≠ 0)
    (HFOL : Hid (∀ w2, Sg w2 A ls → Calls Tryz.prog 51 #[.slice A ls.length c, .int .i64 s, .int .i64 a] w2 fun e w' => e = .returned (.tuple #[.int .u64 q.w, .int .i64 q.s, .int .i64 q.b, .int .i64 q.e]) ∧ Below w2.heap.size w2 w')) :
    Calls Tryz.prog 55 #[.slice A ls.length c, .int .i64 s, .int .i64 a] w fun e w' => e = .returned (.tuple #[.agg #[.int .i64 0, .int .i64 0, .int .i64 0, .int .i64 0, .int .i64 0, .int .i64 0, .int .i64 0, .int .i64 0], .int .i64 q.e]) ∧ Below w.heap.size w w' := by
  have Hs := Lib.hid hs
  have t1 : (q.e != 0) = true := by simpa using hq
  clear hs hq
  go_enter Tryz.func55, Tryz.ntmps55
  go_wp2_with fail
  refine (HFOL.out _ (Hs.out.alloc _)).mono ?_
  rintro e w1 ⟨rfl, hb⟩
  have BO := (Blk.fresh w #[.int .i64 0, .int .i64 0, .int .i64 0, .int .i64 0, .int .i64 0, .int .i64 0, .int .i64 0, .int .i64 0] 74).below hb
  have HB : Hid (Below w.heap.size w w1) := Lib.hid (((Below.refl _ _).alloc (Nat.le_refl _) _).trans (hb.mono (by simp)))
  clear hb HFOL
  have HO := Lib.hid BO
  obtain ⟨xo, yo, zo⟩ := BO
  go_wp2_with fail
  refine abs_post (F := fun W => Blk W w.heap.size #[.int .i64 0, .int .i64 0, .int .i64 0, .int .i64 0, .int .i64 0, .int .i64 0, .int .i64 0, .int .i64 0] ∧ Below w.heap.size w W) ⟨?_, ?_⟩ ?_
  · exact ((((((((HO.out.set 0 (by simp) _).set 1 (by simp) _).set 2 (by simp) _).set 3 (by simp) _).set 4 (by simp) _).set 5 (by simp) _).set 6 (by simp) _).set 7 (by simp) _)
  · repeat (with_reducible first | exact HB.out | refine bel_drewN ?_ _ | refine bel_drew ?_ | refine Below.alloc ?_ (by have := HB.out.size; simp [World.setCell]; omega) _ | refine Below.setCell ?_ (by first | (simp; done) | (simp; omega)) _)
  rintro V ⟨B6, hbv⟩
  exact bodyPost_ret (v := .tuple #[.agg #[.int .i64 0, .int .i64 0, .int .i64 0, .int .i64 0, .int .i64 0, .int .i64 0, .int .i64 0, .int .i64 0], .int .i64 q.e]) (by simp [results, Tryz.results55, go_sem, B6.cell]) rfl ⟨rfl, hbv⟩

set_option maxRecDepth 100000 in
set_option maxHeartbeats 1000000 in
theorem Object_nul (A : Option Addr) (c : Nat) (ls : List (List Int)) (s a : Int) (q : Fol) (w : World) (hs : Sg w A ls) (hq : q.e = 0) (hw : q.w = 0)
    (HFOL : Hid (∀ w2, Sg w2 A ls → Calls Tryz.prog 51 #[.slice A ls.length c, .int .i64 s, .int .i64 a] w2 fun e w' => e = .returned (.tuple #[.int .u64 q.w, .int .i64 q.s, .int .i64 q.b, .int .i64 q.e]) ∧ Below w2.heap.size w2 w')) :
    Calls Tryz.prog 55 #[.slice A ls.length c, .int .i64 s, .int .i64 a] w fun e w' => e = .returned (.tuple #[.agg #[.int .i64 0, .int .i64 0, .int .i64 0, .int .i64 0, .int .i64 0, .int .i64 0, .int .i64 0, .int .i64 0], .int .i64 0]) ∧ Below w.heap.size w w' := by
  have Hs := Lib.hid hs
  have t1 : (q.e != 0) = false := by simpa using hq
  have t2 : (q.w == 0) = true := by simpa using hw
  clear hs hq hw
  go_enter Tryz.func55, Tryz.ntmps55
  go_wp2_with fail
  refine (HFOL.out _ (Hs.out.alloc _)).mono ?_
  rintro e w1 ⟨rfl, hb⟩
  have BO := (Blk.fresh w #[.int .i64 0, .int .i64 0, .int .i64 0, .int .i64 0, .int .i64 0, .int .i64 0, .int .i64 0, .int .i64 0] 74).below hb
  have HB : Hid (Below w.heap.size w w1) := Lib.hid (((Below.refl _ _).alloc (Nat.le_refl _) _).trans (hb.mono (by simp)))
  clear hb HFOL
  have HO := Lib.hid BO
  obtain ⟨xo, yo, zo⟩ := BO
  go_wp2_with fail
  refine (IsNull_any _ _).mono ?_
  rintro e w' ⟨rfl, rfl⟩
  go_wp2_with fail
  refine abs_post (F := fun W => Blk W w.heap.size #[.int .i64 0, .int .i64 0, .int .i64 0, .int .i64 0, .int .i64 0, .int .i64 0, .int .i64 0, .int .i64 0] ∧ Below w.heap.size w W) ⟨?_, ?_⟩ ?_
  · exact ((((((((HO.out.set 0 (by simp) _).set 1 (by simp) _).set 2 (by simp) _).set 3 (by simp) _).set 4 (by simp) _).set 5 (by simp) _).set 6 (by simp) _).set 7 (by simp) _)
  · repeat (with_reducible first | exact HB.out | refine bel_drewN ?_ _ | refine bel_drew ?_ | refine Below.alloc ?_ (by have := HB.out.size; simp [World.setCell]; omega) _ | refine Below.setCell ?_ (by first | (simp; done) | (simp; omega)) _)
  rintro V ⟨B6, hbv⟩
  exact bodyPost_ret (v := .tuple #[.agg #[.int .i64 0, .int .i64 0, .int .i64 0, .int .i64 0, .int .i64 0, .int .i64 0, .int .i64 0, .int .i64 0], .int .i64 0]) (by simp [results, Tryz.results55, go_sem, B6.cell]) rfl ⟨rfl, hbv⟩

theorem RObject_any (A : Option Addr) (c : Nat) (ls : List (List Int)) (s a : Int) (w : World) (hT : TabOK w) (hs : Sg w A ls) (hw : Wd2 ls) (hm : ls.length ≤ 140737488355328) (hf : ∀ j, (seg ls j).length ≤ 140737488355328)
    (hs0 : -9223372036854775808 ≤ s) (hs1 : s ≤ 9223372036854775807) (ha0 : -9223372036854775808 ≤ a) (ha1 : a ≤ 9223372036854775807) :
    Calls Tryz.prog 55 #[.slice A ls.length c, .int .i64 s, .int .i64 a] w fun e w' => e = .returned (.tuple #[.agg #[.int .i64 (objF ls s a).1.k, .int .i64 (objF ls s a).1.sg, .int .i64 (objF ls s a).1.at', .int .i64 (objF ls s a).1.d, .int .i64 (objF ls s a).1.p, .int .i64 (objF ls s a).1.el, .int .i64 (objF ls s a).1.n, .int .i64 (objF ls s a).1.cost], .int .i64 (objF ls s a).2]) ∧ Below w.heap.size w w' := by
  have HFOL := Lib.hid (fun w2 hs2 => FFollow_any A c ls s a w2 hs2 hw hm hf hs0 hs1 ha0 ha1)
  have hbd := followF_bd hw hm hf s a
  have hfc := folR_cases hw s a
  have hpd := decP_bd (followF ls s a).w hbd.1 hbd.2.1
  have hpk := decP_k (followF ls s a).w hbd.1
  have HDEC := Lib.hid (fun w2 => Decode_any (followF ls s a).w w2 hbd.1 hbd.2.1)
  have HOF : Hid (objF ls s a = if (followF ls s a).e ≠ 0 ∨ (followF ls s a).w = 0 then (ob0, (followF ls s a).e) else objP ls (decP (followF ls s a).w) (followF ls s a).s (followF ls s a).b) := Lib.hid rfl
  generalize followF ls s a = q at *
  by_cases he : q.e = 0
  · by_cases h0 : q.w = 0
    · have hr := HOF.out
      rw [if_pos (Or.inr h0)] at hr
      rw [hr, he]
      exact Object_nul A c ls s a q w hs he h0 HFOL
    · have hr := HOF.out
      rw [if_neg (by rintro (h | h); exact h he; exact h0 h)] at hr
      rw [hr]
      have hne : q.w % 4 ≠ 2 := by rcases hfc with ⟨h, _⟩ | ⟨_, h, _⟩ <;> omega
      have hb0 : (q.w == 0) = false := by simpa using h0
      obtain ⟨qw, qs, qb, qe⟩ := q
      simp only at he hr hne hb0 hpk hpd hbd HFOL HDEC ⊢
      subst he
      generalize decP qw = p at *
      have hk : p.k = 0 ∨ p.k = 1 ∨ p.k = 3 := by omega
      rcases hk with hk | hk | hk
      · have hr2 : objP ls p qs qb = strR ls p.d p.p qs (qb + p.o) := by
          unfold objP strR
          rw [if_neg (by omega), if_pos hk]
        rw [hr2]
        refine Object_tail A c ls s a qw qs qb p 82 _ w hT hs HFOL HDEC hb0 (by omega) (by omega) (by omega) (by omega) (by rw [hk]; exact cases0) enter0 (Lib.hid fun w2 hT2 hs2 => ?_)
        exact case0_any A c ls p.k p.o p.d p.p p.el p.c p.pa p.sg p.lo qs (qb + p.o) p.db w2 hT2 (by omega) (by omega) (by omega) (by omega) hs2 hw hm hf (by omega) (by omega) (by omega) (by omega)
      · by_cases h7 : p.el = 7
        · have hr2 : objP ls p qs qb = cmpR ls p.c qs (qb + p.o) := by
            unfold objP cmpR
            rw [if_neg (by omega), if_neg (by omega), h7]
            cases inB ls qs (qb + p.o) (wordsI 7 p.c) <;> simp
          rw [hr2]
          refine Object_tail A c ls s a qw qs qb p 84 _ w hT hs HFOL HDEC hb0 (by omega) (by omega) (by omega) (by omega) (by rw [hk]; exact cases1) enter1 (Lib.hid fun w2 hT2 hs2 => ?_)
          exact case1c_any A c ls p.k p.o p.d p.p p.el p.c p.pa p.sg p.lo qs (qb + p.o) p.db w2 hT2 h7 (by omega) (by omega) hs2 hw hm hf (by omega) (by omega) (by omega) (by omega)
        · have hr2 : objP ls p qs qb = lstR ls p.el p.c qs (qb + p.o) := by
            unfold objP lstR
            rw [if_neg (by omega), if_neg (by omega), if_neg h7]
            cases inB ls qs (qb + p.o) (wordsI p.el p.c) <;> simp
          rw [hr2]
          refine Object_tail A c ls s a qw qs qb p 84 _ w hT hs HFOL HDEC hb0 (by omega) (by omega) (by omega) (by omega) (by rw [hk]; exact cases1) enter1 (Lib.hid fun w2 hT2 hs2 => ?_)
          exact case1l_any A c ls p.k p.o p.d p.p p.el p.c p.pa p.sg p.lo qs (qb + p.o) p.db w2 hT2 h7 (by omega) (by omega) (by omega) (by omega) hs2 hw hm hf (by omega) (by omega) (by omega) (by omega)
      · have hr2 : objP ls p qs qb = othR p.lo := by
          unfold objP othR
          rw [if_pos hk]
        rw [hr2]
        refine Object_tail A c ls s a qw qs qb p 87 _ w hT hs HFOL HDEC hb0 (by omega) (by omega) (by omega) (by omega) (by rw [hk]; exact cases3) enter3 (Lib.hid fun w2 hT2 hs2 => ?_)
        exact case3_any A c ls p.k p.o p.d p.p p.el p.c p.pa p.sg p.lo qs (qb + p.o) p.db w2 hk
  · have hr := HOF.out
    rw [if_pos (Or.inl he)] at hr
    rw [hr]
    exact Object_err A c ls s a q w hs he HFOL

set_option maxRecDepth 100000 in
theorem RElement_any (k sg at' d p el n cost i : Int) (w : World) (h0 : 0 ≤ i) (h1 : i ≤ 536870911) (h2 : 0 ≤ at') (h3 : at' ≤ 281474976710656) (h4 : 0 ≤ d) (h5 : d ≤ 65535) (h6 : 0 ≤ p) (h7 : p ≤ 65535) :
    Calls Tryz.prog 47 #[.agg #[.int .i64 k, .int .i64 sg, .int .i64 at', .int .i64 d, .int .i64 p, .int .i64 el, .int .i64 n, .int .i64 cost], .int .i64 i] w fun e w' => e = .returned (.agg #[.int .i64 1, .int .i64 sg, .int .i64 (at' + i * (d + p)), .int .i64 d, .int .i64 p, .int .i64 0, .int .i64 0, .int .i64 0]) ∧ Below w.heap.size w w' := by
  have m0 : 0 ≤ i * (d + p) := Int.mul_nonneg (by omega) (by omega)
  have m1 : i * (d + p) ≤ 536870911 * 131070 := Int.mul_le_mul (by omega) (by omega) (by omega) (by omega)
  go_enter Tryz.func47, Tryz.ntmps47
  go_wp2_with fail
  refine abs_post (F := fun W => Blk W (w.heap.size + 1) #[.int .i64 1, .int .i64 sg, .int .i64 (at' + i * (d + p)), .int .i64 d, .int .i64 p, .int .i64 0, .int .i64 0, .int .i64 0] ∧ Below w.heap.size w W) ⟨?_, ?_⟩ ?_
  · have h := (Blk.fresh (w.alloc (.cells #[.int .i64 k, .int .i64 sg, .int .i64 at', .int .i64 d, .int .i64 p, .int .i64 el, .int .i64 n, .int .i64 cost] 74)) #[.int .i64 1, .int .i64 sg, .int .i64 (at' + i * (d + p)), .int .i64 d, .int .i64 p, .int .i64 0, .int .i64 0, .int .i64 0] 74)
    simpa using h
  · exact ((Below.refl _ _).alloc (Nat.le_refl _) _).alloc (by simp) _
  rintro V ⟨B6, hbv⟩
  exact bodyPost_ret (v := .agg #[.int .i64 1, .int .i64 sg, .int .i64 (at' + i * (d + p)), .int .i64 d, .int .i64 p, .int .i64 0, .int .i64 0, .int .i64 0]) (by simp [results, Tryz.results47, go_sem, B6.cell]) rfl ⟨rfl, hbv⟩

set_option maxRecDepth 100000 in
theorem RPointers_any (k sg at' d p el n cost : Int) (w : World) (h1 : 0 ≤ at') (h2 : at' ≤ 281474976710656) (h3 : 0 ≤ d) (h4 : d ≤ 65535) :
    Calls Tryz.prog 66 #[.agg #[.int .i64 k, .int .i64 sg, .int .i64 at', .int .i64 d, .int .i64 p, .int .i64 el, .int .i64 n, .int .i64 cost]] w fun e w' => e = .returned (.tuple #[.int .i64 (ptrO ⟨k, sg, at', d, p, el, n, cost⟩).1, .int .i64 (ptrO ⟨k, sg, at', d, p, el, n, cost⟩).2]) ∧ Below w.heap.size w w' := by
  by_cases k1 : k = 1
  · by_cases hp : 0 < p
    · have HP : Hid (ptrO ⟨k, sg, at', d, p, el, n, cost⟩ = (at' + d, p)) := Lib.hid (by unfold ptrO; rw [if_pos ⟨k1, hp⟩])
      subst k1
      rw [HP.out]
      clear HP
      go_enter Tryz.func66, Tryz.ntmps66
      go_wp2
      go_quiet (fail)
      go_wp2
      go_ret2
      exact ⟨rfl, bel_drewN ((Below.refl _ _).alloc (Nat.le_refl _) _) _⟩
    · have HP : Hid (ptrO ⟨k, sg, at', d, p, el, n, cost⟩ = (0, 0)) := Lib.hid (by unfold ptrO; rw [if_neg (fun h => hp h.2), if_neg (fun h => by have := h.1; simp only at this; omega)])
      subst k1
      rw [HP.out]
      clear HP
      go_enter Tryz.func66, Tryz.ntmps66
      go_wp2
      go_ret2
      exact ⟨rfl, (Below.refl _ _).alloc (Nat.le_refl _) _⟩
  · have t1 : (k == 1) = false := by simpa using k1
    by_cases k2 : k = 2
    · by_cases e6 : el = 6
      · by_cases hn : 0 < n
        · have HP : Hid (ptrO ⟨k, sg, at', d, p, el, n, cost⟩ = (at', n)) := Lib.hid (by unfold ptrO; rw [if_neg (fun h => k1 h.1), if_pos ⟨k2, e6, hn⟩])
          clear t1 k1
          subst k2 e6
          rw [HP.out]
          clear HP
          go_enter Tryz.func66, Tryz.ntmps66
          go_wp2
          go_quiet (fail)
          go_wp2
          go_ret2
          exact ⟨rfl, bel_drewN ((Below.refl _ _).alloc (Nat.le_refl _) _) _⟩
        · have HP : Hid (ptrO ⟨k, sg, at', d, p, el, n, cost⟩ = (0, 0)) := Lib.hid (by unfold ptrO; rw [if_neg (fun h => k1 h.1), if_neg (fun h => hn h.2.2)])
          clear t1 k1
          subst k2 e6
          rw [HP.out]
          clear HP
          go_enter Tryz.func66, Tryz.ntmps66
          go_wp2
          go_ret2
          exact ⟨rfl, (Below.refl _ _).alloc (Nat.le_refl _) _⟩
      · have HP : Hid (ptrO ⟨k, sg, at', d, p, el, n, cost⟩ = (0, 0)) := Lib.hid (by unfold ptrO; rw [if_neg (fun h => k1 h.1), if_neg (fun h => e6 h.2.1)])
        have t3 : (el == 6) = false := by simpa using e6
        clear t1 k1 e6
        subst k2
        rw [HP.out]
        clear HP
        go_enter Tryz.func66, Tryz.ntmps66
        go_wp2
        go_ret2
        exact ⟨rfl, (Below.refl _ _).alloc (Nat.le_refl _) _⟩
    · have HP : Hid (ptrO ⟨k, sg, at', d, p, el, n, cost⟩ = (0, 0)) := Lib.hid (by unfold ptrO; rw [if_neg (fun h => k1 h.1), if_neg (fun h => k2 h.1)])
      have t2 : (k == 2) = false := by simpa using k2
      clear k1 k2
      rw [HP.out]
      clear HP
      go_enter Tryz.func66, Tryz.ntmps66
      go_wp2
      go_ret2
      exact ⟨rfl, (Below.refl _ _).alloc (Nat.le_refl _) _⟩

theorem RPointers_is (k sg at' d p el n cost x y : Int) (w : World) (h1 : 0 ≤ at') (h2 : at' ≤ 281474976710656) (h3 : 0 ≤ d) (h4 : d ≤ 65535) (hp : ptrO ⟨k, sg, at', d, p, el, n, cost⟩ = (x, y)) :
    Calls Tryz.prog 66 #[.agg #[.int .i64 k, .int .i64 sg, .int .i64 at', .int .i64 d, .int .i64 p, .int .i64 el, .int .i64 n, .int .i64 cost]] w fun e w' => e = .returned (.tuple #[.int .i64 x, .int .i64 y]) ∧ Below w.heap.size w w' := by
  have h := RPointers_any k sg at' d p el n cost w h1 h2 h3 h4
  rw [hp] at h
  exact h
end Go.Proofs.YtnmanhediiooaaaGreatDoor

/- Package denote: the bytes of an object. -/
namespace Go.Proofs.YtnmanhediiooaaaGreatDoor
open Go.ChangeShapes Go.WideShapes Go.ChangeAt Go.RowKit
set_option linter.unusedVariables false
set_option linter.unusedSimpArgs false
set_option maxRecDepth 100000
attribute [local simp] AllK KnowsV look Is

def TupG (lo : Nat) (xs : List Int) (bb : Bool) : Fact := fun v w => ∃ u, v = .tuple #[u, .bool bb] ∧ Got w lo 41 .u64 u xs
theorem stable_tupg (lo : Nat) (xs : List Int) (bb : Bool) : stable (TupG lo xs bb) := fun v w w' ⟨u, h1, h2⟩ hb => ⟨u, h1, h2.below hb (Nat.le_refl _)⟩
def WrdG (lo : Nat) (xs : List Int) : Fact := fun v w => Got w lo 41 .u64 v xs
theorem stable_wrdg (lo : Nat) (xs : List Int) : stable (WrdG lo xs) := fun v w w' h hb => Got.below h hb (Nat.le_refl _)
def DatG (lo : Nat) (xs : List Int) : Fact := fun v w => Got w lo 5 .u8 v xs
theorem stable_datg (lo : Nat) (xs : List Int) : stable (DatG lo xs) := fun v w w' h hb => Got.below h hb (Nat.le_refl _)

set_option maxHeartbeats 4000000 in
theorem bytes_walk (b : Nat) (A : Option Addr) (n c : Nat) (D X O m : Int) (o : Ob) (k : Int) (xs : List Int) (bb : Bool) (w0 w : World) (hb : Below b w0 w) (hk : Blk w b #[.slice A n c, .int .i64 D, .int .i64 X, .int .i64 O, .int .i64 m])
    (HSL : Hid (∀ w2, Below b w0 w2 → Calls Tryz.prog 89 #[.slice A n c, .int .i64 o.sg, .int .i64 o.at', .int .i64 k] w2 fun e w' => ∃ v, e = .returned (.tuple #[v, .bool bb]) ∧ Got w' w2.heap.size 41 .u64 v xs ∧ Below w2.heap.size w2 w'))
    (hw : Wds xs) (hl : xs.length ≤ 20000000) :
    Calls Tryz.prog 72 #[.pointer (some ⟨b, 0, none⟩), .agg #[.int .i64 o.k, .int .i64 o.sg, .int .i64 o.at', .int .i64 o.d, .int .i64 o.p, .int .i64 o.el, .int .i64 o.n, .int .i64 o.cost], .int .i64 k] w fun e w' => ∃ v, e = .returned v ∧ Got w' w.heap.size 5 .u8 v (bytesOf xs) ∧ Below w.heap.size w w' := by
  have hlt := hk.lt
  have HB1 := Lib.hid ((Below.refl w.heap.size w).alloc (Nat.le_refl _) (.cells (obA o) 74))
  have HZ : Hid (w.heap.size ≤ (w.alloc (.cells (obA o) 74)).heap.size) := Lib.hid (by simp)
  have HB := Lib.hid (fun (w2 : World) (h : Below (w.alloc (.cells (obA o) 74)).heap.size (w.alloc (.cells (obA o) 74)) w2) => hb.trans ((bel_on HB1.out h).mono (Nat.le_of_lt hlt)))
  have HT1 := Lib.hid (hk.alloc (.cells (obA o) 74))
  have HO1 : Hid (Blk (w.alloc (.cells (obA o) 74)) w.heap.size (obA o)) := Lib.hid (Blk.fresh _ _ _)
  have HW := Lib.hid hw
  unfold obA at HB1 HZ HB HT1 HO1
  clear hb hk hlt hw
  go_enter Tryz.func72, Tryz.ntmps72
  go_wp2_with fail
  refine abs_code10 (F := fun W => W = w.alloc (.cells #[.int .i64 o.k, .int .i64 o.sg, .int .i64 o.at', .int .i64 o.d, .int .i64 o.p, .int .i64 o.el, .int .i64 o.n, .int .i64 o.cost] 74)) rfl ?_
  rintro W1 hW1
  rw [← hW1] at HB1 HZ HB HT1 HO1
  clear hW1
  rename_i KK hKK
  refine wp_region_chain (by kernel_rfl) (by kernel_rfl) ?_
  refine chain_val (u := ?_) [0] rfl (by kernel_rfl) trivial (fun ρ wc hbc hcn hq => ?_) ?_; rotate_left
  · obtain ⟨hcn, hfn⟩ := hcn
    simp at hq
    go_simp
    rfl
  refine chain_val (u := ?_) [10] rfl (by kernel_rfl) trivial (fun ρ wc hbc hcn hq => ?_) ?_; rotate_left
  · obtain ⟨hcn, hfn⟩ := hcn
    simp at hq
    go_simp
    rfl
  refine chain_val (u := ?_) [11] rfl (by kernel_rfl) trivial (fun ρ wc hbc hcn hq => ?_) ?_; rotate_left
  · obtain ⟨hcn, hfn⟩ := hcn
    simp at hq
    go_simp
    rfl
  refine chain_val (u := ?_) [12] rfl (by kernel_rfl) trivial (fun ρ wc hbc hcn hq => ?_) ?_; rotate_left
  · obtain ⟨hcn, hfn⟩ := hcn
    simp at hq
    have x1 := (HT1.out.drew.below hbc).cell
    have x2 := (HO1.out.drew.below hbc).cell
    go_simp
    rfl
  refine chain_val (u := ?_) [4] rfl (by kernel_rfl) trivial (fun ρ wc hbc hcn hq => ?_) ?_; rotate_left
  · obtain ⟨hcn, hfn⟩ := hcn
    simp at hq
    go_simp
    rfl
  refine chain_val (u := ?_) [14] rfl (by kernel_rfl) trivial (fun ρ wc hbc hcn hq => ?_) ?_; rotate_left
  · obtain ⟨hcn, hfn⟩ := hcn
    simp at hq
    have x1 := (HT1.out.drew.below hbc).cell
    have x2 := (HO1.out.drew.below hbc).cell
    go_simp
    rfl
  refine chain_val (u := ?_) [4] rfl (by kernel_rfl) trivial (fun ρ wc hbc hcn hq => ?_) ?_; rotate_left
  · obtain ⟨hcn, hfn⟩ := hcn
    simp at hq
    go_simp
    rfl
  refine chain_val (u := ?_) [16] rfl (by kernel_rfl) trivial (fun ρ wc hbc hcn hq => ?_) ?_; rotate_left
  · obtain ⟨hcn, hfn⟩ := hcn
    simp at hq
    have x1 := (HT1.out.drew.below hbc).cell
    have x2 := (HO1.out.drew.below hbc).cell
    go_simp
    rfl
  refine chain_val (u := ?_) [2] rfl (by kernel_rfl) trivial (fun ρ wc hbc hcn hq => ?_) ?_; rotate_left
  · obtain ⟨hcn, hfn⟩ := hcn
    simp at hq
    go_simp
    rfl
  refine chain_call (T := TupG w.heap.size xs bb) 89 [13, 15, 17, 18] rfl (by kernel_rfl) trivial (stable_tupg _ _ _) (fun ρ wc hbc hcn hq => ?_) ?_
  · obtain ⟨hcn, hfn⟩ := hcn
    simp at hq
    refine ⟨_, by go_simp; rfl, ?_⟩
    refine (HSL.out _ (HB.out _ (bel_undrew hbc))).mono ?_
    rintro e w' ⟨v, rfl, hg, hbq⟩
    exact ⟨_, rfl, ⟨v, rfl, hg.mono (Nat.le_trans HZ.out hbc.size)⟩, hbq⟩
  refine chain_new (T := TupG w.heap.size xs bb) [19] rfl (by kernel_rfl) trivial (stable_tupg _ _ _) (fun ρ wc hbc hcn hq => ?_) ?_
  · obtain ⟨hcn, hfn⟩ := hcn
    simp at hq
    exact ⟨_, wc, by go_simp, hq, Below.refl _ _⟩
  refine chain_new (T := WrdG w.heap.size xs) [9] rfl (by kernel_rfl) trivial (stable_wrdg _ _) (fun ρ wc hbc hcn hq => ?_) ?_
  · obtain ⟨hcn, hfn⟩ := hcn
    simp at hq
    obtain ⟨u, hu, hg⟩ := hq
    exact ⟨u, wc, by go_simp, hg, Below.refl _ _⟩
  refine chain_new (T := Any) [9] rfl (by kernel_rfl) trivial (stable_anyF) (fun ρ wc hbc hcn hq => ?_) ?_
  · obtain ⟨hcn, hfn⟩ := hcn
    simp at hq
    obtain ⟨u, hu, hg⟩ := hq
    exact ⟨.bool bb, wc, by go_simp, trivial, Below.refl _ _⟩
  refine chain_new (T := WrdG w.heap.size xs) [20] rfl (by kernel_rfl) trivial (stable_wrdg _ _) (fun ρ wc hbc hcn hq => ?_) ?_
  · obtain ⟨hcn, hfn⟩ := hcn
    simp at hq
    exact ⟨_, wc, by go_simp, hq, Below.refl _ _⟩
  refine chain_new (T := Any) [21] rfl (by kernel_rfl) trivial (stable_anyF) (fun ρ wc hbc hcn hq => ?_) ?_
  · obtain ⟨hcn, hfn⟩ := hcn
    simp at hq
    exact ⟨ρ (.tmp 21), wc, by go_simp, trivial, Below.refl _ _⟩

  refine chain_end_lit 24 rfl (fun ff w5 hb5 hk => ?_)
  have h7 := allN_atF hk 7 (by omega) (by omega)
  simp [KnowsV, look] at h7
  have hg : Got w5 w.heap.size 41 .u64 (ff 7) xs := h7
  obtain ⟨A1, c1, e7, hc0, hm0, hri, hnil⟩ := Got.full hg
  simp [AllN] at hk
  simp only [frameL, hk, e7]
  refine hKK _ _ ?_
  have HR := Lib.hid hri
  have HBW : Hid (Below w.heap.size w w5) := Lib.hid (bel_on HB1.out (bel_undrew hb5))
  clear hk hri hg h7 e7 hb5 HB1 HB HT1 HO1 HSL
  go_wp2_with fail
  refine (Bytes_any A1 c1 xs _ HR.out HW.out (by omega)).mono ?_
  rintro e w6 ⟨v, rfl, hg, hb6⟩
  have hz := HBW.out.size
  have HG := Lib.hid (hg.mono hz)
  have HB6 := Lib.hid (bel_on HBW.out hb6)
  clear hg hb6
  go_wp2
  go_ret
  exact ⟨v, rfl, HG.out, HB6.out⟩

theorem sliceD {b : Nat} {A : Option Addr} {ls : List (List Int)} {w0 w2 : World} (c : Nat) (E : EnvD b A ls w0) (s a n : Int) (hs0 : -9223372036854775808 ≤ s) (hs1 : s ≤ 9223372036854775807) (ha0 : -9223372036854775808 ≤ a) (ha1 : a ≤ 9223372036854775807) (hn0 : -9223372036854775808 ≤ n) (hn1 : n ≤ 9223372036854775807) (hb : Below b w0 w2) :
    Calls Tryz.prog 89 #[.slice A ls.length c, .int .i64 s, .int .i64 a, .int .i64 n] w2 fun e w' => ∃ v, e = .returned (.tuple #[v, .bool (inB ls s a n)]) ∧ Got w' w2.heap.size 41 .u64 v (datW ls s a n) ∧ Below w2.heap.size w2 w' :=
  ASlice_any A c ls s a n w2 (E.sgAt hb) E.m2 (fun j => by have := E.f j; omega) hs0 hs1 ha0 ha1 hn0 hn1
theorem datD_wds {ls : List (List Int)} (hw : Wd2 ls) (s a n : Int) : Wds (datW ls s a n) := by
  unfold datW
  split
  · intro z hz
    exact (hw.at s.toNat) z (List.mem_of_mem_drop (List.mem_of_mem_take hz))
  · intro z hz; cases hz
theorem datD_length {ls : List (List Int)} (hf : ∀ j, (seg ls j).length ≤ 20000000) (s a n : Int) : (datW ls s a n).length ≤ 20000000 := by
  unfold datW
  split
  · unfold sliceL
    rw [List.length_take, List.length_drop]
    have := hf s.toNat
    omega
  · simp

/-- an object whose numbers are small, and whose elements' bytes lie in bounds -/
structure ObOK (ls : List (List Int)) (o : Ob) : Prop where
  k : 0 ≤ o.k ∧ o.k ≤ 2
  sg : 0 ≤ o.sg ∧ o.sg ≤ 40
  at' : 0 ≤ o.at' ∧ o.at' ≤ 100000000000
  d : 0 ≤ o.d ∧ o.d ≤ 65535
  p : 0 ≤ o.p ∧ o.p ≤ 65535
  el : 0 ≤ o.el ∧ o.el ≤ 7
  n : 0 ≤ o.n ∧ o.n ≤ 536870911
  by' : o.k = 2 → o.el < 6 → bytesI o.el o.n ≤ 8 * (datW ls o.sg o.at' (wordsI o.el o.n)).length

set_option maxHeartbeats 8000000 in
theorem data_any (b : Nat) (A : Option Addr) (c : Nat) (ls : List (List Int)) (D X O m : Int) (o : Ob) (w0 w : World) (E : EnvD b A ls w0) (ho : ObOK ls o) (h7 : o.el ≠ 7) (hb : Below b w0 w) (hk : Blk w b #[.slice A ls.length c, .int .i64 D, .int .i64 X, .int .i64 O, .int .i64 m]) :
    Calls Tryz.prog 57 #[.pointer (some ⟨b, 0, none⟩), .agg #[.int .i64 o.k, .int .i64 o.sg, .int .i64 o.at', .int .i64 o.d, .int .i64 o.p, .int .i64 o.el, .int .i64 o.n, .int .i64 o.cost]] w fun e w' => ∃ v, e = .returned v ∧ Got w' w.heap.size 5 .u8 v (datO ls o) ∧ Below w.heap.size w w' := by
  have hlt := hk.lt
  obtain ⟨hk0, hsg, hat, hd, hp, hel, hn, hby⟩ := ho
  have hwb := wordsI_lim o.el o.n hn.1 hn.2
  have HBYT : Hid (∀ k, -9223372036854775808 ≤ k → k ≤ 9223372036854775807 → ∀ w2, Below b w0 w2 → Blk w2 b #[.slice A ls.length c, .int .i64 D, .int .i64 X, .int .i64 O, .int .i64 m] → Calls Tryz.prog 72 #[.pointer (some ⟨b, 0, none⟩), .agg #[.int .i64 o.k, .int .i64 o.sg, .int .i64 o.at', .int .i64 o.d, .int .i64 o.p, .int .i64 o.el, .int .i64 o.n, .int .i64 o.cost], .int .i64 k] w2 fun e w' => ∃ v, e = .returned v ∧ Got w' w2.heap.size 5 .u8 v (bytesOf (datW ls o.sg o.at' k)) ∧ Below w2.heap.size w2 w') :=
    Lib.hid (fun k k0 k1 w2 hb2 hk2 => bytes_walk b A ls.length c D X O m o k _ _ w0 w2 hb2 hk2 (Lib.hid (fun w3 hb3 => sliceD c E o.sg o.at' k (by omega) (by omega) (by omega) (by omega) k0 k1 hb3)) (datD_wds E.wd _ _ _) (datD_length E.f _ _ _))
  have HB1 := Lib.hid ((Below.refl w.heap.size w).alloc (Nat.le_refl _) (.cells (obA o) 74))
  have HZ : Hid (w.heap.size ≤ (w.alloc (.cells (obA o) 74)).heap.size) := Lib.hid (by simp)
  have HB := Lib.hid (fun (w2 : World) (h : Below (w.alloc (.cells (obA o) 74)).heap.size (w.alloc (.cells (obA o) 74)) w2) => hb.trans ((bel_on HB1.out h).mono (Nat.le_of_lt hlt)))
  have HT1 := Lib.hid (hk.alloc (.cells (obA o) 74))
  have HO1 : Hid (Blk (w.alloc (.cells (obA o) 74)) w.heap.size (obA o)) := Lib.hid (Blk.fresh _ _ _)
  unfold obA at HB1 HZ HB HT1 HO1
  by_cases h1 : o.k = 1
  · have t1 : (o.k == 1) = true := by simpa using h1
    have hD : datO ls o = bytesOf (datW ls o.sg o.at' o.d) := by unfold datO; rw [if_pos h1]
    rw [hD]
    have HBY := Lib.hid (HBYT.out o.d (by omega) (by omega))
    clear hb hk hlt hby hwb HBYT h1 hD hk0 h7
    generalize bytesOf (datW ls o.sg o.at' o.d) = xs at *
    obtain ⟨x2, y2, z2⟩ := HO1.out
    go_enter Tryz.func57, Tryz.ntmps57
    go_wp2_with fail
    refine (HBY.out _ (HB.out _ (Below.refl _ _)) HT1.out).mono ?_
    rintro e w6 ⟨v, rfl, hg, hb6⟩
    have HG := Lib.hid (hg.mono HZ.out)
    have HB6 := Lib.hid (bel_on HB1.out hb6)
    clear hg hb6
    go_wp2
    go_ret
    exact ⟨v, rfl, HG.out, HB6.out⟩
  by_cases h2 : o.k = 2 ∧ o.el ≠ 6
  · have t1 : (o.k == 1) = false := by simpa using h1
    have t2 : (o.k == 2) = true := by simpa using h2.1
    have t3 : (o.el != 6) = true := by simpa using h2.2
    have hD : datO ls o = trimL (bytesOf (datW ls o.sg o.at' (wordsI o.el o.n))) o.el o.n := by unfold datO; rw [if_neg h1, if_pos h2]
    rw [hD]
    have HBY := Lib.hid (HBYT.out (wordsI o.el o.n) (by omega) (by omega))
    have HLW := Lib.hid (fun w2 (h : Below b w0 w2) => LWords_any o.el o.n w2 (E.tabAt h) hel.1 hel.2 hn.1 hn.2)
    have hlx : (bytesOf (datW ls o.sg o.at' (wordsI o.el o.n))).length = 8 * (datW ls o.sg o.at' (wordsI o.el o.n)).length := bytesOf_length _
    have hlb := datD_length E.f o.sg o.at' (wordsI o.el o.n)
    have hle := hby h2.1 (by omega)
    have hbt := bytesOf_bts (datW ls o.sg o.at' (wordsI o.el o.n))
    generalize bytesOf (datW ls o.sg o.at' (wordsI o.el o.n)) = xs at *
    have HTR := Lib.hid (fun A1 c1 w2 (h : Below b w0 w2) (hr : Ri w2 .u8 A1 xs) (hnil : A1 = none → c1 = 0) (hc : xs.length ≤ c1) (hcm : c1 ≤ maxLen) => LTrim_any A1 c1 xs o.el o.n w2 (E.tabAt h) hr hbt hnil (by omega) hc (by unfold maxLen at hcm; omega) hel.1 (by omega) hn.1 hn.2 (by omega))
    clear hb hk hlt hby hwb HBYT h1 h2 hD hk0 h7 hlx hlb hle hbt
    generalize trimL xs o.el o.n = ys at *
    obtain ⟨x2, y2, z2⟩ := HO1.out
    go_enter Tryz.func57, Tryz.ntmps57
    go_wp2_with fail
    clear x2 y2 z2
    refine abs_code10 (F := fun W => W = w.alloc (.cells #[.int .i64 o.k, .int .i64 o.sg, .int .i64 o.at', .int .i64 o.d, .int .i64 o.p, .int .i64 o.el, .int .i64 o.n, .int .i64 o.cost] 74)) rfl ?_
    rintro W1 hW1
    rw [← hW1] at HB1 HZ HB HT1 HO1
    clear hW1
    rename_i KK hKK
    refine wp_region_chain (by kernel_rfl) (by kernel_rfl) ?_
    refine chain_val (u := ?_) [3] rfl (by kernel_rfl) trivial (fun ρ wc hbc hcn hq => ?_) ?_; rotate_left
    · obtain ⟨hcn, hfn⟩ := hcn
      simp at hq
      go_simp
      rfl
    refine chain_val (u := ?_) [23] rfl (by kernel_rfl) trivial (fun ρ wc hbc hcn hq => ?_) ?_; rotate_left
    · obtain ⟨hcn, hfn⟩ := hcn
      simp at hq
      have x2 := (HO1.out.drew.below hbc).cell
      go_simp
      rfl
    refine chain_val (u := ?_) [3] rfl (by kernel_rfl) trivial (fun ρ wc hbc hcn hq => ?_) ?_; rotate_left
    · obtain ⟨hcn, hfn⟩ := hcn
      simp at hq
      go_simp
      rfl
    refine chain_val (u := ?_) [25] rfl (by kernel_rfl) trivial (fun ρ wc hbc hcn hq => ?_) ?_; rotate_left
    · obtain ⟨hcn, hfn⟩ := hcn
      simp at hq
      have x2 := (HO1.out.drew.below hbc).cell
      go_simp
      rfl
    refine chain_val (u := ?_) [0] rfl (by kernel_rfl) trivial (fun ρ wc hbc hcn hq => ?_) ?_; rotate_left
    · obtain ⟨hcn, hfn⟩ := hcn
      simp at hq
      go_simp
      rfl
    refine chain_val (u := ?_) [3] rfl (by kernel_rfl) trivial (fun ρ wc hbc hcn hq => ?_) ?_; rotate_left
    · obtain ⟨hcn, hfn⟩ := hcn
      simp at hq
      have x2 := (HO1.out.drew.below hbc).cell
      go_simp
      rfl
    refine chain_val (u := ?_) [3] rfl (by kernel_rfl) trivial (fun ρ wc hbc hcn hq => ?_) ?_; rotate_left
    · obtain ⟨hcn, hfn⟩ := hcn
      simp at hq
      go_simp
      rfl
    refine chain_val (u := ?_) [29] rfl (by kernel_rfl) trivial (fun ρ wc hbc hcn hq => ?_) ?_; rotate_left
    · obtain ⟨hcn, hfn⟩ := hcn
      simp at hq
      have x2 := (HO1.out.drew.below hbc).cell
      go_simp
      rfl
    refine chain_val (u := ?_) [3] rfl (by kernel_rfl) trivial (fun ρ wc hbc hcn hq => ?_) ?_; rotate_left
    · obtain ⟨hcn, hfn⟩ := hcn
      simp at hq
      go_simp
      rfl
    refine chain_val (u := ?_) [31] rfl (by kernel_rfl) trivial (fun ρ wc hbc hcn hq => ?_) ?_; rotate_left
    · obtain ⟨hcn, hfn⟩ := hcn
      simp at hq
      have x2 := (HO1.out.drew.below hbc).cell
      go_simp
      rfl
    refine chain_call (T := Is (.int .i64 (wordsI o.el o.n))) 74 [30, 32] rfl (by kernel_rfl) trivial (stable_is _) (fun ρ wc hbc hcn hq => ?_) ?_
    · obtain ⟨hcn, hfn⟩ := hcn
      simp at hq
      refine ⟨_, by go_simp; rfl, ?_⟩
      refine (HLW.out _ (HB.out _ (bel_undrew hbc))).mono ?_
      rintro e w' ⟨rfl, rfl⟩
      exact ⟨_, rfl, rfl, Below.refl _ _⟩
    refine chain_call (T := DatG w.heap.size xs) 72 [27, 28, 33] rfl (by kernel_rfl) trivial (stable_datg _ _) (fun ρ wc hbc hcn hq => ?_) ?_
    · obtain ⟨hcn, hfn⟩ := hcn
      simp at hq
      refine ⟨_, by go_simp; rfl, ?_⟩
      refine (HBY.out _ (HB.out _ (bel_undrew hbc)) ((HT1.out.drew.below hbc))).mono ?_
      rintro e w' ⟨v, rfl, hg, hbq⟩
      exact ⟨_, rfl, hg.mono (Nat.le_trans HZ.out hbc.size), hbq⟩
    refine chain_call (T := DatG w.heap.size ys) 73 [24, 26, 34] rfl (by kernel_rfl) trivial (stable_datg _ _) (fun ρ wc hbc hcn hq => ?_) ?_
    · obtain ⟨hcn, hfn⟩ := hcn
      simp at hq
      obtain ⟨h24, h26, h34⟩ := hq
      obtain ⟨A1, c1, e34, hc0, hm0, hri, hnil⟩ := Got.full h34
      refine ⟨_, by go_simp; rfl, ?_⟩
      refine (HTR.out A1 c1 _ (HB.out _ (bel_undrew hbc)) hri hnil hc0 hm0).mono ?_
      rintro e w' ⟨v, rfl, hg, hbq⟩
      exact ⟨_, rfl, hg.mono (Nat.le_trans HZ.out hbc.size), hbq⟩
    refine chain_new (T := DatG w.heap.size ys) [35] rfl (by kernel_rfl) trivial (stable_datg _ _) (fun ρ wc hbc hcn hq => ?_) ?_
    · obtain ⟨hcn, hfn⟩ := hcn
      simp at hq
      exact ⟨_, wc, by go_simp, hq, Below.refl _ _⟩
    refine chain_end_lit 36 rfl (fun ff w5 hb5 hk => ?_)
    have h4 := allN_atF hk 4 (by omega) (by omega)
    simp [KnowsV, look] at h4
    have hg : Got w5 w.heap.size 5 .u8 (ff 4) ys := h4
    simp [AllN] at hk
    simp only [frameL, hk]
    refine hKK _ _ ?_
    have HG := Lib.hid hg
    have HB6 := Lib.hid (bel_on HB1.out (bel_undrew hb5))
    clear hk hg h4 hb5
    go_wp2
    go_ret
    exact ⟨_, rfl, HG.out, HB6.out⟩
  · have t1 : (o.k == 1) = false := by simpa using h1
    have hD : datO ls o = [] := by unfold datO; rw [if_neg h1, if_neg h2]
    rw [hD]
    clear hb hk hlt hby hwb HBYT h1 hD
    obtain ⟨x2, y2, z2⟩ := HO1.out
    by_cases h3 : o.k = 2
    · have t2 : (o.k == 2) = true := by simpa using h3
      have t3 : (o.el != 6) = false := by have : o.el = 6 := Classical.byContradiction (fun h => h2 ⟨h3, h⟩); simpa using this
      clear h2 h3
      go_enter Tryz.func57, Tryz.ntmps57
      go_wp2
      go_ret
      exact ⟨_, rfl, Got.empty _ _ _ _, HB1.out⟩
    · have t2 : (o.k == 2) = false := by simpa using h3
      clear h2 h3
      go_enter Tryz.func57, Tryz.ntmps57
      go_wp2
      go_ret
      exact ⟨_, rfl, Got.empty _ _ _ _, HB1.out⟩
end Go.Proofs.YtnmanhediiooaaaGreatDoor

/- Package trim: cut at its two predicates, and with it Words, Pointers and Uniform. -/
namespace Go.Proofs.YtnmanhediiooaaaGreatDoor
open Go.ChangeShapes Go.WideShapes Go.ChangeAt Go.RowKit
set_option linter.unusedVariables false
set_option linter.unusedSimpArgs false
set_option maxRecDepth 100000

/-- the bytes up to the last one, of the first i, that is not zero -/
def cutF (d : List Int) : Nat → Nat
  | 0 => 0
  | i + 1 => if zat d i = 0 then cutF d i else i + 1
theorem cutF_le (d : List Int) : ∀ i, cutF d i ≤ i
  | 0 => by simp [cutF]
  | i + 1 => by
    have := cutF_le d i
    unfold cutF
    split <;> omega
theorem wordsF_cut (d : List Int) : ∀ i, wordsF d i = (cutF d i + 7) / 8
  | 0 => by simp [wordsF, cutF]
  | i + 1 => by
    have := wordsF_cut d i
    unfold wordsF cutF
    split
    · exact this
    · omega
theorem isZero_any (z : Int) (w : World) : Calls Tryz.prog 50 #[.int .u8 z] w fun r w' => r = .returned (.bool (z == 0)) ∧ w' = w := by
  go_enter Tryz.func50, Tryz.ntmps50
  go_wp2
  go_ret
  exact ⟨rfl, rfl⟩
theorem isNull_any (k e n : Int) (A : Option Addr) (dl c : Nat) (B : Option Addr) (kl c2 : Nat) (w : World) : Calls Tryz.prog 29 #[.agg #[.int .i64 k, .int .i64 e, .int .i64 n, .slice A dl c, .slice B kl c2]] w fun r w' => r = .returned (.bool (k == 0)) ∧ Below w.heap.size w w' := by
  have HB := Lib.hid (fun o => (Below.refl w.heap.size w).alloc (Nat.le_refl _) o)
  go_enter Tryz.func29, Tryz.ntmps29
  go_wp2
  go_ret
  exact ⟨rfl, HB.out _⟩

set_option maxRecDepth 100000 in
theorem cutB_any (A : Option Addr) (c : Nat) (d : List Int) (w : World) (hr : Ri w .u8 A d) (hb : Bts d) (hm : d.length ≤ 1099511627776) (hc : d.length ≤ c) :
    Calls Tryz.prog 49 #[.slice A d.length c, .func (.func 50) #[] #[]] w fun r w' => r = .returned (.slice A (cutF d d.length) c) ∧ w = w' := by
  have Hr := Lib.hid hr
  have Hb := Lib.hid hb
  clear hr hb
  go_enter Tryz.func49, Tryz.ntmps49
  go_wp2
  go_loop [0] (fun v => ∃ k : Nat, k ≤ d.length ∧ v = .slice A k c ∧ cutF d d.length = cutF d k) (fun v => match v with | .slice _ n _ => n | _ => 0)
  case atStart => exact ⟨d.length, by omega, rfl, rfl⟩
  case round =>
    obtain ⟨k, hk, rfl, hq⟩ := hrel
    have HQ := Lib.hid hq
    clear hq
    cases k with
    | zero =>
      go_wp2
      go_ret
      exact ⟨by rw [HQ.out]; rfl, rfl⟩
    | succ k =>
      obtain ⟨g, off, rfl, hcd⟩ := Hr.out.at (i := k) (by omega)
      have hcell := hcd k (by omega)
      have HS : Hid (cutF d (k + 1) = if zat d k = 0 then cutF d k else k + 1) := Lib.hid rfl
      clear hcd
      generalize zat d k = z at *
      go_wp2_with fail
      refine (isZero_any z _).mono ?_
      rintro r w' ⟨rfl, rfl⟩
      by_cases h0 : z = 0
      · have t1 : (z == 0) = true := by simpa using h0
        have HQ2 := Lib.hid (HQ.out.trans (HS.out.trans (if_pos h0)))
        clear h0
        go_wp2
        go_round
        case rel => exact ⟨k, by omega, by go_num, HQ2.out⟩
        case measure => simp
      · have t1 : (z == 0) = false := by simpa using h0
        have HQ2 := Lib.hid (HQ.out.trans (HS.out.trans (if_neg h0)))
        clear h0
        go_wp2
        go_ret
        exact ⟨by rw [HQ2.out]; rfl, rfl⟩

theorem trimWords_any (A : Option Addr) (c : Nat) (d : List Int) (w : World) (hr : Ri w .u8 A d) (hb : Bts d) (hm : d.length ≤ 1099511627776) (hc : d.length ≤ c) :
    Calls Tryz.prog 27 #[.slice A d.length c] w fun r w' => r = .returned (.int .i64 (wordsT d)) ∧ w = w' := by
  have HC := Lib.hid (cutB_any A c d w hr hb hm hc)
  have HW : Hid (((cutF d d.length : Int) + 7) / 8 = wordsT d) := Lib.hid (by unfold wordsT; rw [wordsF_cut]; omega)
  have hl := cutF_le d d.length
  clear hr hb
  generalize cutF d d.length = m at *
  go_enter Tryz.func27, Tryz.ntmps27
  go_wp2_with fail
  refine HC.out.mono ?_
  rintro r w' ⟨rfl, rfl⟩
  go_wp2
  go_ret
  refine ⟨?_, rfl⟩
  rw [← HW.out]
  go_num

set_option maxRecDepth 100000 in
theorem cutK_any (B : Option Addr) (c : Nat) (ks : List Nd) (w : World) (hr : KsR w B ks) (hm : ks.length ≤ 1099511627776) (hc : ks.length ≤ c) :
    Calls Tryz.prog 28 #[.slice B ks.length c, .func (.func 29) #[] #[]] w fun r w' => r = .returned (.slice B (ptrsT ks) c) ∧ Below w.heap.size w w' := by
  have HK := Lib.hid hr
  have HW : Hid (ptrsT ks = ptrsF ks ks.length) := Lib.hid rfl
  clear hr
  go_enter Tryz.func28, Tryz.ntmps28
  go_wp2
  go_loopw [0] (fun v wr => ∃ k : Nat, k ≤ ks.length ∧ v = .slice B k c ∧ ptrsT ks = ptrsF ks k ∧ Below w.heap.size w wr) (fun v _ => match v with | .slice _ n _ => n | _ => 0)
  case atStart => exact ⟨ks.length, by omega, rfl, HW.out, Below.refl _ _⟩
  case round =>
    obtain ⟨k, hk, rfl, hq, hbr⟩ := hrel
    have HQ := Lib.hid hq
    have HR := Lib.hid hbr
    clear hq hbr
    cases k with
    | zero =>
      go_wp2
      go_ret
      exact ⟨by rw [HQ.out]; rfl, HR.out⟩
    | succ k =>
      obtain ⟨b, off, A', c', B', c2', rfl, k0, k1, k2, k3, k4, hsub⟩ := HK.out.atIn HR.out (Nat.le_refl _) (j := k) (by omega)
      have HS : Hid (ptrsF ks (k + 1) = if (ks[k]'(by omega)).k = 0 then ptrsF ks k else k + 1) := Lib.hid (by rw [← kAt_get (by omega)]; rfl)
      clear hsub
      generalize (ks[k]'(by omega)) = kx at *
      obtain ⟨kk, ke, kn, kd, kks⟩ := kx
      simp only [Nd.k, Nd.e, Nd.n, Nd.d, Nd.ks] at k0 k1 k2 k3 k4 HS
      go_wp2_with fail
      refine (isNull_any _ _ _ _ _ _ _ _ _ _).mono ?_
      rintro r w' ⟨rfl, hb1⟩
      have HB1 := Lib.hid (bel_on HR.out hb1)
      clear hb1
      by_cases h0 : kk = 0
      · have t1 : (kk == 0) = true := by simpa using h0
        have HQ2 := Lib.hid (HQ.out.trans (HS.out.trans (if_pos h0)))
        clear h0
        go_wp2
        go_roundw
        case rel => exact ⟨k, by omega, by go_num, HQ2.out, HB1.out⟩
        case measure => simp
      · have t1 : (kk == 0) = false := by simpa using h0
        have HQ2 := Lib.hid (HQ.out.trans (HS.out.trans (if_neg h0)))
        clear h0
        go_wp2
        go_ret
        exact ⟨by rw [HQ2.out]; rfl, HB1.out⟩

end Go.Proofs.YtnmanhediiooaaaGreatDoor

/- Package trim: a row of trimmed nodes that is filled place by place, and Trim itself. -/
namespace Go.Proofs.YtnmanhediiooaaaGreatDoor
open Go.ChangeShapes Go.WideShapes Go.ChangeAt Go.RowKit
set_option linter.unusedVariables false
set_option linter.unusedSimpArgs false
set_option maxRecDepth 100000

theorem KsR.take {w : World} {B : Option Addr} {ts : List Nd} (h : KsR w B ts) (K : Nat) : KsR w B (ts.take K) := by
  rcases h with rfl | ⟨b, off, hB, h⟩
  · exact .inl (by simp)
  · refine .inr ⟨b, off, hB, fun j hj => ?_⟩
    rw [List.length_take] at hj
    have := h j (by omega)
    rw [List.getElem_take]
    exact this

/-- the block at A lies there and may be written into -/
def Unv (w : World) (A : Option Addr) : Prop := ∀ b off, A = some ⟨b, off, none⟩ → b < w.heap.size ∧ ∀ o, w.frozen? ⟨b, o, none⟩ = false
theorem Unv.unf {w : World} {A : Option Addr} (h : Unv w A) : Unf w A := fun b off e => (h b off e).2
theorem Unv.below {w w' : World} {A : Option Addr} (h : Unv w A) {N : Nat} (hb : Below N w w') (hN : w.heap.size ≤ N) : Unv w' A := by
  intro b off e
  obtain ⟨h1, h2⟩ := h b off e
  exact ⟨Nat.lt_of_lt_of_le h1 hb.size, fun o => by rw [hb.frozen (p := ⟨b, o, none⟩) (by show b < N; omega)]; exact h2 o⟩
theorem Unv.set {w : World} {A : Option Addr} (h : Unv w A) (p : Addr) (v : Value) : Unv (w.setCell p v) A := by
  intro b off e
  obtain ⟨h1, h2⟩ := h b off e
  exact ⟨by simpa using h1, fun o => by rw [World.frozen?_setCell]; exact h2 o⟩

/-- a row of n nodes in the block q; the first i hold the nodes of ts, whose parts lie behind q -/
structure RowT (q n i : Nat) (ts : List Nd) (W : World) : Prop where
  cell : ∀ o, o < n * 5 → ∃ u, W.cell? ⟨q, o, none⟩ = some u
  free : ∀ o, W.frozen? ⟨q, o, none⟩ = false
  lt : q < W.heap.size
  done : ∀ j (hj : j < ts.length), j < i → ∃ A' c' B' c2' lo hi, q < lo ∧ hi ≤ W.heap.size ∧ NdO lo hi W A' c' B' c2' (ts[j]) ∧ Unv W A' ∧ ∀ o, o < 5 → W.cell? ⟨q, j * 5 + o, none⟩ = (fiveC (ts[j]) A' c' B' c2')[o]?
theorem RowT.below {q n i : Nat} {ts : List Nd} {W W' : World} (h : RowT q n i ts W) {N : Nat} (hb : Below N W W') (hN : W.heap.size ≤ N) : RowT q n i ts W' := by
  have hlt := h.lt
  have hc : ∀ o, W'.cell? ⟨q, o, none⟩ = W.cell? ⟨q, o, none⟩ := fun o => hb.cell (p := ⟨q, o, none⟩) (by show q < N; omega)
  refine ⟨fun o ho => ?_, fun o => ?_, Nat.lt_of_lt_of_le hlt hb.size, fun j hj hi => ?_⟩
  · obtain ⟨u, hu⟩ := h.cell o ho
    exact ⟨u, (hc o).trans hu⟩
  · rw [hb.frozen (p := ⟨q, o, none⟩) (by show q < N; omega)]
    exact h.free o
  · obtain ⟨A', c', B', c2', lo, hi', h1, h2, h3, h4, h5⟩ := h.done j hj hi
    exact ⟨A', c', B', c2', lo, hi', h1, Nat.le_trans h2 hb.size, h3.below hb (by omega), h4.below hb hN, fun o ho => (hc _).trans (h5 o ho)⟩
theorem RowT.set {q n i : Nat} {ts : List Nd} {W : World} (h : RowT q n i ts W) {p : Nat} (hp : i * 5 ≤ p) (v : Value) : RowT q n i ts (W.setCell ⟨q, p, none⟩ v) := by
  have hd : ∀ o, p ≠ o → (W.setCell ⟨q, p, none⟩ v).cell? ⟨q, o, none⟩ = W.cell? ⟨q, o, none⟩ := fun o ho => cell_diff (fun e => by injection e with e1 e2; exact ho e2)
  refine ⟨fun o ho => ?_, fun o => by rw [World.frozen?_setCell]; exact h.free o, by simpa using h.lt, fun j hj hi => ?_⟩
  · obtain ⟨u, hu⟩ := h.cell o ho
    by_cases e : p = o
    · subst e
      exact ⟨v, cell_same hu⟩
    · exact ⟨u, (hd o e).trans hu⟩
  · obtain ⟨A', c', B', c2', lo, hi', h1, h2, h3, h4, h5⟩ := h.done j hj hi
    exact ⟨A', c', B', c2', lo, hi', h1, by simpa using h2, h3.to fun k k1 _ => Below.heap_setCell _ _ _ _ (by show k ≠ q; omega), h4.set _ _, fun o ho => (hd _ (by omega)).trans (h5 o ho)⟩
/-- a store into a block before the row -/
theorem RowT.other {q n i : Nat} {ts : List Nd} {W : World} (h : RowT q n i ts W) {p : Addr} (hp : p.block < q) (v : Value) : RowT q n i ts (W.setCell p v) := by
  have hd : ∀ o, (W.setCell p v).cell? ⟨q, o, none⟩ = W.cell? ⟨q, o, none⟩ := fun o => cell_diff (fun e => by subst e; exact Nat.lt_irrefl _ hp)
  refine ⟨fun o ho => ?_, fun o => by rw [World.frozen?_setCell]; exact h.free o, by simpa using h.lt, fun j hj hi => ?_⟩
  · obtain ⟨u, hu⟩ := h.cell o ho
    exact ⟨u, (hd o).trans hu⟩
  · obtain ⟨A', c', B', c2', lo, hi', h1, h2, h3, h4, h5⟩ := h.done j hj hi
    exact ⟨A', c', B', c2', lo, hi', h1, by simpa using h2, h3.to fun k k1 _ => Below.heap_setCell _ _ _ _ (by omega), h4.set _ _, fun o ho => (hd _).trans (h5 o ho)⟩
/-- one place more -/
theorem RowT.next {q n i : Nat} {ts : List Nd} {W : World} (h : RowT q n i ts W) (hn : i < n) (hl : i < ts.length) {A' : Option Addr} {c' : Nat} {B' : Option Addr} {c2' lo hi : Nat} (h1 : q < lo) (h2 : hi ≤ W.heap.size) (h3 : NdO lo hi W A' c' B' c2' (ts[i])) (h4 : Unv W A') :
    RowT q n (i + 1) ts (((((W.setCell ⟨q, i * 5, none⟩ (.int .i64 (ts[i]).k)).setCell ⟨q, i * 5 + 1, none⟩ (.int .i64 (ts[i]).e)).setCell ⟨q, i * 5 + 2, none⟩ (.int .i64 (ts[i]).n)).setCell ⟨q, i * 5 + 3, none⟩ (.slice A' (ts[i]).d.length c')).setCell ⟨q, i * 5 + 4, none⟩ (.slice B' (ts[i]).ks.length c2')) := by
  have hr := ((((h.set (p := i * 5) (by omega) (.int .i64 (ts[i]).k)).set (p := i * 5 + 1) (by omega) (.int .i64 (ts[i]).e)).set (p := i * 5 + 2) (by omega) (.int .i64 (ts[i]).n)).set (p := i * 5 + 3) (by omega) (.slice A' (ts[i]).d.length c')).set (p := i * 5 + 4) (by omega) (.slice B' (ts[i]).ks.length c2')
  refine ⟨hr.cell, hr.free, hr.lt, fun j hj hi2 => ?_⟩
  by_cases e : j < i
  · exact hr.done j hj e
  obtain rfl : j = i := by omega
  have hg : ∀ (w : World) k p v, lo ≤ k → (w.setCell ⟨q, p, none⟩ v).heap[k]? = w.heap[k]? := fun w k p v hk => Below.heap_setCell _ _ _ _ (by show k ≠ q; omega)
  refine ⟨A', c', B', c2', lo, hi, h1, by simpa using h2, h3.to fun k k1 _ => by rw [hg _ _ _ _ k1, hg _ _ _ _ k1, hg _ _ _ _ k1, hg _ _ _ _ k1, hg _ _ _ _ k1], ((((h4.set _ _).set _ _).set _ _).set _ _).set _ _, fun o ho => ?_⟩
  have d : ∀ (w : World) (p r : Nat) v, p ≠ r → (w.setCell ⟨q, p, none⟩ v).cell? ⟨q, r, none⟩ = w.cell? ⟨q, r, none⟩ := fun w p r v hpr => cell_diff (fun e => by injection e with e1 e2; exact hpr e2)
  have c0 := fun o (ho : o < 5) => h.cell (j * 5 + o) (by omega)
  have : o = 0 ∨ o = 1 ∨ o = 2 ∨ o = 3 ∨ o = 4 := by omega
  rcases this with rfl | rfl | rfl | rfl | rfl
  · obtain ⟨u, hu⟩ := c0 0 (by omega)
    rw [d _ _ _ _ (by omega), d _ _ _ _ (by omega), d _ _ _ _ (by omega), d _ _ _ _ (by omega)]
    exact cell_same hu
  · obtain ⟨u, hu⟩ := c0 1 (by omega)
    rw [d _ _ _ _ (by omega), d _ _ _ _ (by omega), d _ _ _ _ (by omega)]
    exact cell_same (u := u) (by rw [d _ _ _ _ (by omega)]; exact hu)
  · obtain ⟨u, hu⟩ := c0 2 (by omega)
    rw [d _ _ _ _ (by omega), d _ _ _ _ (by omega)]
    exact cell_same (u := u) (by rw [d _ _ _ _ (by omega), d _ _ _ _ (by omega)]; exact hu)
  · obtain ⟨u, hu⟩ := c0 3 (by omega)
    rw [d _ _ _ _ (by omega)]
    exact cell_same (u := u) (by rw [d _ _ _ _ (by omega), d _ _ _ _ (by omega), d _ _ _ _ (by omega)]; exact hu)
  · obtain ⟨u, hu⟩ := c0 4 (by omega)
    exact cell_same (u := u) (by rw [d _ _ _ _ (by omega), d _ _ _ _ (by omega), d _ _ _ _ (by omega), d _ _ _ _ (by omega)]; exact hu)
/-- a new row -/
theorem RowT.made {q n base : Nat} {ts : List Nd} {W : World} {vs : List Value} (h : W.ownsRow base 30 5 (.slice (some ⟨q, 0, none⟩) n n) n vs) : RowT q n 0 ts W := by
  refine ⟨fun o ho => ?_, fun o => World.ownsRow.frozenAt h o, (h.lt q rfl).2, fun j hj h0 => by omega⟩
  have hl : o < vs.length := by rw [h.1]; exact ho
  exact ⟨vs[o], by rw [World.ownsRow.cellAt h o ho, List.getElem?_eq_getElem hl]⟩

/-- a node of the call's own that may be written into -/
def NodV (lo : Nat) (x : Nd) (v : Value) (w : World) : Prop := ∃ A c B c2 hi, v = .agg #[.int .i64 x.k, .int .i64 x.e, .int .i64 x.n, .slice A x.d.length c, .slice B x.ks.length c2] ∧ hi ≤ w.heap.size ∧ NdO lo hi w A c B c2 x ∧ Unv w A ∧ Unv w B ∧
  ∀ b off j A' l' c', B = some ⟨b, off, none⟩ → j < x.ks.length → w.cell? ⟨b, off + j * 5 + 3, none⟩ = some (.slice A' l' c') → Unv w A'
theorem NodV.nodU {lo : Nat} {x : Nd} {v : Value} {w : World} (h : NodV lo x v w) : NodU lo x v w := by
  obtain ⟨A, c, B, c2, hi, h1, h2, h3, h4, h5, h6⟩ := h
  exact ⟨A, c, B, c2, hi, h1, h2, h3, h4.unf, h5.unf, fun b off j A' l' c' e1 e2 e3 => (h6 b off j A' l' c' e1 e2 e3).unf⟩
/-- a node whose kids are such a row -/
theorem RowT.node {q n base : Nat} {ts : List Nd} {W : World} (h : RowT q n n ts W) (hq : base ≤ q) (hl : ts.length = n) (hm : n ≤ maxLen) {k e m : Int} {d : List Int} {A : Option Addr} {c : Nat}
    (hk : -9223372036854775808 ≤ k ∧ k ≤ 9223372036854775807) (he : -9223372036854775808 ≤ e ∧ e ≤ 9223372036854775807) (hn : -9223372036854775808 ≤ m ∧ m ≤ 9223372036854775807)
    (hd : Got W base 5 .u8 (.slice A d.length c) d) (hby : Bts d) : NdO base W.heap.size W A c (some ⟨q, 0, none⟩) n (.mk k e m d ts) := by
  intro V hV
  have hdV : Got V base 5 .u8 (.slice A d.length c) d := got_agree hd fun g h1 h2 => hV g h1 h2
  obtain ⟨A0, c0, he0, hc0, hm0, hri, hnil⟩ := hdV.full
  injection he0 with e1 e2 e3
  subst e1 e3
  have hcell : ∀ o, V.cell? ⟨q, o, none⟩ = W.cell? ⟨q, o, none⟩ := fun o => World.cell?_of_block (w := W) (hV q hq h.lt)
  have hkid : ∀ j (hj : j < ts.length), ∃ A' c' B' c2', NdR V A' c' B' c2' (ts[j]) ∧ ∀ o, o < 5 → V.cell? ⟨q, j * 5 + o, none⟩ = (fiveC (ts[j]) A' c' B' c2')[o]? := by
    intro j hj
    obtain ⟨A', c', B', c2', lo, hi, k1, k2, k3, k4, k5⟩ := h.done j hj (by omega)
    exact ⟨A', c', B', c2', k3 V fun g g1 g2 => hV g (by omega) (by omega), fun o ho => (hcell _).trans (k5 o ho)⟩
  refine .mk k e m d ts A c _ n (fun j => if h : j < ts.length then Classical.choose (hkid j h) else none)
    (fun j => if h : j < ts.length then Classical.choose (Classical.choose_spec (hkid j h)) else 0)
    (fun j => if h : j < ts.length then Classical.choose (Classical.choose_spec (Classical.choose_spec (hkid j h))) else none)
    (fun j => if h : j < ts.length then Classical.choose (Classical.choose_spec (Classical.choose_spec (Classical.choose_spec (hkid j h)))) else 0)
    hk he hn hri hby hc0 hm0 hnil (by omega) hm (fun h => by cases h) ?_ ?_
  · refine .inr ⟨q, 0, rfl, fun j x hj => ?_⟩
    have hjl : j < ts.length := (List.getElem?_eq_some_iff.1 hj).1
    obtain rfl : ts[j] = x := (List.getElem?_eq_some_iff.1 hj).2
    have hspec := Classical.choose_spec (Classical.choose_spec (Classical.choose_spec (Classical.choose_spec (hkid j hjl))))
    simp only [dif_pos hjl, Nat.zero_add]
    exact ⟨hspec.2 0 (by omega), hspec.2 1 (by omega), hspec.2 2 (by omega), hspec.2 3 (by omega), hspec.2 4 (by omega)⟩
  · intro j x hj
    have hjl : j < ts.length := (List.getElem?_eq_some_iff.1 hj).1
    obtain rfl : ts[j] = x := (List.getElem?_eq_some_iff.1 hj).2
    have hspec := Classical.choose_spec (Classical.choose_spec (Classical.choose_spec (Classical.choose_spec (hkid j hjl))))
    simp only [dif_pos hjl]
    exact hspec.1
theorem RowT.nodV {q n lo base : Nat} {ts : List Nd} {W : World} (h : RowT q n n ts W) (hlo : lo ≤ base) (hq : base ≤ q) (hl : ts.length = n) (hm : n ≤ maxLen) {k e m : Int} {d : List Int} {A : Option Addr} {c : Nat}
    (hk : -9223372036854775808 ≤ k ∧ k ≤ 9223372036854775807) (he : -9223372036854775808 ≤ e ∧ e ≤ 9223372036854775807) (hn : -9223372036854775808 ≤ m ∧ m ≤ 9223372036854775807)
    (hd : Got W base 5 .u8 (.slice A d.length c) d) (hby : Bts d) {x : Nd} (hx : x = .mk k e m d ts) {l : Nat} (hdl : l = d.length) : NodV lo x (.agg #[.int .i64 k, .int .i64 e, .int .i64 m, .slice A l c, .slice (some ⟨q, 0, none⟩) n n]) W := by
  subst hx hl hdl
  refine ⟨A, c, _, _, _, rfl, Nat.le_refl _, (h.node hq rfl hm hk he hn hd hby).wide hlo (Nat.le_refl _), ?_, ?_, ?_⟩
  · intro b off e
    subst e
    have hlt := hd.lt b rfl
    refine ⟨hlt.2, fun o => ?_⟩
    rcases hd.2 with ⟨h1, -⟩ | ⟨g, cap, cur, h1, h2, h3, -⟩
    · cases h1
    · injection h1 with e1 e2 e3
      injection e1 with e1
      injection e1 with e1 e4
      subst e1
      simp [World.frozen?, h3]
  · intro b off e
    injection e with e
    injection e with e1 e2
    subst e1
    exact ⟨h.lt, h.free⟩
  · intro b off j A' l' c' e hj hc
    injection e with e
    injection e with e1 e2
    subst e1 e2
    obtain ⟨A1, c1, B1, c2, lo1, hi1, k1, k2, k3, k4, k5⟩ := h.done j hj hj
    have := k5 3 (by omega)
    rw [Nat.zero_add] at hc
    rw [hc] at this
    injection this with this
    injection this with e1 e2 e3
    subst e1
    exact k4
end Go.Proofs.YtnmanhediiooaaaGreatDoor
