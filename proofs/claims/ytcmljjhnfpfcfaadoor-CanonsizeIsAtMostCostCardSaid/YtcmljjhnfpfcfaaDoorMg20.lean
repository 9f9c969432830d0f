/- The texts Ref08 (what is wanted of them), one after the other. -/
import Derived.Test.YtcmljjhnfpfcfaaDoorMg1
import Derived.Test.YtcmljjhnfpfcfaaDoorMg2
import Derived.Test.YtcmljjhnfpfcfaaDoorMg3
import Derived.Test.YtcmljjhnfpfcfaaDoorMg7
import Derived.Test.YtcmljjhnfpfcfaaDoorMg17
import Derived.Test.YtcmljjhnfpfcfaaDoorMg18
import Derived.Test.YtcmljjhnfpfcfaaDoorMg19
/- What the reference functions of layer 8 do, each by a contract. -/
namespace Go.Proofs.YtcmljjhnfpfcfaaDoor
open Go.ChangeShapes Go.WideShapes Go.ChangeAt Go.RowKit
set_option linter.unusedVariables false
set_option linter.unusedSimpArgs false
set_option maxRecDepth 100000

theorem decP_bd (x : Int) (h0 : 0 ≤ x) (h1 : x < 18446744073709551616) : 0 ≤ (decP x).k ∧ (decP x).k ≤ 3 ∧ -536870912 ≤ (decP x).o ∧ (decP x).o ≤ 536870911 ∧ 0 ≤ (decP x).d ∧ (decP x).d ≤ 65535 ∧ 0 ≤ (decP x).p ∧ (decP x).p ≤ 65535 ∧ 0 ≤ (decP x).el ∧ (decP x).el ≤ 7 ∧ 0 ≤ (decP x).c ∧ (decP x).c ≤ 536870911 ∧ 0 ≤ (decP x).lo := by
  rcases decP_vld x h0 h1 with ⟨k0, a1, a2, a3, a4, a5, a6, a7, a8, a9, a10, a11, a12⟩ | ⟨k0, a1, a2, a3, a4, a5, a6, a7, a8, a9, a10, a11, a12⟩ | ⟨k0, a1, a2, a3, a4, a5, a6, a7, a8, a9, a10⟩ | ⟨k0, a1, a2, a3, a4, a5, a6, a7, a8, a9, a10, a11⟩ <;> omega

theorem followF_bd {ls : List (List Int)} (hw : Wd2 ls) (hm : ls.length ≤ 140737488355328) (hf : ∀ j, (seg ls j).length ≤ 140737488355328) (s a : Int) :
    0 ≤ (followF ls s a).w ∧ (followF ls s a).w < 18446744073709551616 ∧ 0 ≤ (followF ls s a).s ∧ (followF ls s a).s ≤ 140737488355328 ∧ 0 ≤ (followF ls s a).b ∧ (followF ls s a).b ≤ 140737488355329 := by
  have q1 := wordV_bd hw s a
  have q2 := wordV_bd hw (wordV ls s a / 4294967296) (wordV ls s a % 4294967296 / 8)
  have q3 := wordV_bd hw (wordV ls s a / 4294967296) (wordV ls s a % 4294967296 / 8 + 1)
  unfold followF
  split
  · simp [folE]
  · rename_i h1
    have h1' : hasB ls s a = true := by simpa using h1
    unfold hasB at h1'
    have h7 := of_decide_eq_true h1'
    have h8 := hf s.toNat
    split
    · simp only; omega
    · split
      · simp [folE]
      · split
        · split
          · simp [folE]
          · simp only; omega
        · split
          · simp [folE]
          · split
            · simp [folE]
            · simp only; omega

/-- a resolved object -/
structure Ob where
  k : Int
  sg : Int
  at' : Int
  d : Int
  p : Int
  el : Int
  n : Int
  cost : Int
def ob0 : Ob := ⟨0, 0, 0, 0, 0, 0, 0, 0⟩
/-- the object of a list pointer whose words lie in bounds -/
def compF (ls : List (List Int)) (s st c cost : Int) : Ob × Int :=
  if (decP (wordV ls s st)).k ≠ 0 ∨ (decP (wordV ls s st)).o < 0 ∨ c < (decP (wordV ls s st)).o * ((decP (wordV ls s st)).d + (decP (wordV ls s st)).p) then (ob0, 5)
  else (⟨2, s, st + 1, (decP (wordV ls s st)).d, (decP (wordV ls s st)).p, 7, (decP (wordV ls s st)).o, if (decP (wordV ls s st)).d + (decP (wordV ls s st)).p = 0 then cost + (decP (wordV ls s st)).o else cost⟩, 0)
def objP (ls : List (List Int)) (q : Ptr) (s b : Int) : Ob × Int :=
  if q.k = 3 then (ob0, if q.lo = 0 then 6 else 4)
  else if q.k = 0 then (if inB ls s (b + q.o) (q.d + q.p) = true then (⟨1, s, b + q.o, q.d, q.p, 0, 0, q.d + q.p⟩, 0) else (ob0, 2))
  else if inB ls s (b + q.o) (wordsI q.el q.c) = false then (ob0, 2)
  else if q.el = 7 then compF ls s (b + q.o) q.c (wordsI q.el q.c)
  else (⟨2, s, b + q.o, 0, 0, q.el, q.c, wordsI q.el q.c⟩, 0)
def objF (ls : List (List Int)) (s a : Int) : Ob × Int :=
  if (followF ls s a).e ≠ 0 ∨ (followF ls s a).w = 0 then (ob0, (followF ls s a).e)
  else objP ls (decP (followF ls s a).w) (followF ls s a).s (followF ls s a).b

theorem Sg.alloc {w : World} {A : Option Addr} {ls : List (List Int)} (h : Sg w A ls) (o : Obj) : Sg (w.alloc o) A ls := h.below ((Below.refl _ _).alloc (Nat.le_refl _) o) (Nat.le_refl _)

theorem two_new {w w1 : World} {cs ds : Array Value} {T U : TypeId} (hb : Below ((w.alloc (.cells cs T)).alloc (.cells ds U)).heap.size ((w.alloc (.cells cs T)).alloc (.cells ds U)) w1) :
    (∀ o, w1.cell? ⟨w.heap.size, o, none⟩ = cs[o]?) ∧ (∀ o, w1.cell? ⟨w.heap.size + 1, o, none⟩ = ds[o]?) ∧ (∀ o, w1.frozen? ⟨w.heap.size, o, none⟩ = false) ∧ (∀ o, w1.frozen? ⟨w.heap.size + 1, o, none⟩ = false) ∧ w.heap.size + 2 ≤ w1.heap.size ∧ Below w.heap.size w w1 := by
  refine ⟨blk_below (blk_alloc (blk_new w cs T) (by simp) _) hb (by simp; omega), ?_, fun o => ?_, fun o => ?_, ?_, ?_⟩
  · have h := blk_below (blk_new (w.alloc (.cells cs T)) ds U) hb (by simp)
    simpa using h
  · rw [hb.frozen (p := ⟨w.heap.size, o, none⟩) (by simp; omega)]
    simp
  · rw [hb.frozen (p := ⟨w.heap.size + 1, o, none⟩) (by simp)]
    simp
  · have h := hb.size
    simpa using h
  · exact ((Below.refl _ _).alloc (Nat.le_refl _) _).alloc (by simp) _ |>.trans (hb.mono (by simp; omega))

theorem two_on {w w1 w2 : World} {cs ds : Array Value} (x6 : ∀ o, w1.cell? ⟨w.heap.size, o, none⟩ = cs[o]?) (x8 : ∀ o, w1.cell? ⟨w.heap.size + 1, o, none⟩ = ds[o]?) (y6 : ∀ o, w1.frozen? ⟨w.heap.size, o, none⟩ = false) (y8 : ∀ o, w1.frozen? ⟨w.heap.size + 1, o, none⟩ = false) (hz : w.heap.size + 2 ≤ w1.heap.size) (hB : Below w.heap.size w w1) (hb : Below w1.heap.size w1 w2) :
    (∀ o, w2.cell? ⟨w.heap.size, o, none⟩ = cs[o]?) ∧ (∀ o, w2.cell? ⟨w.heap.size + 1, o, none⟩ = ds[o]?) ∧ (∀ o, w2.frozen? ⟨w.heap.size, o, none⟩ = false) ∧ (∀ o, w2.frozen? ⟨w.heap.size + 1, o, none⟩ = false) ∧ w.heap.size < w2.heap.size ∧ w.heap.size + 1 < w2.heap.size ∧ Below w.heap.size w w2 := by
  have h := hb.size
  refine ⟨blk_below x6 hb (by omega), blk_below x8 hb (by omega), fun o => ?_, fun o => ?_, by omega, by omega, hB.trans (hb.mono (by omega))⟩
  · rw [hb.frozen (p := ⟨w.heap.size, o, none⟩) (by show w.heap.size < _; omega)]
    exact y6 o
  · rw [hb.frozen (p := ⟨w.heap.size + 1, o, none⟩) (by show w.heap.size + 1 < _; omega)]
    exact y8 o

/-- a store into a place of a block that is known whole -/
theorem blk_set {W : World} {b : Nat} {cs : Array Value} (x : ∀ o, W.cell? ⟨b, o, none⟩ = cs[o]?) (k : Nat) (hk : k < cs.size) (v : Value) : ∀ o, (W.setCell ⟨b, k, none⟩ v).cell? ⟨b, o, none⟩ = (cs.setIfInBounds k v)[o]? := by
  intro o
  by_cases e : k = o
  · subst e
    rw [World.cell?_setCell_same' _ _ _ (by rw [x k]; simp [hk])]
    simp [hk]
  · rw [World.cell?_setCell_other W ⟨b, k, none⟩ ⟨b, o, none⟩ v (by intro h; injection h with _ h2; exact e h2), x o]
    simp [Array.getElem?_setIfInBounds_ne e]

theorem RefInB_is (A : Option Addr) (c : Nat) (ls : List (List Int)) (s a n : Int) (b : Bool) (w : World) (hs : Sg w A ls) (hm : ls.length ≤ 140737488355328) (hb : inB ls s a n = b) :
    Calls Tryd.prog 55 #[.slice A ls.length c, .int .i64 s, .int .i64 a, .int .i64 n] w fun e w' => e = .returned (.bool b) ∧ w = w' := by
  subst hb
  exact RefInBounds_any A c ls s a n w hs hm

set_option maxRecDepth 100000 in
set_option maxHeartbeats 2000000 in
theorem Object1 (A : Option Addr) (c : Nat) (ls : List (List Int)) (s a : Int) (w : World) (hs : Sg w A ls) (hw : Wd2 ls) (hm : ls.length ≤ 140737488355328) (hf : ∀ j, (seg ls j).length ≤ 140737488355328) (h1 : (followF ls s a).e ≠ 0) :
    Calls Tryd.prog 44 #[.slice A ls.length c, .int .i64 s, .int .i64 a] w fun e w' => e = .returned (.tuple #[.agg #[.int .i64 (objF ls s a).1.k, .int .i64 (objF ls s a).1.sg, .int .i64 (objF ls s a).1.at', .int .i64 (objF ls s a).1.d, .int .i64 (objF ls s a).1.p, .int .i64 (objF ls s a).1.el, .int .i64 (objF ls s a).1.n, .int .i64 (objF ls s a).1.cost], .int .i64 (objF ls s a).2]) ∧ Below w.heap.size w w' := by
  have HF : Hid (objF ls s a = (ob0, (followF ls s a).e)) := Lib.hid (by simp [objF, h1])
  have HFOL := Lib.hid (fun w2 hs2 => RefFollow_any A c ls s a w2 hs2 hw hm hf)
  have hbd := followF_bd hw hm hf s a
  have HW := Lib.hid hw
  have Hs := Lib.hid hs
  have hpd := decP_bd (followF ls s a).w hbd.1 hbd.2.1
  generalize hq : followF ls s a = q at *
  clear hs hw hf hq
  go_enter Tryd.func44, Tryd.ntmps44
  go_wp2_with fail
  refine (HFOL.out _ ((Hs.out.alloc _).alloc _)).mono ?_
  rintro e w1 ⟨rfl, hb1⟩
  obtain ⟨x6, x8, y6, y8, hz1, hb2⟩ := two_new hb1
  have HB := Lib.hid hb2
  clear hb1 hb2 HFOL
  have t1 : (q.e != 0) = true := by simpa using h1
  go_wp2
  refine bodyPost_ret (v := .tuple #[.agg #[.int .i64 (0), .int .i64 (0), .int .i64 (0), .int .i64 (0), .int .i64 (0), .int .i64 (0), .int .i64 (0), .int .i64 (0)], .int .i64 q.e]) (by simp [results, Tryd.results44, go_sem, x6]) rfl ⟨by rw [HF.out]; rfl, ?_⟩
  repeat with_reducible refine Below.setCell ?_ (by simp) _
  exact HB.out

set_option maxRecDepth 100000 in
set_option maxHeartbeats 2000000 in
theorem Object2 (A : Option Addr) (c : Nat) (ls : List (List Int)) (s a : Int) (w : World) (hs : Sg w A ls) (hw : Wd2 ls) (hm : ls.length ≤ 140737488355328) (hf : ∀ j, (seg ls j).length ≤ 140737488355328) (h1 : (followF ls s a).e = 0) (h2 : (followF ls s a).w = 0) :
    Calls Tryd.prog 44 #[.slice A ls.length c, .int .i64 s, .int .i64 a] w fun e w' => e = .returned (.tuple #[.agg #[.int .i64 (objF ls s a).1.k, .int .i64 (objF ls s a).1.sg, .int .i64 (objF ls s a).1.at', .int .i64 (objF ls s a).1.d, .int .i64 (objF ls s a).1.p, .int .i64 (objF ls s a).1.el, .int .i64 (objF ls s a).1.n, .int .i64 (objF ls s a).1.cost], .int .i64 (objF ls s a).2]) ∧ Below w.heap.size w w' := by
  have HF : Hid (objF ls s a = (ob0, 0)) := Lib.hid (by simp [objF, h1, h2])
  have HFOL := Lib.hid (fun w2 hs2 => RefFollow_any A c ls s a w2 hs2 hw hm hf)
  have hbd := followF_bd hw hm hf s a
  have HW := Lib.hid hw
  have Hs := Lib.hid hs
  have hpd := decP_bd (followF ls s a).w hbd.1 hbd.2.1
  generalize hq : followF ls s a = q at *
  clear hs hw hf hq
  go_enter Tryd.func44, Tryd.ntmps44
  go_wp2_with fail
  refine (HFOL.out _ ((Hs.out.alloc _).alloc _)).mono ?_
  rintro e w1 ⟨rfl, hb1⟩
  obtain ⟨x6, x8, y6, y8, hz1, hb2⟩ := two_new hb1
  have HB := Lib.hid hb2
  clear hb1 hb2 HFOL
  have t1 : (q.e != 0) = false := by simpa using h1
  have t2 : (q.w == 0) = true := by simpa using h2
  go_wp2
  refine bodyPost_ret (v := .tuple #[.agg #[.int .i64 (0), .int .i64 (0), .int .i64 (0), .int .i64 (0), .int .i64 (0), .int .i64 (0), .int .i64 (0), .int .i64 (0)], .int .i64 0]) (by simp [results, Tryd.results44, go_sem, x6]) rfl ⟨by rw [HF.out]; rfl, ?_⟩
  repeat with_reducible refine Below.setCell ?_ (by simp) _
  exact HB.out

set_option maxRecDepth 100000 in
set_option maxHeartbeats 2000000 in
theorem Object3 (A : Option Addr) (c : Nat) (ls : List (List Int)) (s a : Int) (w : World) (hs : Sg w A ls) (hw : Wd2 ls) (hm : ls.length ≤ 140737488355328) (hf : ∀ j, (seg ls j).length ≤ 140737488355328) (h1 : (followF ls s a).e = 0) (h2 : ¬ (followF ls s a).w = 0) (h3 : (decP (followF ls s a).w).k = 3) :
    Calls Tryd.prog 44 #[.slice A ls.length c, .int .i64 s, .int .i64 a] w fun e w' => e = .returned (.tuple #[.agg #[.int .i64 (objF ls s a).1.k, .int .i64 (objF ls s a).1.sg, .int .i64 (objF ls s a).1.at', .int .i64 (objF ls s a).1.d, .int .i64 (objF ls s a).1.p, .int .i64 (objF ls s a).1.el, .int .i64 (objF ls s a).1.n, .int .i64 (objF ls s a).1.cost], .int .i64 (objF ls s a).2]) ∧ Below w.heap.size w w' := by
  have HF : Hid (objF ls s a = (ob0, if (decP (followF ls s a).w).lo = 0 then 6 else 4)) := Lib.hid (by simp [objF, objP, h1, h2, h3])
  have HFOL := Lib.hid (fun w2 hs2 => RefFollow_any A c ls s a w2 hs2 hw hm hf)
  have hbd := followF_bd hw hm hf s a
  have HW := Lib.hid hw
  have Hs := Lib.hid hs
  have hpd := decP_bd (followF ls s a).w hbd.1 hbd.2.1
  generalize hq : followF ls s a = q at *
  clear hs hw hf hq
  go_enter Tryd.func44, Tryd.ntmps44
  go_wp2_with fail
  refine (HFOL.out _ ((Hs.out.alloc _).alloc _)).mono ?_
  rintro e w1 ⟨rfl, hb1⟩
  obtain ⟨x6, x8, y6, y8, hz1, hb2⟩ := two_new hb1
  have HB := Lib.hid hb2
  clear hb1 hb2 HFOL
  have t1 : (q.e != 0) = false := by simpa using h1
  have t2 : (q.w == 0) = false := by simpa using h2
  go_wp2_with fail
  refine (RefDecode_any _ _ hbd.1 hbd.2.1).mono ?_
  rintro e w2 ⟨rfl, hb3⟩
  obtain ⟨u6, u8, v6, v8, hz2, hz3, hb4⟩ := two_on x6 x8 y6 y8 hz1 HB.out hb3
  have HB2 := Lib.hid hb4
  clear hb3 hb4 HB x6 x8 y6 y8 hz1
  go_wp2_with fail
  · rename_i hlo
    have hlo' : (decP q.w).lo = 0 := by simpa using hlo
    rw [hlo'] at HF
    have k8 : ∀ o, ((((((((w2.setCell ⟨w.heap.size, 0, none⟩ (.int .i64 (0))).setCell ⟨w.heap.size, 1, none⟩ (.int .i64 (0))).setCell ⟨w.heap.size, 2, none⟩ (.int .i64 (0))).setCell ⟨w.heap.size, 3, none⟩ (.int .i64 (0))).setCell ⟨w.heap.size, 4, none⟩ (.int .i64 (0))).setCell ⟨w.heap.size, 5, none⟩ (.int .i64 (0))).setCell ⟨w.heap.size, 6, none⟩ (.int .i64 (0))).setCell ⟨w.heap.size, 7, none⟩ (.int .i64 (0))).cell? ⟨w.heap.size, o, none⟩ = (#[.int .i64 (0), .int .i64 (0), .int .i64 (0), .int .i64 (0), .int .i64 (0), .int .i64 (0), .int .i64 (0), .int .i64 (0)] : Array Value)[o]? := (blk_set (blk_set (blk_set (blk_set (blk_set (blk_set (blk_set (blk_set u6 0 (by simp) (.int .i64 (0))) 1 (by simp) (.int .i64 (0))) 2 (by simp) (.int .i64 (0))) 3 (by simp) (.int .i64 (0))) 4 (by simp) (.int .i64 (0))) 5 (by simp) (.int .i64 (0))) 6 (by simp) (.int .i64 (0))) 7 (by simp) (.int .i64 (0)))
    have B8 : Below w.heap.size w ((((((((w2.setCell ⟨w.heap.size, 0, none⟩ (.int .i64 (0))).setCell ⟨w.heap.size, 1, none⟩ (.int .i64 (0))).setCell ⟨w.heap.size, 2, none⟩ (.int .i64 (0))).setCell ⟨w.heap.size, 3, none⟩ (.int .i64 (0))).setCell ⟨w.heap.size, 4, none⟩ (.int .i64 (0))).setCell ⟨w.heap.size, 5, none⟩ (.int .i64 (0))).setCell ⟨w.heap.size, 6, none⟩ (.int .i64 (0))).setCell ⟨w.heap.size, 7, none⟩ (.int .i64 (0))) := ((((((((HB2.out.setCell (Nat.le_refl _) _).setCell (Nat.le_refl _) _).setCell (Nat.le_refl _) _).setCell (Nat.le_refl _) _).setCell (Nat.le_refl _) _).setCell (Nat.le_refl _) _).setCell (Nat.le_refl _) _).setCell (Nat.le_refl _) _)
    have k8 := blk_alloc k8 (by simp [World.setCell]; omega) (.cells #[.int .i64 3, .int .i64 (decP q.w).o, .int .i64 (decP q.w).d, .int .i64 (decP q.w).p, .int .i64 (decP q.w).el, .int .i64 (decP q.w).c, .bool (decP q.w).db, .int .i64 (decP q.w).pa, .int .u32 (decP q.w).sg, .int .u32 (decP q.w).lo] 77)
    have B8 := B8.alloc (by simp [World.setCell]; omega) (.cells #[.int .i64 3, .int .i64 (decP q.w).o, .int .i64 (decP q.w).d, .int .i64 (decP q.w).p, .int .i64 (decP q.w).el, .int .i64 (decP q.w).c, .bool (decP q.w).db, .int .i64 (decP q.w).pa, .int .u32 (decP q.w).sg, .int .u32 (decP q.w).lo] 77)
    generalize (((((((((w2.setCell ⟨w.heap.size, 0, none⟩ (.int .i64 (0))).setCell ⟨w.heap.size, 1, none⟩ (.int .i64 (0))).setCell ⟨w.heap.size, 2, none⟩ (.int .i64 (0))).setCell ⟨w.heap.size, 3, none⟩ (.int .i64 (0))).setCell ⟨w.heap.size, 4, none⟩ (.int .i64 (0))).setCell ⟨w.heap.size, 5, none⟩ (.int .i64 (0))).setCell ⟨w.heap.size, 6, none⟩ (.int .i64 (0))).setCell ⟨w.heap.size, 7, none⟩ (.int .i64 (0))).alloc (.cells #[.int .i64 3, .int .i64 (decP q.w).o, .int .i64 (decP q.w).d, .int .i64 (decP q.w).p, .int .i64 (decP q.w).el, .int .i64 (decP q.w).c, .bool (decP q.w).db, .int .i64 (decP q.w).pa, .int .u32 (decP q.w).sg, .int .u32 (decP q.w).lo] 77)) = V at *
    exact bodyPost_ret (v := .tuple #[.agg #[.int .i64 (0), .int .i64 (0), .int .i64 (0), .int .i64 (0), .int .i64 (0), .int .i64 (0), .int .i64 (0), .int .i64 (0)], .int .i64 6]) (by simp [results, Tryd.results44, go_sem, k8]) rfl ⟨by rw [HF.out]; rfl, B8⟩
  · rename_i hlo
    have hlo' : ¬ (decP q.w).lo = 0 := by simpa using hlo
    rw [if_neg hlo'] at HF
    have k8 : ∀ o, ((((((((w2.setCell ⟨w.heap.size, 0, none⟩ (.int .i64 (0))).setCell ⟨w.heap.size, 1, none⟩ (.int .i64 (0))).setCell ⟨w.heap.size, 2, none⟩ (.int .i64 (0))).setCell ⟨w.heap.size, 3, none⟩ (.int .i64 (0))).setCell ⟨w.heap.size, 4, none⟩ (.int .i64 (0))).setCell ⟨w.heap.size, 5, none⟩ (.int .i64 (0))).setCell ⟨w.heap.size, 6, none⟩ (.int .i64 (0))).setCell ⟨w.heap.size, 7, none⟩ (.int .i64 (0))).cell? ⟨w.heap.size, o, none⟩ = (#[.int .i64 (0), .int .i64 (0), .int .i64 (0), .int .i64 (0), .int .i64 (0), .int .i64 (0), .int .i64 (0), .int .i64 (0)] : Array Value)[o]? := (blk_set (blk_set (blk_set (blk_set (blk_set (blk_set (blk_set (blk_set u6 0 (by simp) (.int .i64 (0))) 1 (by simp) (.int .i64 (0))) 2 (by simp) (.int .i64 (0))) 3 (by simp) (.int .i64 (0))) 4 (by simp) (.int .i64 (0))) 5 (by simp) (.int .i64 (0))) 6 (by simp) (.int .i64 (0))) 7 (by simp) (.int .i64 (0)))
    have B8 : Below w.heap.size w ((((((((w2.setCell ⟨w.heap.size, 0, none⟩ (.int .i64 (0))).setCell ⟨w.heap.size, 1, none⟩ (.int .i64 (0))).setCell ⟨w.heap.size, 2, none⟩ (.int .i64 (0))).setCell ⟨w.heap.size, 3, none⟩ (.int .i64 (0))).setCell ⟨w.heap.size, 4, none⟩ (.int .i64 (0))).setCell ⟨w.heap.size, 5, none⟩ (.int .i64 (0))).setCell ⟨w.heap.size, 6, none⟩ (.int .i64 (0))).setCell ⟨w.heap.size, 7, none⟩ (.int .i64 (0))) := ((((((((HB2.out.setCell (Nat.le_refl _) _).setCell (Nat.le_refl _) _).setCell (Nat.le_refl _) _).setCell (Nat.le_refl _) _).setCell (Nat.le_refl _) _).setCell (Nat.le_refl _) _).setCell (Nat.le_refl _) _).setCell (Nat.le_refl _) _)
    have k8 := blk_alloc k8 (by simp [World.setCell]; omega) (.cells #[.int .i64 3, .int .i64 (decP q.w).o, .int .i64 (decP q.w).d, .int .i64 (decP q.w).p, .int .i64 (decP q.w).el, .int .i64 (decP q.w).c, .bool (decP q.w).db, .int .i64 (decP q.w).pa, .int .u32 (decP q.w).sg, .int .u32 (decP q.w).lo] 77)
    have B8 := B8.alloc (by simp [World.setCell]; omega) (.cells #[.int .i64 3, .int .i64 (decP q.w).o, .int .i64 (decP q.w).d, .int .i64 (decP q.w).p, .int .i64 (decP q.w).el, .int .i64 (decP q.w).c, .bool (decP q.w).db, .int .i64 (decP q.w).pa, .int .u32 (decP q.w).sg, .int .u32 (decP q.w).lo] 77)
    generalize (((((((((w2.setCell ⟨w.heap.size, 0, none⟩ (.int .i64 (0))).setCell ⟨w.heap.size, 1, none⟩ (.int .i64 (0))).setCell ⟨w.heap.size, 2, none⟩ (.int .i64 (0))).setCell ⟨w.heap.size, 3, none⟩ (.int .i64 (0))).setCell ⟨w.heap.size, 4, none⟩ (.int .i64 (0))).setCell ⟨w.heap.size, 5, none⟩ (.int .i64 (0))).setCell ⟨w.heap.size, 6, none⟩ (.int .i64 (0))).setCell ⟨w.heap.size, 7, none⟩ (.int .i64 (0))).alloc (.cells #[.int .i64 3, .int .i64 (decP q.w).o, .int .i64 (decP q.w).d, .int .i64 (decP q.w).p, .int .i64 (decP q.w).el, .int .i64 (decP q.w).c, .bool (decP q.w).db, .int .i64 (decP q.w).pa, .int .u32 (decP q.w).sg, .int .u32 (decP q.w).lo] 77)) = V at *
    exact bodyPost_ret (v := .tuple #[.agg #[.int .i64 (0), .int .i64 (0), .int .i64 (0), .int .i64 (0), .int .i64 (0), .int .i64 (0), .int .i64 (0), .int .i64 (0)], .int .i64 4]) (by simp [results, Tryd.results44, go_sem, k8]) rfl ⟨by rw [HF.out]; rfl, B8⟩

end Go.Proofs.YtcmljjhnfpfcfaaDoor
