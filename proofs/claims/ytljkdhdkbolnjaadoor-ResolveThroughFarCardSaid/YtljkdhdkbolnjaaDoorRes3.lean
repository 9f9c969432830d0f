/- What the function literals of package resolve do (by the code at 5978601). -/
import Derived.Test.YtljkdhdkbolnjaaDoorRes2
import Derived.BigQuiet
import Derived.Laws.EntriesVeiled
namespace Go.Proofs.YtljkdhdkbolnjaaDoor
open Go.ChangeShapes Go.WideShapes Go.ChangeAt Go.RowKit
set_option linter.unusedVariables false
set_option linter.unusedSimpArgs false

set_option maxRecDepth 100000 in
set_option maxHeartbeats 1000000 in
theorem case0_any (A : Option Addr) (c : Nat) (ls : List (List Int)) (k o d p el cc pa pg lo s t : Int) (db : Bool) (w : World) (hT : TabOK w) (d0 : 0 ≤ d) (d1 : d ≤ 65535) (p0 : 0 ≤ p) (p1 : p ≤ 65535) (hs : Sg w A ls) (hw : Wd2 ls) (hm : ls.length ≤ 140737488355328) (hf : ∀ j, (seg ls j).length ≤ 140737488355328) (hs0 : -9223372036854775808 ≤ s) (hs1 : s ≤ 9223372036854775807) (ht0 : -9223372036854775808 ≤ t) (ht1 : t ≤ 9223372036854775807) :
    Calls Tryd.prog 29 #[.agg #[.slice A ls.length c, .int .i64 k, .int .i64 o, .int .i64 d, .int .i64 p, .int .i64 el, .int .i64 cc, .bool db, .int .i64 pa, .int .u32 pg, .int .u32 lo, .int .i64 s, .int .i64 t]] w fun e w' => e = .returned (.tuple #[.agg #[.int .i64 (strR ls d p s t).1.k, .int .i64 (strR ls d p s t).1.sg, .int .i64 (strR ls d p s t).1.at', .int .i64 (strR ls d p s t).1.d, .int .i64 (strR ls d p s t).1.p, .int .i64 (strR ls d p s t).1.el, .int .i64 (strR ls d p s t).1.n, .int .i64 (strR ls d p s t).1.cost], .int .i64 (strR ls d p s t).2]) ∧ Below w.heap.size w w' := by
  have Hs := Lib.hid hs
  have HT := Lib.hid hT
  have HH := Lib.hid (fun w2 (hT2 : TabOK w2) hs2 => structure_any A c ls k o d p el cc pa pg lo s t db w2 d0 d1 p0 p1 hs2 hm hs0 hs1 ht0 ht1)
  clear hs hT hw hf
  generalize strR ls d p s t = r at *
  go_enter Tryd.func29, Tryd.ntmps29
  go_wp2_with fail
  refine (HH.out _ ((HT.out.alloc _).alloc _) ((Hs.out.alloc _).alloc _)).mono ?_
  rintro e w1 ⟨rfl, hb⟩
  have BO := (Blk.fresh (w.alloc (.cells #[.slice A ls.length c, .int .i64 k, .int .i64 o, .int .i64 d, .int .i64 p, .int .i64 el, .int .i64 cc, .bool db, .int .i64 pa, .int .u32 pg, .int .u32 lo, .int .i64 s, .int .i64 t] 55)) #[.int .i64 0, .int .i64 0, .int .i64 0, .int .i64 0, .int .i64 0, .int .i64 0, .int .i64 0, .int .i64 0] 27).below hb
  rw [World.size_alloc] at BO
  have HB : Hid (Below w.heap.size w w1) := Lib.hid ((((Below.refl _ _).alloc (Nat.le_refl _) _).alloc (by simp) _).trans (hb.mono (by simp; omega)))
  clear hb HH
  have HO := Lib.hid BO
  obtain ⟨xo, yo, zo⟩ := BO
  go_wp2_with fail
  refine abs_post (F := fun W => Blk W (w.heap.size + 1) #[.int .i64 r.1.k, .int .i64 r.1.sg, .int .i64 r.1.at', .int .i64 r.1.d, .int .i64 r.1.p, .int .i64 r.1.el, .int .i64 r.1.n, .int .i64 r.1.cost] ∧ Below w.heap.size w W) ⟨?_, ?_⟩ ?_
  · exact ((((((((HO.out.set 0 (by simp) _).set 1 (by simp) _).set 2 (by simp) _).set 3 (by simp) _).set 4 (by simp) _).set 5 (by simp) _).set 6 (by simp) _).set 7 (by simp) _)
  · repeat (with_reducible first | exact HB.out | refine bel_drewN ?_ _ | refine bel_drew ?_ | refine Below.alloc ?_ (by have := HB.out.size; simp [World.setCell]; omega) _ | refine Below.setCell ?_ (by first | (simp; done) | (simp; omega)) _)
  rintro V ⟨B6, hbv⟩
  exact bodyPost_ret (v := .tuple #[.agg #[.int .i64 r.1.k, .int .i64 r.1.sg, .int .i64 r.1.at', .int .i64 r.1.d, .int .i64 r.1.p, .int .i64 r.1.el, .int .i64 r.1.n, .int .i64 r.1.cost], .int .i64 r.2]) (by simp [results, Tryd.results29, go_sem, B6.cell]) rfl ⟨rfl, hbv⟩

set_option maxRecDepth 100000 in
set_option maxHeartbeats 1000000 in
theorem case1c_any (A : Option Addr) (c : Nat) (ls : List (List Int)) (k o d p el cc pa pg lo s t : Int) (db : Bool) (w : World) (hT : TabOK w) (h7 : el = 7) (c0 : 0 ≤ cc) (c1 : cc ≤ 536870911) (hs : Sg w A ls) (hw : Wd2 ls) (hm : ls.length ≤ 140737488355328) (hf : ∀ j, (seg ls j).length ≤ 140737488355328) (hs0 : -9223372036854775808 ≤ s) (hs1 : s ≤ 9223372036854775807) (ht0 : -9223372036854775808 ≤ t) (ht1 : t ≤ 9223372036854775807) :
    Calls Tryd.prog 31 #[.agg #[.slice A ls.length c, .int .i64 k, .int .i64 o, .int .i64 d, .int .i64 p, .int .i64 el, .int .i64 cc, .bool db, .int .i64 pa, .int .u32 pg, .int .u32 lo, .int .i64 s, .int .i64 t]] w fun e w' => e = .returned (.tuple #[.agg #[.int .i64 (cmpR ls cc s t).1.k, .int .i64 (cmpR ls cc s t).1.sg, .int .i64 (cmpR ls cc s t).1.at', .int .i64 (cmpR ls cc s t).1.d, .int .i64 (cmpR ls cc s t).1.p, .int .i64 (cmpR ls cc s t).1.el, .int .i64 (cmpR ls cc s t).1.n, .int .i64 (cmpR ls cc s t).1.cost], .int .i64 (cmpR ls cc s t).2]) ∧ Below w.heap.size w w' := by
  have Hs := Lib.hid hs
  have HT := Lib.hid hT
  have HH := Lib.hid (fun w2 (hT2 : TabOK w2) hs2 => composite_any A c ls k o d p el cc pa pg lo s t db w2 hT2 c0 c1 hs2 hw hm hf hs0 hs1 ht0 ht1)
  clear hs hT hw hf
  have t7 : (el == 7) = true := by simpa using h7
  clear h7
  generalize cmpR ls cc s t = r at *
  go_enter Tryd.func31, Tryd.ntmps31
  go_wp2_with fail
  refine (HH.out _ ((HT.out.alloc _).alloc _) ((Hs.out.alloc _).alloc _)).mono ?_
  rintro e w1 ⟨rfl, hb⟩
  have BO := (Blk.fresh (w.alloc (.cells #[.slice A ls.length c, .int .i64 k, .int .i64 o, .int .i64 d, .int .i64 p, .int .i64 el, .int .i64 cc, .bool db, .int .i64 pa, .int .u32 pg, .int .u32 lo, .int .i64 s, .int .i64 t] 55)) #[.int .i64 0, .int .i64 0, .int .i64 0, .int .i64 0, .int .i64 0, .int .i64 0, .int .i64 0, .int .i64 0] 27).below hb
  rw [World.size_alloc] at BO
  have HB : Hid (Below w.heap.size w w1) := Lib.hid ((((Below.refl _ _).alloc (Nat.le_refl _) _).alloc (by simp) _).trans (hb.mono (by simp; omega)))
  clear hb HH
  have HO := Lib.hid BO
  obtain ⟨xo, yo, zo⟩ := BO
  go_wp2_with fail
  refine abs_post (F := fun W => Blk W (w.heap.size + 1) #[.int .i64 r.1.k, .int .i64 r.1.sg, .int .i64 r.1.at', .int .i64 r.1.d, .int .i64 r.1.p, .int .i64 r.1.el, .int .i64 r.1.n, .int .i64 r.1.cost] ∧ Below w.heap.size w W) ⟨?_, ?_⟩ ?_
  · exact ((((((((HO.out.set 0 (by simp) _).set 1 (by simp) _).set 2 (by simp) _).set 3 (by simp) _).set 4 (by simp) _).set 5 (by simp) _).set 6 (by simp) _).set 7 (by simp) _)
  · repeat (with_reducible first | exact HB.out | refine bel_drewN ?_ _ | refine bel_drew ?_ | refine Below.alloc ?_ (by have := HB.out.size; simp [World.setCell]; omega) _ | refine Below.setCell ?_ (by first | (simp; done) | (simp; omega)) _)
  rintro V ⟨B6, hbv⟩
  exact bodyPost_ret (v := .tuple #[.agg #[.int .i64 r.1.k, .int .i64 r.1.sg, .int .i64 r.1.at', .int .i64 r.1.d, .int .i64 r.1.p, .int .i64 r.1.el, .int .i64 r.1.n, .int .i64 r.1.cost], .int .i64 r.2]) (by simp [results, Tryd.results31, go_sem, B6.cell]) rfl ⟨rfl, hbv⟩

set_option maxRecDepth 100000 in
set_option maxHeartbeats 1000000 in
theorem case1l_any (A : Option Addr) (c : Nat) (ls : List (List Int)) (k o d p el cc pa pg lo s t : Int) (db : Bool) (w : World) (hT : TabOK w) (h7 : ¬ el = 7) (e0 : 0 ≤ el) (e7 : el ≤ 7) (c0 : 0 ≤ cc) (c1 : cc ≤ 536870911) (hs : Sg w A ls) (hw : Wd2 ls) (hm : ls.length ≤ 140737488355328) (hf : ∀ j, (seg ls j).length ≤ 140737488355328) (hs0 : -9223372036854775808 ≤ s) (hs1 : s ≤ 9223372036854775807) (ht0 : -9223372036854775808 ≤ t) (ht1 : t ≤ 9223372036854775807) :
    Calls Tryd.prog 31 #[.agg #[.slice A ls.length c, .int .i64 k, .int .i64 o, .int .i64 d, .int .i64 p, .int .i64 el, .int .i64 cc, .bool db, .int .i64 pa, .int .u32 pg, .int .u32 lo, .int .i64 s, .int .i64 t]] w fun e w' => e = .returned (.tuple #[.agg #[.int .i64 (lstR ls el cc s t).1.k, .int .i64 (lstR ls el cc s t).1.sg, .int .i64 (lstR ls el cc s t).1.at', .int .i64 (lstR ls el cc s t).1.d, .int .i64 (lstR ls el cc s t).1.p, .int .i64 (lstR ls el cc s t).1.el, .int .i64 (lstR ls el cc s t).1.n, .int .i64 (lstR ls el cc s t).1.cost], .int .i64 (lstR ls el cc s t).2]) ∧ Below w.heap.size w w' := by
  have Hs := Lib.hid hs
  have HT := Lib.hid hT
  have HH := Lib.hid (fun w2 (hT2 : TabOK w2) hs2 => list_any A c ls k o d p el cc pa pg lo s t db w2 hT2 e0 e7 c0 c1 hs2 hm hs0 hs1 ht0 ht1)
  clear hs hT hw hf
  have t7 : (el == 7) = false := by simpa using h7
  clear h7
  generalize lstR ls el cc s t = r at *
  go_enter Tryd.func31, Tryd.ntmps31
  go_wp2_with fail
  refine (HH.out _ ((HT.out.alloc _).alloc _) ((Hs.out.alloc _).alloc _)).mono ?_
  rintro e w1 ⟨rfl, hb⟩
  have BO := (Blk.fresh (w.alloc (.cells #[.slice A ls.length c, .int .i64 k, .int .i64 o, .int .i64 d, .int .i64 p, .int .i64 el, .int .i64 cc, .bool db, .int .i64 pa, .int .u32 pg, .int .u32 lo, .int .i64 s, .int .i64 t] 55)) #[.int .i64 0, .int .i64 0, .int .i64 0, .int .i64 0, .int .i64 0, .int .i64 0, .int .i64 0, .int .i64 0] 27).below hb
  rw [World.size_alloc] at BO
  have HB : Hid (Below w.heap.size w w1) := Lib.hid ((((Below.refl _ _).alloc (Nat.le_refl _) _).alloc (by simp) _).trans (hb.mono (by simp; omega)))
  clear hb HH
  have HO := Lib.hid BO
  obtain ⟨xo, yo, zo⟩ := BO
  go_wp2_with fail
  refine abs_post (F := fun W => Blk W (w.heap.size + 1) #[.int .i64 r.1.k, .int .i64 r.1.sg, .int .i64 r.1.at', .int .i64 r.1.d, .int .i64 r.1.p, .int .i64 r.1.el, .int .i64 r.1.n, .int .i64 r.1.cost] ∧ Below w.heap.size w W) ⟨?_, ?_⟩ ?_
  · exact ((((((((HO.out.set 0 (by simp) _).set 1 (by simp) _).set 2 (by simp) _).set 3 (by simp) _).set 4 (by simp) _).set 5 (by simp) _).set 6 (by simp) _).set 7 (by simp) _)
  · repeat (with_reducible first | exact HB.out | refine bel_drewN ?_ _ | refine bel_drew ?_ | refine Below.alloc ?_ (by have := HB.out.size; simp [World.setCell]; omega) _ | refine Below.setCell ?_ (by first | (simp; done) | (simp; omega)) _)
  rintro V ⟨B6, hbv⟩
  exact bodyPost_ret (v := .tuple #[.agg #[.int .i64 r.1.k, .int .i64 r.1.sg, .int .i64 r.1.at', .int .i64 r.1.d, .int .i64 r.1.p, .int .i64 r.1.el, .int .i64 r.1.n, .int .i64 r.1.cost], .int .i64 r.2]) (by simp [results, Tryd.results31, go_sem, B6.cell]) rfl ⟨rfl, hbv⟩

def othR (lo : Int) : Ob × Int := (ob0, if lo = 0 then 6 else 4)
set_option maxRecDepth 100000 in
set_option maxHeartbeats 1000000 in
theorem case3_any (A : Option Addr) (c : Nat) (ls : List (List Int)) (k o d p el cc pa pg lo s t : Int) (db : Bool) (w : World) (hk : k = 3) :
    Calls Tryd.prog 34 #[.agg #[.slice A ls.length c, .int .i64 k, .int .i64 o, .int .i64 d, .int .i64 p, .int .i64 el, .int .i64 cc, .bool db, .int .i64 pa, .int .u32 pg, .int .u32 lo, .int .i64 s, .int .i64 t]] w fun e w' => e = .returned (.tuple #[.agg #[.int .i64 (othR lo).1.k, .int .i64 (othR lo).1.sg, .int .i64 (othR lo).1.at', .int .i64 (othR lo).1.d, .int .i64 (othR lo).1.p, .int .i64 (othR lo).1.el, .int .i64 (othR lo).1.n, .int .i64 (othR lo).1.cost], .int .i64 (othR lo).2]) ∧ Below w.heap.size w w' := by
  by_cases hl : lo = 0
  · have HR : Hid (othR lo = (ob0, 6)) := Lib.hid (by unfold othR; rw [if_pos hl])
    have tl : (k == 3 && lo == 0) = true := by simp [hk, hl]
    clear hl hk
    go_enter Tryd.func34, Tryd.ntmps34
    go_wp2_with fail
    refine (IsCapability_any _ _ _ _ _ _ _ _ _ _ _).mono ?_
    rintro e w1 ⟨rfl, hb⟩
    rw [tl]
    clear tl
    have BO := (Blk.fresh (w.alloc (.cells #[.slice A ls.length c, .int .i64 k, .int .i64 o, .int .i64 d, .int .i64 p, .int .i64 el, .int .i64 cc, .bool db, .int .i64 pa, .int .u32 pg, .int .u32 lo, .int .i64 s, .int .i64 t] 55)) #[.int .i64 0, .int .i64 0, .int .i64 0, .int .i64 0, .int .i64 0, .int .i64 0, .int .i64 0, .int .i64 0] 27).below hb
    rw [World.size_alloc] at BO
    have HB : Hid (Below w.heap.size w w1) := Lib.hid ((((Below.refl _ _).alloc (Nat.le_refl _) _).alloc (by simp) _).trans (hb.mono (by simp; omega)))
    clear hb
    have HO := Lib.hid BO
    obtain ⟨xo, yo, zo⟩ := BO
    go_wp2_with fail
    refine abs_post (F := fun W => Blk W (w.heap.size + 1) #[.int .i64 0, .int .i64 0, .int .i64 0, .int .i64 0, .int .i64 0, .int .i64 0, .int .i64 0, .int .i64 0] ∧ Below w.heap.size w W) ⟨?_, ?_⟩ ?_
    · exact ((((((((HO.out.set 0 (by simp) _).set 1 (by simp) _).set 2 (by simp) _).set 3 (by simp) _).set 4 (by simp) _).set 5 (by simp) _).set 6 (by simp) _).set 7 (by simp) _)
    · repeat (with_reducible first | exact HB.out | refine bel_drewN ?_ _ | refine bel_drew ?_ | refine Below.alloc ?_ (by have := HB.out.size; simp [World.setCell]; omega) _ | refine Below.setCell ?_ (by first | (simp; done) | (simp; omega)) _)
    rintro V ⟨B6, hbv⟩
    exact bodyPost_ret (v := .tuple #[.agg #[.int .i64 0, .int .i64 0, .int .i64 0, .int .i64 0, .int .i64 0, .int .i64 0, .int .i64 0, .int .i64 0], .int .i64 6]) (by simp [results, Tryd.results34, go_sem, B6.cell]) rfl ⟨by rw [HR.out]; try rfl, hbv⟩
  · have HR : Hid (othR lo = (ob0, 4)) := Lib.hid (by unfold othR; rw [if_neg hl])
    have tl : (k == 3 && lo == 0) = false := by simp [hk, hl]
    clear hl hk
    go_enter Tryd.func34, Tryd.ntmps34
    go_wp2_with fail
    refine (IsCapability_any _ _ _ _ _ _ _ _ _ _ _).mono ?_
    rintro e w1 ⟨rfl, hb⟩
    rw [tl]
    clear tl
    have BO := (Blk.fresh (w.alloc (.cells #[.slice A ls.length c, .int .i64 k, .int .i64 o, .int .i64 d, .int .i64 p, .int .i64 el, .int .i64 cc, .bool db, .int .i64 pa, .int .u32 pg, .int .u32 lo, .int .i64 s, .int .i64 t] 55)) #[.int .i64 0, .int .i64 0, .int .i64 0, .int .i64 0, .int .i64 0, .int .i64 0, .int .i64 0, .int .i64 0] 27).below hb
    rw [World.size_alloc] at BO
    have HB : Hid (Below w.heap.size w w1) := Lib.hid ((((Below.refl _ _).alloc (Nat.le_refl _) _).alloc (by simp) _).trans (hb.mono (by simp; omega)))
    clear hb
    have HO := Lib.hid BO
    obtain ⟨xo, yo, zo⟩ := BO
    go_wp2_with fail
    refine abs_post (F := fun W => Blk W (w.heap.size + 1) #[.int .i64 0, .int .i64 0, .int .i64 0, .int .i64 0, .int .i64 0, .int .i64 0, .int .i64 0, .int .i64 0] ∧ Below w.heap.size w W) ⟨?_, ?_⟩ ?_
    · exact ((((((((HO.out.set 0 (by simp) _).set 1 (by simp) _).set 2 (by simp) _).set 3 (by simp) _).set 4 (by simp) _).set 5 (by simp) _).set 6 (by simp) _).set 7 (by simp) _)
    · repeat (with_reducible first | exact HB.out | refine bel_drewN ?_ _ | refine bel_drew ?_ | refine Below.alloc ?_ (by have := HB.out.size; simp [World.setCell]; omega) _ | refine Below.setCell ?_ (by first | (simp; done) | (simp; omega)) _)
    rintro V ⟨B6, hbv⟩
    exact bodyPost_ret (v := .tuple #[.agg #[.int .i64 0, .int .i64 0, .int .i64 0, .int .i64 0, .int .i64 0, .int .i64 0, .int .i64 0, .int .i64 0], .int .i64 4]) (by simp [results, Tryd.results34, go_sem, B6.cell]) rfl ⟨by rw [HR.out]; try rfl, hbv⟩

/-- the array of function literals -/
def casesV : Value := .agg #[.func (.func 29) #[] #[], .func (.func 31) #[] #[], .nilFunc, .func (.func 34) #[] #[]]
theorem cases_any (w : World) : Calls Tryd.prog 21 #[] w fun e w' => e = .returned casesV ∧ Below w.heap.size w w' := by
  go_enter Tryd.func21, Tryd.ntmps21
  go_wp2
  refine bodyPost_ret (v := casesV) (by simp [results, Tryd.results21, go_sem, casesV]) rfl ⟨rfl, ?_⟩
  repeat (with_reducible first | exact Below.refl _ _ | refine Below.alloc ?_ (by first | exact Nat.le_refl _ | (simp [World.setCell]; omega)) _ | refine Below.setCell ?_ (by first | (simp; done) | (simp; omega)) _)

end Go.Proofs.YtljkdhdkbolnjaaDoor
