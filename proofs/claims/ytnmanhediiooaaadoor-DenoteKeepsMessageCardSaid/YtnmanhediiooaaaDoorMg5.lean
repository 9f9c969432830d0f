/- The texts DenH, MsgLit, DenI, DenJ, DenK, DenL, DenP, Ref10b, Ref11c, MsgMix, MsgSet, FrameNum, Ref04 (what is wanted of them), one after the other. -/
import Derived.Test.YtnmanhediiooaaaDoorMg4
import Derived.Recover
import Derived.StillTailTactics
/- Package denote: an error is caught. -/
namespace Go.Proofs.YtnmanhediiooaaaDoor
open Go.ChangeShapes Go.WideShapes Go.ChangeAt Go.RowKit
set_option linter.unusedVariables false
set_option linter.unusedSimpArgs false
set_option maxRecDepth 100000
attribute [local simp] AllK KnowsV look Is

set_option maxHeartbeats 4000000 in
theorem caughtD_idle (p : Addr) (w : World) :
    CallsD Tryd.prog 34 #[.pointer (some p)] .returning w fun e u' w' => e = .returned (.tuple #[]) ∧ u' = .returning ∧ w' = w := by
  refine callsD_of_wpS Tryd.func34 rfl fun c₀ cs hu => ?_
  apply wpS_seq
  apply wpS_region
  simp [wpOpsS, go_sem, recoverD, hu, Tryd.ntmps34, Exit.thenS]
  apply wpS_of_wp
  go_wp2
  cases c₀
  simp_all [bodyPostS, results, Tryd.results34]

theorem assertD (v : Value) (w : World) : (Instr.typeAssert (.iface 70 v) 20 70 true).run Tryd.prog w = .ok (.tuple #[v, .bool true]) w := by kernel_rfl

set_option maxHeartbeats 4000000 in
theorem caughtD_mal (p : Nat) (er : Int) (x : Value) (older : List PanicEntry) (w : World) (hp : w.cell? ⟨p, 0, none⟩ = some x) (hpz : w.frozen? ⟨p, 0, none⟩ = false) :
    CallsD Tryd.prog 34 #[.pointer (some ⟨p, 0, none⟩)] (.panicking ({ v := .iface 70 (.agg #[.int .i64 er]), recovered := false } :: older)) w fun e u' w' =>
      e = .returned (.tuple #[]) ∧ u' = .panicking ({ v := .iface 70 (.agg #[.int .i64 er]), recovered := true } :: older) ∧ w' = (w.setCell ⟨p, 0, none⟩ (.int .i64 er)).alloc (.cells #[.int .i64 er] 70) := by
  have hta := assertD
  have hpl : p < w.heap.size := World.block_lt_of_cell? w ⟨p, 0, none⟩ hp
  have hb : Below w.heap.size w (w.alloc (.cells #[.int .i64 er] 70)) := (Below.refl _ _).alloc (Nat.le_refl _) _
  have h1 : (w.alloc (.cells #[.int .i64 er] 70)).cell? ⟨p, 0, none⟩ = some x := (hb.cell (p := ⟨p, 0, none⟩) hpl).trans hp
  have h2 : (w.alloc (.cells #[.int .i64 er] 70)).frozen? ⟨p, 0, none⟩ = false := (hb.frozen (p := ⟨p, 0, none⟩) hpl).trans hpz
  clear hb
  refine callsD_of_wpS Tryd.func34 rfl fun c₀ cs hu => ?_
  apply wpS_seq
  apply wpS_region
  simp [wpOpsS, go_sem, recoverD, hu, Tryd.ntmps34, Exit.thenS]
  change Code.wpS Tryd.prog _ _ { tmps := #[.pointer (some ⟨p, 0, none⟩), .iface 70 (.agg #[.int .i64 er]), undef, undef, .iface 70 (.agg #[.int .i64 er]), undef, undef, undef, undef, undef, undef, undef, undef, undef, undef, undef, undef], defers := [] } _ _
  apply wpS_of_wp
  go_wp2
  cases c₀
  simp [bodyPostS, results, Tryd.results34]

set_option maxHeartbeats 1000000 in
theorem attempt_msg (nb : Nat) (caps : Array Value) (er : Int) (PO : World → Prop) (w : World) (hnb : nb < w.heap.size) (hP1 : ∀ W o, PO W → PO (W.alloc o)) (hP2 : ∀ W v, PO W → PO (W.setCell ⟨w.heap.size, 0, none⟩ v))
    (HR : Hid (Calls Tryd.prog 20 caps (w.alloc (.cells #[.int .i64 0] 31)) fun e w' => Keeps (KB nb) (w.alloc (.cells #[.int .i64 0] 31)) w' ∧ PO w' ∧ ((er = 0 ∧ e = .returned (.tuple #[])) ∨ (er ≠ 0 ∧ e = failE er)))) :
    Calls Tryd.prog 19 #[.func (.func 20) #[] caps] w fun e w' => e = .returned (.int .i64 er) ∧ Keeps (KB nb) w w' ∧ PO w' := by
  have hmf : ∀ (fn : Fn) (first cap : Array Value) (w : World), (Instr.makeFunc fn first cap).run Tryd.prog w = .ok (.func fn first cap) w := fun _ _ _ _ => rfl
  have HK1 : Hid (Keeps (KB nb) w (w.alloc (.cells #[.int .i64 0] 31))) := Lib.hid (keeps_alloc (Keeps.refl _ _) _)
  have HB1 : Hid (Blk (w.alloc (.cells #[.int .i64 0] 31)) w.heap.size #[.int .i64 0]) := Lib.hid (Blk.fresh _ _ _)
  have HNP : Hid (¬ KB nb w.heap.size) := Lib.hid (by unfold KB; omega)
  have HP1 := Lib.hid hP1
  have HP2 := Lib.hid hP2
  clear hnb hP1 hP2
  go_enter_defers Tryd.func19, Tryd.ntmps19
  go_wp2_with fail
  refine HR.out.mono ?_
  rintro e w2 ⟨hk2, hpo, ⟨he, rfl⟩ | ⟨he, rfl⟩⟩
  · obtain ⟨x2, y2, z2⟩ := HB1.out.keeps hk2 HNP.out
    have c2 := x2 0
    have f2 := y2 0
    have HK2 := Lib.hid (HK1.out.trans hk2)
    have HPO := Lib.hid hpo
    clear hk2 hpo HR HB1 x2 y2 z2
    go_wp2
    refine leaves_cons (f := 34) (args := #[.pointer (some ⟨w.heap.size, 0, none⟩)]) (by simp) (by simp [go_sem]) ?_
    refine (caughtD_idle _ _).mono ?_
    rintro e u' w'' ⟨rfl, rfl, rfl⟩
    have k1 : (w2.setCell ⟨w.heap.size, 0, none⟩ (.int .i64 0)).cell? ⟨w.heap.size, 0, none⟩ = some (.int .i64 0) := World.cell?_setCell_same' _ _ _ (by rw [c2]; rfl)
    have HF : Hid (Keeps (KB nb) w (w2.setCell ⟨w.heap.size, 0, none⟩ (.int .i64 0)) ∧ PO (w2.setCell ⟨w.heap.size, 0, none⟩ (.int .i64 0))) := Lib.hid ⟨keeps_set HK2.out (.inr (Nat.le_refl _)) _, HP2.out _ _ HPO.out⟩
    clear c2 f2 HK2 HPO HK1
    generalize w2.setCell ⟨w.heap.size, 0, none⟩ (.int .i64 0) = V at *
    simp [Leaves, settle, results, Tryd.results19, go_sem, k1]
    exact ⟨he.symm, HF.out.1, HF.out.2⟩
  · obtain ⟨x2, y2, z2⟩ := HB1.out.keeps hk2 HNP.out
    have c2 := x2 0
    have f2 := y2 0
    have HK2 := Lib.hid (HK1.out.trans hk2)
    have HPO := Lib.hid hpo
    clear hk2 hpo HR HB1 x2 y2 z2
    unfold failE
    go_wp2
    refine leaves_cons (f := 34) (args := #[.pointer (some ⟨w.heap.size, 0, none⟩)]) (by simp) (by simp [go_sem]) ?_
    refine (caughtD_mal w.heap.size er _ [] w2 c2 f2).mono ?_
    rintro e u' w'' ⟨rfl, rfl, rfl⟩
    have d1 : (w2.setCell ⟨w.heap.size, 0, none⟩ (.int .i64 er)).cell? ⟨w.heap.size, 0, none⟩ = some (.int .i64 er) := World.cell?_setCell_same' _ _ _ (by rw [c2]; rfl)
    have HF : Hid (Keeps (KB nb) w ((w2.setCell ⟨w.heap.size, 0, none⟩ (.int .i64 er)).alloc (.cells #[.int .i64 er] 70)) ∧ PO ((w2.setCell ⟨w.heap.size, 0, none⟩ (.int .i64 er)).alloc (.cells #[.int .i64 er] 70))) := Lib.hid ⟨keeps_alloc (keeps_set HK2.out (.inr (Nat.le_refl _)) _) _, HP1.out _ _ (HP2.out _ _ HPO.out)⟩
    clear c2 f2 HK2 HPO HK1
    generalize w2.setCell ⟨w.heap.size, 0, none⟩ (.int .i64 er) = U at *
    have k1 : (U.alloc (.cells #[.int .i64 er] 70)).cell? ⟨w.heap.size, 0, none⟩ = some (.int .i64 er) := (((Below.refl U.heap.size U).alloc (Nat.le_refl _) (.cells #[.int .i64 er] 70)).cell (p := ⟨w.heap.size, 0, none⟩) (World.block_lt_of_cell? U ⟨w.heap.size, 0, none⟩ d1)).trans d1
    clear d1
    generalize U.alloc (.cells #[.int .i64 er] 70) = V at *
    simp [Leaves, settle, results, Tryd.results19, go_sem, k1]
    exact ⟨HF.out.1, HF.out.2⟩

set_option maxHeartbeats 1000000 in
theorem attempt_meas (nb : Nat) (caps : Array Value) (er : Int) (PO : World → Prop) (w : World) (hnb : nb < w.heap.size) (hP1 : ∀ W o, PO W → PO (W.alloc o)) (hP2 : ∀ W v, PO W → PO (W.setCell ⟨w.heap.size, 0, none⟩ v))
    (HR : Hid (Calls Tryd.prog 24 caps (w.alloc (.cells #[.int .i64 0] 31)) fun e w' => Keeps (KB nb) (w.alloc (.cells #[.int .i64 0] 31)) w' ∧ PO w' ∧ ((er = 0 ∧ e = .returned (.tuple #[])) ∨ (er ≠ 0 ∧ e = failE er)))) :
    Calls Tryd.prog 19 #[.func (.func 24) #[] caps] w fun e w' => e = .returned (.int .i64 er) ∧ Keeps (KB nb) w w' ∧ PO w' := by
  have hmf : ∀ (fn : Fn) (first cap : Array Value) (w : World), (Instr.makeFunc fn first cap).run Tryd.prog w = .ok (.func fn first cap) w := fun _ _ _ _ => rfl
  have HK1 : Hid (Keeps (KB nb) w (w.alloc (.cells #[.int .i64 0] 31))) := Lib.hid (keeps_alloc (Keeps.refl _ _) _)
  have HB1 : Hid (Blk (w.alloc (.cells #[.int .i64 0] 31)) w.heap.size #[.int .i64 0]) := Lib.hid (Blk.fresh _ _ _)
  have HNP : Hid (¬ KB nb w.heap.size) := Lib.hid (by unfold KB; omega)
  have HP1 := Lib.hid hP1
  have HP2 := Lib.hid hP2
  clear hnb hP1 hP2
  go_enter_defers Tryd.func19, Tryd.ntmps19
  go_wp2_with fail
  refine HR.out.mono ?_
  rintro e w2 ⟨hk2, hpo, ⟨he, rfl⟩ | ⟨he, rfl⟩⟩
  · obtain ⟨x2, y2, z2⟩ := HB1.out.keeps hk2 HNP.out
    have c2 := x2 0
    have f2 := y2 0
    have HK2 := Lib.hid (HK1.out.trans hk2)
    have HPO := Lib.hid hpo
    clear hk2 hpo HR HB1 x2 y2 z2
    go_wp2
    refine leaves_cons (f := 34) (args := #[.pointer (some ⟨w.heap.size, 0, none⟩)]) (by simp) (by simp [go_sem]) ?_
    refine (caughtD_idle _ _).mono ?_
    rintro e u' w'' ⟨rfl, rfl, rfl⟩
    have k1 : (w2.setCell ⟨w.heap.size, 0, none⟩ (.int .i64 0)).cell? ⟨w.heap.size, 0, none⟩ = some (.int .i64 0) := World.cell?_setCell_same' _ _ _ (by rw [c2]; rfl)
    have HF : Hid (Keeps (KB nb) w (w2.setCell ⟨w.heap.size, 0, none⟩ (.int .i64 0)) ∧ PO (w2.setCell ⟨w.heap.size, 0, none⟩ (.int .i64 0))) := Lib.hid ⟨keeps_set HK2.out (.inr (Nat.le_refl _)) _, HP2.out _ _ HPO.out⟩
    clear c2 f2 HK2 HPO HK1
    generalize w2.setCell ⟨w.heap.size, 0, none⟩ (.int .i64 0) = V at *
    simp [Leaves, settle, results, Tryd.results19, go_sem, k1]
    exact ⟨he.symm, HF.out.1, HF.out.2⟩
  · obtain ⟨x2, y2, z2⟩ := HB1.out.keeps hk2 HNP.out
    have c2 := x2 0
    have f2 := y2 0
    have HK2 := Lib.hid (HK1.out.trans hk2)
    have HPO := Lib.hid hpo
    clear hk2 hpo HR HB1 x2 y2 z2
    unfold failE
    go_wp2
    refine leaves_cons (f := 34) (args := #[.pointer (some ⟨w.heap.size, 0, none⟩)]) (by simp) (by simp [go_sem]) ?_
    refine (caughtD_mal w.heap.size er _ [] w2 c2 f2).mono ?_
    rintro e u' w'' ⟨rfl, rfl, rfl⟩
    have d1 : (w2.setCell ⟨w.heap.size, 0, none⟩ (.int .i64 er)).cell? ⟨w.heap.size, 0, none⟩ = some (.int .i64 er) := World.cell?_setCell_same' _ _ _ (by rw [c2]; rfl)
    have HF : Hid (Keeps (KB nb) w ((w2.setCell ⟨w.heap.size, 0, none⟩ (.int .i64 er)).alloc (.cells #[.int .i64 er] 70)) ∧ PO ((w2.setCell ⟨w.heap.size, 0, none⟩ (.int .i64 er)).alloc (.cells #[.int .i64 er] 70))) := Lib.hid ⟨keeps_alloc (keeps_set HK2.out (.inr (Nat.le_refl _)) _) _, HP1.out _ _ (HP2.out _ _ HPO.out)⟩
    clear c2 f2 HK2 HPO HK1
    generalize w2.setCell ⟨w.heap.size, 0, none⟩ (.int .i64 er) = U at *
    have k1 : (U.alloc (.cells #[.int .i64 er] 70)).cell? ⟨w.heap.size, 0, none⟩ = some (.int .i64 er) := (((Below.refl U.heap.size U).alloc (Nat.le_refl _) (.cells #[.int .i64 er] 70)).cell (p := ⟨w.heap.size, 0, none⟩) (World.block_lt_of_cell? U ⟨w.heap.size, 0, none⟩ d1)).trans d1
    clear d1
    generalize U.alloc (.cells #[.int .i64 er] 70) = V at *
    simp [Leaves, settle, results, Tryd.results19, go_sem, k1]
    exact ⟨HF.out.1, HF.out.2⟩

end Go.Proofs.YtnmanhediiooaaaDoor

/- Messages written out in the text: a slice of new slices of words. -/
namespace Go.Proofs.YtnmanhediiooaaaDoor
open Go.RowKit
set_option linter.unusedVariables false
set_option linter.unusedSimpArgs false
set_option maxRecDepth 100000

theorem Sg.lit {w : World} (vs : List Value) (ls : List (List Int)) (T : TypeId) (h : ∀ j, j < ls.length → ∃ v, vs[j]? = some v ∧ Holds w v (seg ls j)) :
    Sg (w.alloc (.cells vs.toArray T)) (some ⟨w.heap.size, 0, none⟩) ls := by
  refine .inr ⟨w.heap.size, 0, rfl, fun j hj => ?_⟩
  obtain ⟨v, hv, hh⟩ := h j hj
  refine ⟨v, ?_, hh.below ((Below.refl _ _).alloc (Nat.le_refl _) _) (Nat.le_refl _)⟩
  rw [World.cell?_alloc_new]
  simpa using hv
theorem Holds.lit (w : World) (zs : List Int) (T : TypeId) (n : Nat) (hn : n = zs.length) (hm : n ≤ maxLen) : Holds (w.alloc (.cells (zs.map (Value.int .u64)).toArray T)) (.slice (some ⟨w.heap.size, 0, none⟩) n n) zs := by
  subst hn
  exact ⟨_, _, rfl, Ri.lit w .u64 zs T, (fun h => by cases h), Nat.le_refl _, hm⟩
theorem Holds.alloc {w : World} {v : Value} {l : List Int} (h : Holds w v l) (o : Obj) : Holds (w.alloc o) v l := h.below ((Below.refl _ _).alloc (Nat.le_refl _) o) (Nat.le_refl _)

/-- one segment, then the slice of it -/
theorem sg_lit1 (w : World) (v : Value) (z : List Int) (T : TypeId) (n : Nat) (hn : w.heap.size = n) (h : Holds w v z) : Sg (w.alloc (.cells #[v] T)) (some ⟨n, 0, none⟩) [z] := by
  subst hn
  exact Sg.lit [v] [z] T (by
    intro j hj
    match j, hj with
    | 0, _ => exact ⟨_, rfl, h⟩
    | n + 1, h => exact absurd h (by simp))
end Go.Proofs.YtnmanhediiooaaaDoor

/- Package denote: how a traversal starts. -/
namespace Go.Proofs.YtnmanhediiooaaaDoor
open Go.ChangeShapes Go.WideShapes Go.ChangeAt Go.RowKit
set_option linter.unusedVariables false
set_option linter.unusedSimpArgs false
set_option maxRecDepth 100000
attribute [local simp] AllK KnowsV look Is

/-- a message whose first segment is empty is read as one null word -/
def nulL (ls : List (List Int)) : List (List Int) := if 0 < ls.length ∧ (seg ls 0).length = 0 then [[0]] else ls
theorem valV_nul (r : Nat) (m : Int) : valV [[0]] r m 0 0 = ⟨nd0, m, 0⟩ := by
  have h : (followF [[0]] 0 0).w = 0 := by decide
  have h2 : (followF [[0]] 0 0).e = 0 := by decide
  cases r <;> (unfold valV; rw [if_pos (.inr h), h2]; rfl)
theorem msgV_nulL (ls : List (List Int)) (D X : Int) : msgV ls D X = if (valV (nulL ls) D.toNat (startI X) 0 0).e ≠ 0 then (nd0, (valV (nulL ls) D.toNat (startI X) 0 0).e) else (trimN (valV (nulL ls) D.toNat (startI X) 0 0).n, 0) := by
  unfold msgV nulL
  by_cases h : 0 < ls.length ∧ (seg ls 0).length = 0
  · rw [if_pos h, if_pos h, valV_nul, if_neg (by simp)]
    rfl
  · rw [if_neg h, if_neg h]
theorem measV_nulL (ls : List (List Int)) (D X : Int) : measV ls D X = if (valV (nulL ls) D.toNat (startI X) 0 0).e ≠ 0 then (0, (valV (nulL ls) D.toNat (startI X) 0 0).e) else (startI X - (valV (nulL ls) D.toNat (startI X) 0 0).m, 0) := by
  unfold measV nulL
  by_cases h : 0 < ls.length ∧ (seg ls 0).length = 0
  · rw [if_pos h, if_pos h, valV_nul, if_neg (by simp)]
    show (0, (0 : Int)) = (startI X - startI X, 0)
    rw [Int.sub_self]
  · rw [if_neg h, if_neg h]
theorem seg_one0 (j : Nat) : (seg [[0]] j).length ≤ 1 := by
  cases j with
  | zero => decide
  | succ j => simp [seg]
theorem ri_one0 (w : World) (n : Nat) (T : TypeId) (hn : w.heap.size = n) : Ri (w.alloc (.cells #[.int .u64 0] T)) .u64 (some ⟨n, 0, none⟩) [0] := by
  subst hn
  refine .inr ⟨_, 0, rfl, fun j hj => ?_⟩
  obtain rfl : j = 0 := by simp at hj; omega
  simp [go_sem]
  rfl
theorem wd_one0 : Wd2 [[0]] := by
  intro l hl
  simp at hl
  subst hl
  intro z hz
  simp at hz
  omega

/-- v points to a traversal that was made behind W1: its block, and the world in which it was made -/
def TrvF (lo : Nat) (cs : Array Value) (W1 : World) : Fact := fun v w => ∃ b w0, v = .pointer (some ⟨b, 0, none⟩) ∧ w0.heap.size = b ∧ Below W1.heap.size W1 w0 ∧ Below b w0 w ∧ Blk w b cs
theorem stable_trvf (lo : Nat) (cs : Array Value) (W1 : World) : stable (TrvF lo cs W1) := fun v w w' ⟨b, w0, h1, h2, h3, h4, h5⟩ hb => ⟨b, w0, h1, h2, h3, h4.trans (hb.mono (Nat.le_of_lt h5.lt)), h5.below hb⟩
theorem TrvF.new {lo : Nat} {cs : Array Value} {W1 wc : World} {T : TypeId} (hb : Below W1.drew.heap.size W1.drew wc) : TrvF lo cs W1 (.pointer (some ⟨wc.heap.size, 0, none⟩)) (wc.alloc (.cells cs T)) :=
  ⟨wc.heap.size, wc, rfl, rfl, bel_undrew hb, (Below.refl _ _).alloc (Nat.le_refl _) _, Blk.fresh _ _ _⟩

set_option maxHeartbeats 4000000 in
theorem start_any (A : Option Addr) (c : Nat) (ls : List (List Int)) (D X O : Int) (w : World) (hT : TabOK w) (hs : Sg w A ls) (hw : Wd2 ls) (hm : ls.length ≤ 40) (hf : ∀ j, (seg ls j).length ≤ 20000000) (hD : D ≤ 900) :
    Calls Tryd.prog 22 #[.slice A ls.length c, .agg #[.int .i64 D, .int .i64 X, .int .i64 O]] w fun e w' => ∃ b A2 c2 ls2 w0, e = .returned (.pointer (some ⟨b, 0, none⟩)) ∧ ls2 = nulL ls ∧ EnvD b A2 ls2 w0 ∧ Below b w0 w' ∧ Blk w' b #[.slice A2 ls2.length c2, .int .i64 D, .int .i64 X, .int .i64 O, .int .i64 (startI X)] ∧ w.heap.size ≤ b ∧ Below w.heap.size w w' := by
  have m1 : D ≤ 1000 := by omega
  have HBL := Lib.hid ((Below.refl w.heap.size w).alloc (Nat.le_refl _) (.cells #[.int .i64 D, .int .i64 X, .int .i64 O] 24))
  have HS := Lib.hid (hs.below HBL.out (Nat.le_refl _))
  by_cases hl : ls.length = 0
  · have hN : Hid (ls = nulL ls) := Lib.hid (by unfold nulL; rw [if_neg (by omega)])
    have t1 : ¬ ((0 : Int) < ls.length) := by omega
    clear hl hs
    go_enter Tryd.func22, Tryd.ntmps22
    go_wp2_with fail
    refine abs_code10 (F := fun W => Blk W w.heap.size #[.int .i64 D, .int .i64 X, .int .i64 O] ∧ Below w.heap.size w W ∧ Sg W A ls) ⟨?_, ?_, ?_⟩ ?_
    · exact Blk.fresh _ _ _
    · exact HBL.out
    · exact HS.out
    clear HBL HS t1
    rintro W1 ⟨h1, h2, h3⟩
    have HL1 := Lib.hid h1
    have HB1 := Lib.hid h2
    have HS1 := Lib.hid h3
    have HTT := Lib.hid (fun (W : World) (h : Below w.heap.size w W) => hT.on h)
    have HEQ : Hid (ls = nulL ls) := Lib.hid (hN.out)
    have HWD : Hid (Wd2 (ls) ∧ (ls).length ≤ 40 ∧ ∀ j, (seg (ls) j).length ≤ 20000000) := Lib.hid (⟨hw, hm, hf⟩)
    clear h1 h2 h3 hT hw hm hf
    generalize A = A2 at *
    refine wp_region_chain (by kernel_rfl) (by kernel_rfl) ?_
    refine chain_val (u := ?_) [0] rfl (by kernel_rfl) trivial (fun ρ wc hbc hcn hq => ?_) ?_; rotate_left
    · obtain ⟨hcn, hfn⟩ := hcn
      simp at hq
      go_simp
      rfl
    refine chain_val (u := ?_) [3] rfl (by kernel_rfl) trivial (fun ρ wc hbc hcn hq => ?_) ?_; rotate_left
    · obtain ⟨hcn, hfn⟩ := hcn
      simp at hq
      have x2 := (HL1.out.drew.below hbc).cell
      go_simp
      rfl
    refine chain_val (u := ?_) [3] rfl (by kernel_rfl) trivial (fun ρ wc hbc hcn hq => ?_) ?_; rotate_left
    · obtain ⟨hcn, hfn⟩ := hcn
      simp at hq
      have x2 := (HL1.out.drew.below hbc).cell
      go_simp
      rfl
    refine chain_call (T := Is (.agg #[.int .i64 (startI X)])) 40 [23] rfl (by kernel_rfl) trivial (stable_is _) (fun ρ wc hbc hcn hq => ?_) ?_
    · obtain ⟨hcn, hfn⟩ := hcn
      simp at hq
      refine ⟨_, by go_simp; rfl, ?_⟩
      refine (BStart_any _ _ _ _).mono ?_
      rintro e w' ⟨rfl, hbq⟩
      exact ⟨_, rfl, rfl, hbq⟩
    refine chain_val (u := ?_) [21, 22, 24] rfl (by kernel_rfl) trivial (fun ρ wc hbc hcn hq => ?_) ?_; rotate_left
    · obtain ⟨hcn, hfn⟩ := hcn
      simp at hq
      go_simp
      rfl
    refine chain_new (T := TrvF W1.heap.size #[.slice A2 ls.length c, .int .i64 D, .int .i64 X, .int .i64 O, .int .i64 (startI X)] W1) [25] rfl (by kernel_rfl) trivial (stable_trvf _ _ _) (fun ρ wc hbc hcn hq => ?_) ?_
    · obtain ⟨hcn, hfn⟩ := hcn
      simp at hq
      exact ⟨_, _, by go_simp; rfl, TrvF.new hbc, (Below.refl _ _).alloc (Nat.le_refl _) _⟩
    refine chain_new (T := TrvF W1.heap.size #[.slice A2 ls.length c, .int .i64 D, .int .i64 X, .int .i64 O, .int .i64 (startI X)] W1) [26] rfl (by kernel_rfl) trivial (stable_trvf _ _ _) (fun ρ wc hbc hcn hq => ?_) ?_
    · obtain ⟨hcn, hfn⟩ := hcn
      simp at hq
      exact ⟨_, wc, by go_simp, hq, Below.refl _ _⟩
    refine chain_end_lit 27 rfl (fun ff w5 hb5 hk => ?_)
    have h4 : TrvF W1.heap.size #[.slice A2 ls.length c, .int .i64 D, .int .i64 X, .int .i64 O, .int .i64 (startI X)] W1 (ff 4) w5 := allN_atF hk 4 (by decide) (by decide)
    simp [AllN] at hk
    simp only [frameL, hk]
    clear hk
    obtain ⟨b, w0, e4, g1, g2, g3, g4⟩ := h4
    rw [e4]
    have HF := Lib.hid (And.intro g1 (And.intro g2 (And.intro g3 g4)))
    have HB5 := Lib.hid (bel_on HB1.out (bel_undrew hb5))
    have HZ := Lib.hid (And.intro HB1.out.size g2.size)
    have HB0 := Lib.hid (bel_on HB1.out g2)
    clear g1 g2 g3 g4 e4 hb5 HL1 HB1
    go_wp2
    go_ret
    obtain ⟨g1, g2, g3, g4⟩ := HF.out
    obtain ⟨z1, z2⟩ := HZ.out
    exact ⟨b, A2, c, ls, w0, rfl, HEQ.out, ⟨HS1.out.below g2 (Nat.le_refl _), HTT.out _ HB0.out, by omega, HWD.out.1, HWD.out.2.1, HWD.out.2.2⟩, g3, g4, by omega, HB5.out⟩

  obtain ⟨b, off, A', c', rfl, hc, -, -, -, -⟩ := HS.out.one (i := 0) (by omega)
  simp only [Nat.add_zero] at hc
  have t1 : decide ((0 : Int) < ls.length) = true := decide_eq_true (by omega)
  have t0 : (0 : Int) < ls.length := by omega
  by_cases hz : (seg ls 0).length = 0
  · have hN : Hid ([[0]] = nulL ls) := Lib.hid (by unfold nulL; rw [if_pos ⟨by omega, hz⟩])
    rw [hz] at hc
    clear hl hs
    go_enter Tryd.func22, Tryd.ntmps22
    go_wp2_with fail
    refine abs_code10 (F := fun W => Blk W w.heap.size #[.int .i64 D, .int .i64 X, .int .i64 O] ∧ Below w.heap.size w W ∧ Sg W (some ⟨w.heap.size + 1 + 1, 0, none⟩) [[0]]) ⟨?_, ?_, ?_⟩ ?_
    · exact ((Blk.fresh _ _ _).alloc _).alloc _
    · exact (HBL.out.alloc (by simp) _).alloc (by simp; omega) _
    · exact sg_lit1 _ _ [0] _ _ (by simp) ⟨some ⟨w.heap.size + 1, 0, none⟩, 1, rfl, ri_one0 _ _ _ (by simp), fun h => (by cases h), by decide, by decide⟩
    clear HBL HS t0 t1 hc
    rintro W1 ⟨h1, h2, h3⟩
    have HL1 := Lib.hid h1
    have HB1 := Lib.hid h2
    have HS1 := Lib.hid h3
    have HTT := Lib.hid (fun (W : World) (h : Below w.heap.size w W) => hT.on h)
    have HEQ : Hid (([[0]] : List (List Int)) = nulL ls) := Lib.hid (hN.out)
    have HWD : Hid (Wd2 (([[0]] : List (List Int))) ∧ (([[0]] : List (List Int))).length ≤ 40 ∧ ∀ j, (seg (([[0]] : List (List Int))) j).length ≤ 20000000) := Lib.hid (⟨wd_one0, by decide, fun j => by have := seg_one0 j; omega⟩)
    clear h1 h2 h3 hT hw hm hf
    generalize (some (⟨w.heap.size + 1 + 1, 0, none⟩ : Addr)) = A2 at *
    refine wp_region_chain (by kernel_rfl) (by kernel_rfl) ?_
    refine chain_val (u := ?_) [0] rfl (by kernel_rfl) trivial (fun ρ wc hbc hcn hq => ?_) ?_; rotate_left
    · obtain ⟨hcn, hfn⟩ := hcn
      simp at hq
      go_simp
      rfl
    refine chain_val (u := ?_) [3] rfl (by kernel_rfl) trivial (fun ρ wc hbc hcn hq => ?_) ?_; rotate_left
    · obtain ⟨hcn, hfn⟩ := hcn
      simp at hq
      have x2 := (HL1.out.drew.below hbc).cell
      go_simp
      rfl
    refine chain_val (u := ?_) [3] rfl (by kernel_rfl) trivial (fun ρ wc hbc hcn hq => ?_) ?_; rotate_left
    · obtain ⟨hcn, hfn⟩ := hcn
      simp at hq
      have x2 := (HL1.out.drew.below hbc).cell
      go_simp
      rfl
    refine chain_call (T := Is (.agg #[.int .i64 (startI X)])) 40 [23] rfl (by kernel_rfl) trivial (stable_is _) (fun ρ wc hbc hcn hq => ?_) ?_
    · obtain ⟨hcn, hfn⟩ := hcn
      simp at hq
      refine ⟨_, by go_simp; rfl, ?_⟩
      refine (BStart_any _ _ _ _).mono ?_
      rintro e w' ⟨rfl, hbq⟩
      exact ⟨_, rfl, rfl, hbq⟩
    refine chain_val (u := ?_) [21, 22, 24] rfl (by kernel_rfl) trivial (fun ρ wc hbc hcn hq => ?_) ?_; rotate_left
    · obtain ⟨hcn, hfn⟩ := hcn
      simp at hq
      go_simp
      rfl
    refine chain_new (T := TrvF W1.heap.size #[.slice A2 1 1, .int .i64 D, .int .i64 X, .int .i64 O, .int .i64 (startI X)] W1) [25] rfl (by kernel_rfl) trivial (stable_trvf _ _ _) (fun ρ wc hbc hcn hq => ?_) ?_
    · obtain ⟨hcn, hfn⟩ := hcn
      simp at hq
      exact ⟨_, _, by go_simp; rfl, TrvF.new hbc, (Below.refl _ _).alloc (Nat.le_refl _) _⟩
    refine chain_new (T := TrvF W1.heap.size #[.slice A2 1 1, .int .i64 D, .int .i64 X, .int .i64 O, .int .i64 (startI X)] W1) [26] rfl (by kernel_rfl) trivial (stable_trvf _ _ _) (fun ρ wc hbc hcn hq => ?_) ?_
    · obtain ⟨hcn, hfn⟩ := hcn
      simp at hq
      exact ⟨_, wc, by go_simp, hq, Below.refl _ _⟩
    refine chain_end_lit 27 rfl (fun ff w5 hb5 hk => ?_)
    have h4 : TrvF W1.heap.size #[.slice A2 1 1, .int .i64 D, .int .i64 X, .int .i64 O, .int .i64 (startI X)] W1 (ff 4) w5 := allN_atF hk 4 (by decide) (by decide)
    simp [AllN] at hk
    simp only [frameL, hk]
    clear hk
    obtain ⟨b, w0, e4, g1, g2, g3, g4⟩ := h4
    rw [e4]
    have HF := Lib.hid (And.intro g1 (And.intro g2 (And.intro g3 g4)))
    have HB5 := Lib.hid (bel_on HB1.out (bel_undrew hb5))
    have HZ := Lib.hid (And.intro HB1.out.size g2.size)
    have HB0 := Lib.hid (bel_on HB1.out g2)
    clear g1 g2 g3 g4 e4 hb5 HL1 HB1
    go_wp2
    go_ret
    obtain ⟨g1, g2, g3, g4⟩ := HF.out
    obtain ⟨z1, z2⟩ := HZ.out
    exact ⟨b, A2, 1, ([[0]] : List (List Int)), w0, rfl, HEQ.out, ⟨HS1.out.below g2 (Nat.le_refl _), HTT.out _ HB0.out, by omega, HWD.out.1, HWD.out.2.1, HWD.out.2.2⟩, g3, g4, by omega, HB5.out⟩

  · have hN : Hid (ls = nulL ls) := Lib.hid (by unfold nulL; rw [if_neg (by omega)])
    have t2 : (((seg ls 0).length : Int) == 0) = false := beq_eq_false_iff_ne.2 (by omega)
    clear hl hs hz
    go_enter Tryd.func22, Tryd.ntmps22
    go_wp2_with fail
    refine abs_code10 (F := fun W => Blk W w.heap.size #[.int .i64 D, .int .i64 X, .int .i64 O] ∧ Below w.heap.size w W ∧ Sg W (some ⟨b, off, none⟩) ls) ⟨?_, ?_, ?_⟩ ?_
    · exact Blk.fresh _ _ _
    · exact HBL.out
    · exact HS.out
    clear HBL HS t0 t1 t2 hc
    rintro W1 ⟨h1, h2, h3⟩
    have HL1 := Lib.hid h1
    have HB1 := Lib.hid h2
    have HS1 := Lib.hid h3
    have HTT := Lib.hid (fun (W : World) (h : Below w.heap.size w W) => hT.on h)
    have HEQ : Hid (ls = nulL ls) := Lib.hid (hN.out)
    have HWD : Hid (Wd2 (ls) ∧ (ls).length ≤ 40 ∧ ∀ j, (seg (ls) j).length ≤ 20000000) := Lib.hid (⟨hw, hm, hf⟩)
    clear h1 h2 h3 hT hw hm hf
    generalize (some (⟨b, off, none⟩ : Addr)) = A2 at *
    refine wp_region_chain (by kernel_rfl) (by kernel_rfl) ?_
    refine chain_val (u := ?_) [0] rfl (by kernel_rfl) trivial (fun ρ wc hbc hcn hq => ?_) ?_; rotate_left
    · obtain ⟨hcn, hfn⟩ := hcn
      simp at hq
      go_simp
      rfl
    refine chain_val (u := ?_) [3] rfl (by kernel_rfl) trivial (fun ρ wc hbc hcn hq => ?_) ?_; rotate_left
    · obtain ⟨hcn, hfn⟩ := hcn
      simp at hq
      have x2 := (HL1.out.drew.below hbc).cell
      go_simp
      rfl
    refine chain_val (u := ?_) [3] rfl (by kernel_rfl) trivial (fun ρ wc hbc hcn hq => ?_) ?_; rotate_left
    · obtain ⟨hcn, hfn⟩ := hcn
      simp at hq
      have x2 := (HL1.out.drew.below hbc).cell
      go_simp
      rfl
    refine chain_call (T := Is (.agg #[.int .i64 (startI X)])) 40 [23] rfl (by kernel_rfl) trivial (stable_is _) (fun ρ wc hbc hcn hq => ?_) ?_
    · obtain ⟨hcn, hfn⟩ := hcn
      simp at hq
      refine ⟨_, by go_simp; rfl, ?_⟩
      refine (BStart_any _ _ _ _).mono ?_
      rintro e w' ⟨rfl, hbq⟩
      exact ⟨_, rfl, rfl, hbq⟩
    refine chain_val (u := ?_) [21, 22, 24] rfl (by kernel_rfl) trivial (fun ρ wc hbc hcn hq => ?_) ?_; rotate_left
    · obtain ⟨hcn, hfn⟩ := hcn
      simp at hq
      go_simp
      rfl
    refine chain_new (T := TrvF W1.heap.size #[.slice A2 ls.length c, .int .i64 D, .int .i64 X, .int .i64 O, .int .i64 (startI X)] W1) [25] rfl (by kernel_rfl) trivial (stable_trvf _ _ _) (fun ρ wc hbc hcn hq => ?_) ?_
    · obtain ⟨hcn, hfn⟩ := hcn
      simp at hq
      exact ⟨_, _, by go_simp; rfl, TrvF.new hbc, (Below.refl _ _).alloc (Nat.le_refl _) _⟩
    refine chain_new (T := TrvF W1.heap.size #[.slice A2 ls.length c, .int .i64 D, .int .i64 X, .int .i64 O, .int .i64 (startI X)] W1) [26] rfl (by kernel_rfl) trivial (stable_trvf _ _ _) (fun ρ wc hbc hcn hq => ?_) ?_
    · obtain ⟨hcn, hfn⟩ := hcn
      simp at hq
      exact ⟨_, wc, by go_simp, hq, Below.refl _ _⟩
    refine chain_end_lit 27 rfl (fun ff w5 hb5 hk => ?_)
    have h4 : TrvF W1.heap.size #[.slice A2 ls.length c, .int .i64 D, .int .i64 X, .int .i64 O, .int .i64 (startI X)] W1 (ff 4) w5 := allN_atF hk 4 (by decide) (by decide)
    simp [AllN] at hk
    simp only [frameL, hk]
    clear hk
    obtain ⟨b, w0, e4, g1, g2, g3, g4⟩ := h4
    rw [e4]
    have HF := Lib.hid (And.intro g1 (And.intro g2 (And.intro g3 g4)))
    have HB5 := Lib.hid (bel_on HB1.out (bel_undrew hb5))
    have HZ := Lib.hid (And.intro HB1.out.size g2.size)
    have HB0 := Lib.hid (bel_on HB1.out g2)
    clear g1 g2 g3 g4 e4 hb5 HL1 HB1
    go_wp2
    go_ret
    obtain ⟨g1, g2, g3, g4⟩ := HF.out
    obtain ⟨z1, z2⟩ := HZ.out
    exact ⟨b, A2, c, ls, w0, rfl, HEQ.out, ⟨HS1.out.below g2 (Nat.le_refl _), HTT.out _ HB0.out, by omega, HWD.out.1, HWD.out.2.1, HWD.out.2.2⟩, g3, g4, by omega, HB5.out⟩

end Go.Proofs.YtnmanhediiooaaaDoor

/- Package denote: Message. -/
namespace Go.Proofs.YtnmanhediiooaaaDoor
open Go.ChangeShapes Go.WideShapes Go.ChangeAt Go.RowKit
set_option linter.unusedVariables false
set_option linter.unusedSimpArgs false
set_option maxRecDepth 100000

theorem NodV.alloc {lo : Nat} {x : Nd} {v : Value} {w : World} (h : NodV lo x v w) (o : Obj) : NodV lo x v (w.alloc o) := by
  have hb : Below w.heap.size w (w.alloc o) := (Below.refl _ _).alloc (Nat.le_refl _) o
  obtain ⟨A, c, B, c2, hi, h1, h2, h3, h4, h5, h6⟩ := h
  refine ⟨A, c, B, c2, hi, h1, Nat.le_trans h2 hb.size, h3.below hb h2, h4.below hb (Nat.le_refl _), h5.below hb (Nat.le_refl _), fun b off j A' l' c' e1 e2 e3 => ?_⟩
  rw [hb.cell (p := ⟨b, off + j * 5 + 3, none⟩) (h5 b off e1).1] at e3
  exact (h6 b off j A' l' c' e1 e2 e3).below hb (Nat.le_refl _)
theorem NodV.set {lo : Nat} {x : Nd} {v : Value} {w : World} (h : NodV lo x v w) {p : Addr} (hp : p.block < lo) (u : Value) : NodV lo x v (w.setCell p u) := by
  obtain ⟨A, c, B, c2, hi, h1, h2, h3, h4, h5, h6⟩ := h
  refine ⟨A, c, B, c2, hi, h1, by simpa using h2, h3.to fun k k1 k2 => Below.heap_setCell _ _ _ _ (by omega), h4.set _ _, h5.set _ _, fun b off j A' l' c' e1 e2 e3 => ?_⟩
  obtain ⟨b', off', e4, k1, -⟩ := h3.row e2
  rw [e1] at e4
  injection e4 with e4
  injection e4 with e5 e6
  subst e5
  rw [cell_diff (fun e => by rw [e] at hp; exact absurd k1 (Nat.not_le.2 hp))] at e3
  exact (h6 b off j A' l' c' e1 e2 e3).set _ _

/-- what the closure of Message leaves in the variable nb -/
def MsgP (nb lo : Nat) (x : Nd) (er : Int) (W : World) : Prop :=
  (er = 0 → ∃ A c B c2, Blk W nb #[.int .i64 x.k, .int .i64 x.e, .int .i64 x.n, .slice A x.d.length c, .slice B x.ks.length c2] ∧ NodV lo x (.agg #[.int .i64 x.k, .int .i64 x.e, .int .i64 x.n, .slice A x.d.length c, .slice B x.ks.length c2]) W) ∧
  (er ≠ 0 → Blk W nb #[.int .i64 0, .int .i64 0, .int .i64 0, .slice none 0 0, .slice none 0 0])
theorem MsgP.alloc {nb lo : Nat} {x : Nd} {er : Int} {W : World} (h : MsgP nb lo x er W) (o : Obj) : MsgP nb lo x er (W.alloc o) :=
  ⟨fun e => by obtain ⟨A, c, B, c2, h1, h2⟩ := h.1 e; exact ⟨A, c, B, c2, h1.alloc o, h2.alloc o⟩, fun e => (h.2 e).alloc o⟩
theorem MsgP.set {nb lo : Nat} {x : Nd} {er : Int} {W : World} (h : MsgP nb lo x er W) {p : Addr} (hp : p.block < lo) (hn : p.block ≠ nb) (u : Value) : MsgP nb lo x er (W.setCell p u) :=
  ⟨fun e => by obtain ⟨A, c, B, c2, h1, h2⟩ := h.1 e; exact ⟨A, c, B, c2, h1.other hn u, h2.set hp u⟩, fun e => (h.2 e).other hn u⟩
theorem msg_err0 (ls : List (List Int)) (D X : Int) (h : (msgV ls D X).2 ≠ 0) : (msgV ls D X).1 = nd0 := by
  rw [msgV_nulL] at h ⊢
  by_cases h2 : (valV (nulL ls) D.toNat (startI X) 0 0).e ≠ 0
  · rw [if_pos h2]
  · rw [if_neg h2] at h; exact absurd rfl h
theorem bel_of_keeps {b N : Nat} {w w' : World} (h : Keeps (KB b) w w') (hN : N ≤ w.heap.size) (hb : N ≤ b) : Below N w w' := h.below hN (fun k hk => by unfold KB at hk; omega)

set_option maxHeartbeats 4000000 in
theorem msgRun (s l nb : Nat) (A : Option Addr) (c : Nat) (ls : List (List Int)) (D X O : Int) (w : World) (hT : TabOK w) (hs : Sg w A ls) (hw : Wd2 ls) (hm : ls.length ≤ 40) (hf : ∀ j, (seg ls j).length ≤ 20000000) (hD : D ≤ 900) (hX : X ≤ 1000000)
    (h1 : Blk w s #[.slice A ls.length c]) (h2 : Blk w l #[.int .i64 D, .int .i64 X, .int .i64 O]) (h3 : Blk w nb #[.int .i64 0, .int .i64 0, .int .i64 0, .slice none 0 0, .slice none 0 0]) :
    Calls Tryd.prog 20 #[.pointer (some ⟨s, 0, none⟩), .pointer (some ⟨l, 0, none⟩), .pointer (some ⟨nb, 0, none⟩)] w fun e w' => Keeps (KB nb) w w' ∧ MsgP nb w.heap.size (msgV ls D X).1 (msgV ls D X).2 w' ∧
      (((msgV ls D X).2 = 0 ∧ e = .returned (.tuple #[])) ∨ ((msgV ls D X).2 ≠ 0 ∧ e = failE (msgV ls D X).2)) := by
  have hx0 : 0 ≤ startI X ∧ startI X ≤ 1000000 := by unfold startI; split <;> omega
  have HST := Lib.hid (start_any A c ls D X O w hT hs hw hm hf hD)
  have hmv := msgV_nulL ls D X
  have HVA : Hid (∀ b A2 c2 w0 W, EnvD b A2 (nulL ls) w0 → Below b w0 W → Blk W b #[.slice A2 (nulL ls).length c2, .int .i64 D, .int .i64 X, .int .i64 O, .int .i64 (startI X)] →
      Calls Tryd.prog 23 #[.pointer (some ⟨b, 0, none⟩), .int .i64 0, .int .i64 0, .int .i64 1] W fun e w' => Keeps (KB b) W w' ∧ Blk w' b #[.slice A2 (nulL ls).length c2, .int .i64 D, .int .i64 X, .int .i64 O, .int .i64 (valV (nulL ls) D.toNat (startI X) 0 0).m] ∧
        (((valV (nulL ls) D.toNat (startI X) 0 0).e = 0 ∧ ∃ v, e = .returned v ∧ NodF W.heap.size (valV (nulL ls) D.toNat (startI X) 0 0).n v w') ∨ ((valV (nulL ls) D.toNat (startI X) 0 0).e ≠ 0 ∧ e = failE (valV (nulL ls) D.toNat (startI X) 0 0).e)) ∧ True) := Lib.hid (fun b A2 c2 w0 W E hb hk =>
    (value_any b A2 c2 (nulL ls) D X O w0 E hD D.toNat (startI X) 0 0 1 W hb hk hx0.1 (by omega) (by omega) (by omega) (by omega) (by omega) (by omega) (by omega) (by congr 1; omega)).mono fun e w' h => ⟨h.1, h.2.1, h.2.2, trivial⟩)
  have HNL : Hid (∀ b A2 w0, EnvD b A2 (nulL ls) w0 → validN (valV (nulL ls) D.toNat (startI X) 0 0).n = true ∧ sizeN (valV (nulL ls) D.toNat (startI X) 0 0).n ≤ 1099511627776) := Lib.hid (fun b A2 w0 E => by
    have h1 := valV_valid E.wd E.m E.f D.toNat (startI X) 0 0
    have h2 := (valV_size E.wd E.m E.f D.toNat (startI X) 0 0).2
    have h3 := valV_m E.wd E.m E.f D.toNat (startI X) 0 0 hx0.1
    exact ⟨h1, by omega⟩)
  generalize valV (nulL ls) D.toNat (startI X) 0 0 = sv at *
  generalize msgV ls D X = mv at *
  have HM1 : Hid (sv.e ≠ 0 → mv = (nd0, sv.e)) := Lib.hid (fun h => by rw [hmv, if_pos h])
  have HM2 : Hid (sv.e = 0 → mv = (trimN sv.n, 0)) := Lib.hid (fun h => by rw [hmv, if_neg (by rw [h]; simp)])
  clear hmv
  have HN3 := Lib.hid h3
  have hnb := h3.lt
  clear hT hs hw hf hD hX hx0
  obtain ⟨x1, y1, z1⟩ := h1
  obtain ⟨x2, y2, z2⟩ := h2
  go_enter Tryd.func20, Tryd.ntmps20
  go_wp2_with fail
  refine HST.out.mono ?_
  rintro e w3 ⟨b, A2, c2, ls2, w0, rfl, rfl, E, hb0, hk, hz, hbel⟩
  have HB3 := Lib.hid hbel
  have HN4 := Lib.hid (HN3.out.below hbel)
  have HV := Lib.hid (HVA.out b A2 c2 w0 w3 E hb0 hk)
  obtain ⟨hv, hsz⟩ := HNL.out b A2 w0 E
  have hne : b ≠ nb := by omega
  have HZ : Hid (w.heap.size ≤ b ∧ w.heap.size ≤ w3.heap.size) := Lib.hid ⟨hz, hbel.size⟩
  clear hb0 hk E hz hbel x1 y1 z1 x2 y2 z2 HST HVA HNL HN3 h3
  go_wp2_with fail
  refine HV.out.mono ?_
  rintro e w4 ⟨hk4, -, ⟨he4, v, rfl, hnd⟩ | ⟨he4, rfl⟩, -⟩
  rotate_left
  · have HB4 := HB3.out.trans (bel_of_keeps hk4 HZ.out.2 HZ.out.1)
    have HN5 := HN4.out.keeps hk4 (by unfold KB; omega)
    have h5 := HM1.out he4
    unfold failE
    go_wp2
    rw [h5]
    exact ⟨rfl, keeps_of HB4, ⟨fun h => absurd h he4, fun _ => HN5⟩, .inr ⟨he4, rfl⟩⟩
  obtain ⟨A5, c5, B5, e5, hi5, rfl, hh5, ho5⟩ := hnd
  have HB4 := Lib.hid (HB3.out.trans (bel_of_keeps hk4 HZ.out.2 HZ.out.1))
  have HN5 := Lib.hid (HN4.out.keeps hk4 (by unfold KB; omega))
  have HTR := Lib.hid (Trim_node sv.n A5 c5 B5 e5 w4 ho5.nd hsz hv)
  have H5 := Lib.hid (HM2.out he4)
  clear HM1 HM2 hk4 he4 ho5 HV HN4 HB3 hv hsz
  go_wp2_with fail
  refine HTR.out.mono ?_
  rintro e w6 ⟨v, rfl, hnv, hb6⟩
  have HN6 := Lib.hid (HN5.out.below hb6)
  have HB6 := Lib.hid (bel_on HB4.out hb6)
  have hz4 := HB4.out.size
  have HLO : Hid (w.heap.size ≤ w4.heap.size ∧ nb < w4.heap.size) := Lib.hid ⟨hz4, by omega⟩
  have HV6 := Lib.hid hnv
  obtain ⟨A7, c7, B7, e7, hi7, rfl, -⟩ := hnv
  clear hb6 HTR HN5 HB4 hz4
  obtain ⟨x3, y3, z3⟩ := HN6.out
  generalize trimN sv.n = tx at *
  go_wp2_with fail
  refine abs_post (F := fun W => Blk W nb #[.int .i64 tx.k, .int .i64 tx.e, .int .i64 tx.n, .slice A7 tx.d.length c7, .slice B7 tx.ks.length e7] ∧ Keeps (KB nb) w W ∧ NodV w4.heap.size tx (.agg #[.int .i64 tx.k, .int .i64 tx.e, .int .i64 tx.n, .slice A7 tx.d.length c7, .slice B7 tx.ks.length e7]) W) ⟨?_, ?_, ?_⟩ ?_
  · exact ((((HN6.out.set 0 (by simp) _).set 1 (by simp) _).set 2 (by simp) _).set 3 (by simp) _).set 4 (by simp) _
  · refine keeps_set (keeps_set (keeps_set (keeps_set (keeps_set (keeps_of HB6.out) ?_ _) ?_ _) ?_ _) ?_ _) ?_ _ <;> exact .inl rfl
  · have hl := HLO.out.2
    exact ((((HV6.out.set (p := ⟨nb, 0, none⟩) hl _).set (p := ⟨nb, 1, none⟩) hl _).set (p := ⟨nb, 2, none⟩) hl _).set (p := ⟨nb, 3, none⟩) hl _).set (p := ⟨nb, 4, none⟩) hl _
  rintro V ⟨B6, hkv, hn⟩
  go_end0
  refine ⟨hkv, ?_, ?_⟩
  · rw [H5.out]
    refine ⟨fun _ => ⟨A7, c7, B7, e7, B6, ?_⟩, fun h => absurd rfl h⟩
    obtain ⟨A, c, B, c2, hi, k1, k2, k3, k4⟩ := hn
    exact ⟨A, c, B, c2, hi, k1, k2, k3.wide HLO.out.1 (Nat.le_refl _), k4⟩
  · rw [H5.out]
    exact .inl ⟨rfl, rfl⟩

set_option maxHeartbeats 4000000 in
theorem message_any (A : Option Addr) (c : Nat) (ls : List (List Int)) (D X O : Int) (w : World) (hT : TabOK w) (hs : Sg w A ls) (hw : Wd2 ls) (hm : ls.length ≤ 40) (hf : ∀ j, (seg ls j).length ≤ 20000000) (hD : D ≤ 900) (hX : X ≤ 1000000) :
    Calls Tryd.prog 9 #[.slice A ls.length c, .agg #[.int .i64 D, .int .i64 X, .int .i64 O]] w fun e w' => ∃ v, e = .returned (.tuple #[v, .int .i64 (msgV ls D X).2]) ∧ NodU w.heap.size (msgV ls D X).1 v w' ∧ Below w.heap.size w w' := by
  have hmf : ∀ (fn : Fn) (first cap : Array Value) (w : World), (Instr.makeFunc fn first cap).run Tryd.prog w = .ok (.func fn first cap) w := fun _ _ _ _ => rfl
  have hme : (msgV ls D X).2 ≠ 0 → (msgV ls D X).1 = nd0 := fun h => (msg_err0 ls D X h)
  have HB1 := Lib.hid ((((Below.refl w.heap.size w).alloc (Nat.le_refl _) (.cells #[.slice A ls.length c] 22)).alloc (by simp) (.cells #[.int .i64 D, .int .i64 X, .int .i64 O] 24)).alloc (by simp; omega) (.cells #[.int .i64 0, .int .i64 0, .int .i64 0, .slice none 0 0, .slice none 0 0] 30))
  have HS1 : Hid (Blk (((w.alloc (.cells #[.slice A ls.length c] 22)).alloc (.cells #[.int .i64 D, .int .i64 X, .int .i64 O] 24)).alloc (.cells #[.int .i64 0, .int .i64 0, .int .i64 0, .slice none 0 0, .slice none 0 0] 30)) w.heap.size #[.slice A ls.length c]) := Lib.hid (((Blk.fresh _ _ _).alloc _).alloc _)
  have HL1 : Hid (Blk (((w.alloc (.cells #[.slice A ls.length c] 22)).alloc (.cells #[.int .i64 D, .int .i64 X, .int .i64 O] 24)).alloc (.cells #[.int .i64 0, .int .i64 0, .int .i64 0, .slice none 0 0, .slice none 0 0] 30)) (w.heap.size + 1) #[.int .i64 D, .int .i64 X, .int .i64 O]) := Lib.hid ((Blk.new (by simp)).alloc _)
  have HN1 : Hid (Blk (((w.alloc (.cells #[.slice A ls.length c] 22)).alloc (.cells #[.int .i64 D, .int .i64 X, .int .i64 O] 24)).alloc (.cells #[.int .i64 0, .int .i64 0, .int .i64 0, .slice none 0 0, .slice none 0 0] 30)) (w.heap.size + 1 + 1) #[.int .i64 0, .int .i64 0, .int .i64 0, .slice none 0 0, .slice none 0 0]) := Lib.hid (Blk.new (by simp))
  have HALL : Hid (∀ W : World, W.heap.size = w.heap.size + 1 + 1 + 1 → Below w.heap.size w W → Blk W w.heap.size #[.slice A ls.length c] → Blk W (w.heap.size + 1) #[.int .i64 D, .int .i64 X, .int .i64 O] → Blk W (w.heap.size + 1 + 1) #[.int .i64 0, .int .i64 0, .int .i64 0, .slice none 0 0, .slice none 0 0] →
      Calls Tryd.prog 19 #[.func (.func 20) #[] #[.pointer (some ⟨w.heap.size, 0, none⟩), .pointer (some ⟨w.heap.size + 1, 0, none⟩), .pointer (some ⟨w.heap.size + 1 + 1, 0, none⟩)]] W fun e w' => e = .returned (.int .i64 (msgV ls D X).2) ∧ Keeps (KB (w.heap.size + 1 + 1)) W w' ∧ MsgP (w.heap.size + 1 + 1) (W.heap.size + 1) (msgV ls D X).1 (msgV ls D X).2 w') := Lib.hid (fun W hz hb k1 k2 k3 =>
    attempt_msg (w.heap.size + 1 + 1) _ _ _ W (by omega) (fun V o h => h.alloc o) (fun V u h => h.set (p := ⟨W.heap.size, 0, none⟩) (by show W.heap.size < W.heap.size + 1; omega) (by show W.heap.size ≠ _; omega) u) (Lib.hid (by
      have hbb := hb.alloc hb.size (.cells #[.int .i64 0] 31)
      have := msgRun w.heap.size (w.heap.size + 1) (w.heap.size + 1 + 1) A c ls D X O (W.alloc (.cells #[.int .i64 0] 31)) (hT.on hbb) (hs.below hbb (Nat.le_refl _)) hw hm hf hD hX (k1.alloc _) (k2.alloc _) (k3.alloc _)
      rw [show (W.alloc (.cells #[.int .i64 0] 31)).heap.size = W.heap.size + 1 by simp] at this
      exact this)))
  generalize msgV ls D X = mv at *
  have HME := Lib.hid hme
  clear hT hs hw hm hf hD hX hme
  go_enter Tryd.func9, Tryd.ntmps9
  go_wp2_with fail
  refine (HALL.out _ (by simp) HB1.out HS1.out HL1.out HN1.out).mono ?_
  rintro e w2 ⟨rfl, hk2, hmp⟩
  have HB2 := Lib.hid (HB1.out.trans (bel_of_keeps (N := w.heap.size) hk2 (by simp; omega) (by omega)))
  clear HALL HB1 HS1 HL1 HN1 hk2
  by_cases he : mv.2 = 0
  · obtain ⟨A5, c5, B5, e5, hn, hv⟩ := hmp.1 he
    have HN := Lib.hid hn
    have HV := Lib.hid hv
    clear hmp HME he hv
    obtain ⟨x3, y3, z3⟩ := hn
    go_wp2_with fail
    refine abs_post (F := fun W => Blk W (w.heap.size + 1 + 1) #[.int .i64 mv.1.k, .int .i64 mv.1.e, .int .i64 mv.1.n, .slice A5 mv.1.d.length c5, .slice B5 mv.1.ks.length e5] ∧ NodV w.heap.size mv.1 (.agg #[.int .i64 mv.1.k, .int .i64 mv.1.e, .int .i64 mv.1.n, .slice A5 mv.1.d.length c5, .slice B5 mv.1.ks.length e5]) W ∧ Below w.heap.size w W) ⟨?_, ?_, ?_⟩ ?_
    · exact ((((HN.out.set 0 (by simp) _).set 1 (by simp) _).set 2 (by simp) _).set 3 (by simp) _).set 4 (by simp) _
    · have hl : w.heap.size + 1 + 1 < w.heap.size + 1 + 1 + 1 + 1 := by omega
      obtain ⟨A, c, B, c2, hi, k1, k2, k3, k4⟩ := ((((HV.out.set (p := ⟨w.heap.size + 1 + 1, 0, none⟩) (by first | (simp; done) | (simp; omega)) (.int .i64 mv.1.k)).set (p := ⟨w.heap.size + 1 + 1, 1, none⟩) (by first | (simp; done) | (simp; omega)) (.int .i64 mv.1.e)).set (p := ⟨w.heap.size + 1 + 1, 2, none⟩) (by first | (simp; done) | (simp; omega)) (.int .i64 mv.1.n)).set (p := ⟨w.heap.size + 1 + 1, 3, none⟩) (by first | (simp; done) | (simp; omega)) (.slice A5 mv.1.d.length c5)).set (p := ⟨w.heap.size + 1 + 1, 4, none⟩) (by first | (simp; done) | (simp; omega)) (.slice B5 mv.1.ks.length e5)
      exact ⟨A, c, B, c2, hi, k1, k2, k3.wide (by simp; omega) (Nat.le_refl _), k4⟩
    · refine Below.setCell (Below.setCell (Below.setCell (Below.setCell (Below.setCell HB2.out ?_ _) ?_ _) ?_ _) ?_ _) ?_ _ <;> (show w.heap.size ≤ w.heap.size + 1 + 1; omega)
    rintro V ⟨B6, hv, hbv⟩
    exact bodyPost_ret (v := .tuple #[.agg #[.int .i64 mv.1.k, .int .i64 mv.1.e, .int .i64 mv.1.n, .slice A5 mv.1.d.length c5, .slice B5 mv.1.ks.length e5], .int .i64 mv.2]) (by simp [results, Tryd.results9, go_sem, B6.cell]) rfl ⟨_, rfl, hv.nodU, hbv⟩
  · have hn := hmp.2 he
    have HN := Lib.hid hn
    have HX1 := Lib.hid (HME.out he)
    clear hmp HME
    obtain ⟨x3, y3, z3⟩ := hn
    go_wp2_with fail
    refine abs_post (F := fun W => Blk W (w.heap.size + 1 + 1) #[.int .i64 0, .int .i64 0, .int .i64 0, .slice none 0 0, .slice none 0 0] ∧ Below w.heap.size w W) ⟨?_, ?_⟩ ?_
    · exact ((((HN.out.set 0 (by simp) _).set 1 (by simp) _).set 2 (by simp) _).set 3 (by simp) _).set 4 (by simp) _
    · refine Below.setCell (Below.setCell (Below.setCell (Below.setCell (Below.setCell HB2.out ?_ _) ?_ _) ?_ _) ?_ _) ?_ _ <;> (show w.heap.size ≤ w.heap.size + 1 + 1; omega)
    rintro V ⟨B6, hbv⟩
    refine bodyPost_ret (v := .tuple #[.agg #[.int .i64 0, .int .i64 0, .int .i64 0, .slice none 0 0, .slice none 0 0], .int .i64 mv.2]) (by simp [results, Tryd.results9, go_sem, B6.cell]) rfl ⟨_, rfl, ?_, hbv⟩
    rw [HX1.out]
    exact ⟨none, 0, none, 0, 0, rfl, Nat.zero_le _, fun W _ => nd0_here W 0 (by decide), fun b off e => (by cases e), fun b off e => (by cases e), fun b off j A' l' c' e => (by cases e)⟩
end Go.Proofs.YtnmanhediiooaaaDoor

/- Package denote: what a traversal charges. -/
namespace Go.Proofs.YtnmanhediiooaaaDoor
open Go.ChangeShapes Go.WideShapes Go.ChangeAt Go.RowKit
set_option linter.unusedVariables false
set_option linter.unusedSimpArgs false
set_option maxRecDepth 100000

/-- what charge does, r nested objects to go -/
def ChgL (b : Nat) (A : Option Addr) (c : Nat) (ls : List (List Int)) (D X O : Int) (w0 : World) (r : Nat) : Prop := ∀ (m s a dep : Int) (w : World), Below b w0 w → Blk w b #[.slice A ls.length c, .int .i64 D, .int .i64 X, .int .i64 O, .int .i64 m] →
  0 ≤ m → m ≤ 4611686018427387904 → 0 ≤ s → s ≤ 1000 → 0 ≤ a → a ≤ 200000000000 → 0 ≤ dep → dep ≤ 901 → (D - dep + 1).toNat = r →
  Calls Tryd.prog 25 #[.pointer (some ⟨b, 0, none⟩), .int .i64 s, .int .i64 a, .int .i64 dep] w fun e w' => Keeps (KB b) w w' ∧ Blk w' b #[.slice A ls.length c, .int .i64 D, .int .i64 X, .int .i64 O, .int .i64 (valV ls r m s a).m] ∧ (((valV ls r m s a).e = 0 ∧ e = .returned (.tuple #[])) ∨ ((valV ls r m s a).e ≠ 0 ∧ e = failE (valV ls r m s a).e))

set_option maxHeartbeats 4000000 in
theorem chargeKids_any (b : Nat) (A : Option Addr) (c : Nat) (ls : List (List Int)) (D X O : Int) (w0 : World) (r : Nat) (E : EnvD b A ls w0) (m : Int) (o : Ob) (dep : Int) (hV : 0 < (ptrO o).2 → dep ≤ 900 ∧ ChgL b A c ls D X O w0 r) (w : World) (hb : Below b w0 w) (hk : Blk w b #[.slice A ls.length c, .int .i64 D, .int .i64 X, .int .i64 O, .int .i64 m])
    (hm0 : 0 ≤ m) (hm1 : m ≤ 4611686018427387904) (ho : ObOK ls o) (hd0 : 0 ≤ dep) (hd1 : dep ≤ 901) (hr : (D - dep).toNat = r) :
    Calls Tryd.prog 44 #[.pointer (some ⟨b, 0, none⟩), .agg #[.int .i64 o.k, .int .i64 o.sg, .int .i64 o.at', .int .i64 o.d, .int .i64 o.p, .int .i64 o.el, .int .i64 o.n, .int .i64 o.cost], .int .i64 dep] w fun e w' => Keeps (KB b) w w' ∧ Blk w' b #[.slice A ls.length c, .int .i64 D, .int .i64 X, .int .i64 O, .int .i64 (kidR (valV ls r) o m).m] ∧ (((kidR (valV ls r) o m).e = 0 ∧ e = .returned (.tuple #[])) ∨ ((kidR (valV ls r) o m).e ≠ 0 ∧ e = failE (kidR (valV ls r) o m).e)) := by
  have hlt := hk.lt
  obtain ⟨x, y, hxy⟩ : ∃ x y, ptrO o = (x, y) := ⟨_, _, rfl⟩
  obtain ⟨hx0, hx1, hy0, hy1⟩ := ptrO_bd ho hxy
  obtain ⟨n, rfl⟩ := Int.eq_ofNat_of_zero_le hy0
  have hn1 : n ≤ 536870911 := by omega
  have hkR : kidR (valV ls r) o m = runK (fun (m : Int) (i : Nat) => valV ls r m o.sg (x + (i : Int))) m n := by unfold kidR; rw [hxy]; simp
  rw [hkR]
  have hval := valV_m E.wd E.m E.f r
  obtain ⟨f, hf⟩ : ∃ f : Int → Nat → Val, f = fun (m : Int) (i : Nat) => valV ls r m o.sg (x + (i : Int)) := ⟨_, rfl⟩
  have HMR : Hid (∀ j, 0 ≤ (runK f m j).m ∧ (runK f m j).m ≤ m) := Lib.hid (fun j => runK_ind (fun z => 0 ≤ z ∧ z ≤ m) ⟨hm0, Int.le_refl _⟩ j (fun m' i _ hm => by
    subst hf
    have := hval m' o.sg (x + i) hm.1
    exact ⟨this.1, Int.le_trans this.2 hm.2⟩))
  have HV : Hid (∀ (R : Int) (j : Nat) (wr : World), Below b w0 wr → Blk wr b #[.slice A ls.length c, .int .i64 D, .int .i64 X, .int .i64 O, .int .i64 R] → 0 ≤ R → R ≤ m → j < n →
      Calls Tryd.prog 25 #[.pointer (some ⟨b, 0, none⟩), .int .i64 o.sg, .int .i64 (x + j), .int .i64 (dep + 1)] wr fun e w' => Keeps (KB b) wr w' ∧ Blk w' b #[.slice A ls.length c, .int .i64 D, .int .i64 X, .int .i64 O, .int .i64 (f R j).m] ∧ (((f R j).e = 0 ∧ e = .returned (.tuple #[])) ∨ ((f R j).e ≠ 0 ∧ e = failE (f R j).e))) := Lib.hid (fun R j wr h1 h2 h3 h4 h5 => by
    subst hf
    obtain ⟨hdd, hVV⟩ := hV (by rw [hxy]; show (0 : Int) < n; omega)
    exact hVV R o.sg (x + j) (dep + 1) wr h1 h2 h3 (by omega) (by have := ho.sg; omega) (by have := ho.sg; omega) (by omega) (by omega) (by omega) (by omega) (by rw [← hr]; congr 1; omega))
  rw [← hf]
  have HPT := Lib.hid (fun w2 => RPointers_is o.k o.sg o.at' o.d o.p o.el o.n o.cost x n w2 ho.at'.1 (by have := ho.at'; omega) ho.d.1 ho.d.2 hxy)
  have HB1 := Lib.hid ((Below.refl w.heap.size w).alloc (Nat.le_refl _) (.cells (obA o) 77))
  have HT1 := Lib.hid (hk.alloc (.cells (obA o) 77))
  have HO1 : Hid (Blk (w.alloc (.cells (obA o) 77)) w.heap.size (obA o)) := Lib.hid (Blk.fresh _ _ _)
  have HB0 := Lib.hid (fun (wr : World) (h : Keeps (KB b) w wr) => hb.trans (bel_keeps h (Nat.le_of_lt hlt)))
  have HL : Hid (b < w.heap.size) := Lib.hid hlt
  unfold obA at HB1 HT1 HO1
  clear hb hk hlt hkR hval hV hr ho hxy hy0 hy1 hf E
  obtain ⟨x2, y2, z2⟩ := HO1.out
  go_enter Tryd.func44, Tryd.ntmps44
  go_wp2_with fail
  refine (HPT.out _).mono ?_
  rintro e w1 ⟨rfl, hb1⟩
  have HT3 := Lib.hid (HT1.out.below hb1)
  have HO3 := Lib.hid (HO1.out.below hb1)
  have HK3 : Hid (Keeps (KB b) w w1) := Lib.hid (keeps_of (bel_on HB1.out hb1))
  clear HT1 HO1 HB1 hb1 x2 y2 z2 HPT
  go_wp2_with fail
  go_loopw [15] (fun i wr => ∃ j : Nat, j ≤ n ∧ i = .int .i64 j ∧ (runK f m j).e = 0 ∧ Blk wr b #[.slice A ls.length c, .int .i64 D, .int .i64 X, .int .i64 O, .int .i64 (runK f m j).m] ∧ Keeps (KB b) w wr ∧ Blk wr w.heap.size #[.int .i64 o.k, .int .i64 o.sg, .int .i64 o.at', .int .i64 o.d, .int .i64 o.p, .int .i64 o.el, .int .i64 o.n, .int .i64 o.cost]) (fun i _ => n - (intOf i).toNat)
  case atStart => exact ⟨0, by omega, rfl, rfl, HT3.out, HK3.out, HO3.out⟩
  case round =>
    clear HT3 HO3 HK3
    obtain ⟨j, hj, rfl, he, hbt, hkp, hbo⟩ := hrel
    have HRE := Lib.hid he
    have HT := Lib.hid hbt
    have HK := Lib.hid hkp
    have HO := Lib.hid hbo
    clear he hbt hkp
    by_cases hlt : j < n
    · have hj1 : (j : Int) < (n : Int) := by omega
      have hj2 : (j : Int) < 536870912 := by omega
      have HMJ := Lib.hid (HMR.out j)
      have HNX : Hid (∀ h : (f (runK f m j).m j).e = 0, runK f m (j + 1) = ⟨(runK f m j).ks ++ [(f (runK f m j).m j).n], (f (runK f m j).m j).m, 0⟩) := Lib.hid (fun h => runK_ok HRE.out h)
      have HNO : Hid (∀ h : (f (runK f m j).m j).e ≠ 0, (runK f m n).m = (f (runK f m j).m j).m ∧ (runK f m n).e = (f (runK f m j).m j).e) := Lib.hid (fun h => by
        have h1 := runK_no HRE.out h
        have h2 : runK f m n = runK f m (j + 1) := runK_keep (by rw [h1]; exact h) (by omega)
        rw [h2, h1]
        exact ⟨rfl, rfl⟩)
      obtain ⟨x2, y2, z2⟩ := hbo
      go_wp2_with fail
      refine (HV.out (runK f m j).m j wr (HB0.out _ HK.out) HT.out HMJ.out.1 HMJ.out.2 hlt).mono ?_
      rintro e w4 ⟨hk4, hbt4, ⟨he4, rfl⟩ | ⟨he4, rfl⟩⟩
      · have HT4 := Lib.hid hbt4
        have HK4 := Lib.hid (HK.out.trans hk4)
        have HO4 := Lib.hid (HO.out.keeps hk4 (by have := HL.out; unfold KB; omega))
        have HN4 := Lib.hid (HNX.out he4)
        clear hk4 hbt4 x2 y2 z2 HT HK HO HNX HNO he4
        generalize (f (runK f m j).m j).n = kx at *
        generalize (f (runK f m j).m j).m = m4 at *
        go_wp2
        go_roundw
        case rel => exact ⟨j + 1, by omega, by go_num, by rw [HN4.out], by rw [HN4.out]; exact HT4.out, HK4.out, HO4.out⟩
        case measure => simp [intOf]; omega
      · obtain ⟨h1, h2⟩ := HNO.out he4
        have HK4 := Lib.hid (HK.out.trans hk4)
        rw [← h1] at hbt4
        rw [← h2] at he4
        unfold failE
        go_wp2
        exact ⟨rfl, HK4.out, hbt4, .inr ⟨he4, by rw [h2]; rfl⟩⟩
    · obtain rfl : j = n := by omega
      go_wp2
      go_end0
      exact ⟨HK.out, HT.out, .inl ⟨HRE.out, rfl⟩⟩

theorem contK_me (val : Int → Int → Int → Val) (ls : List (List Int)) (m : Int) (o : Ob) : (contK val ls m o).m = (kidR val o m).m ∧ (contK val ls m o).e = (kidR val o m).e := by
  unfold contK
  by_cases h : (kidR val o m).e ≠ 0
  · rw [if_pos h]
    exact ⟨rfl, rfl⟩
  · rw [if_neg h]
    exact ⟨rfl, (Classical.byContradiction fun g => h (fun e => g e.symm) : (0 : Int) = _)⟩
theorem runK_stay {f : Int → Nat → Val} {m : Int} (h : ∀ i, (f m i).m = m ∧ (f m i).e = 0) : ∀ n, (runK f m n).m = m ∧ (runK f m n).e = 0
  | 0 => ⟨rfl, rfl⟩
  | n + 1 => by
    obtain ⟨h1, h2⟩ := runK_stay h n
    have h3 := h n
    rw [runK_ok h2 (by rw [h1]; exact h3.2), h1]
    exact ⟨h3.1, rfl⟩
theorem elsR_noptr (val : Int → Int → Int → Val) (ls : List (List Int)) (m : Int) (o : Ob) (hp : ¬ 0 < o.p) : (elsR val ls o m).m = m ∧ (elsR val ls o m).e = 0 := by
  unfold elsR
  refine runK_stay (fun i => ?_) _
  have hR : kidR val (eleO o i) m = ⟨[], m, 0⟩ := by
    have h0 : ptrO (eleO o i) = (0, 0) := by
      unfold ptrO eleO
      rw [if_neg (fun h => hp h.2), if_neg (fun h => absurd h.1 (by show (1 : Int) ≠ 2; decide))]
    unfold kidR
    rw [h0]
    rfl
  have h := contK_me val ls m (eleO o i)
  rw [hR] at h
  exact h
theorem bodyK_me (val : Int → Int → Int → Val) (ls : List (List Int)) (m : Int) (o : Ob) : (o.el = 7 → (bodyK val ls m o).m = (elsR val ls o m).m ∧ (bodyK val ls m o).e = (elsR val ls o m).e) ∧ (o.el ≠ 7 → (bodyK val ls m o).m = (kidR val o m).m ∧ (bodyK val ls m o).e = (kidR val o m).e) := by
  refine ⟨fun h => ?_, fun h => ?_⟩
  · unfold bodyK
    rw [if_pos h]
    by_cases h : (elsR val ls o m).e ≠ 0
    · rw [if_pos h]
      exact ⟨rfl, rfl⟩
    · rw [if_neg h]
      exact ⟨rfl, (Classical.byContradiction fun g => h (fun e => g e.symm) : (0 : Int) = _)⟩
  · unfold bodyK
    rw [if_neg h]
    exact contK_me val ls m o

set_option maxHeartbeats 4000000 in
theorem charge_step (b : Nat) (A : Option Addr) (c : Nat) (ls : List (List Int)) (D X O : Int) (w0 : World) (r : Nat) (E : EnvD b A ls w0) (hD : D ≤ 900) (hV : ∀ r', r = r' + 1 → ChgL b A c ls D X O w0 r') : ChgL b A c ls D X O w0 r := by
  intro m s a dep w hb hk hm0 hm1 hs0 hs1 ha0 ha1 hd0 hd1 hr
  have hlt := hk.lt
  have hVL := valV_loc E.wd E.m E.f D m s a dep r hr
  have hOK := loc_ok E.wd E.m E.f D m s a dep hm0
  have HOB := Lib.hid (fun w2 h1 h2 => object_any b A c ls D X O w0 E m s a dep w2 h1 h2 hm0 hm1 hs0 hs1 ha0 ha1)
  generalize locD ls D m s a dep = L at *
  obtain ⟨o, lm, le⟩ := L
  simp only at *
  have hr1 : (D - dep).toNat = r - 1 := by omega
  have hVr : dep ≤ D → ChgL b A c ls D X O w0 (r - 1) := fun h => hV (r - 1) (by omega)
  have hval := contK_m E.wd E.m E.f (r - 1)
  have HCO := Lib.hid (fun (he : le = 0) (h7 : o.el ≠ 7) w2 h1 h2 => chargeKids_any b A c ls D X O w0 (r - 1) E lm o dep (fun h => ⟨by have := (hOK ⟨o, lm, le⟩ rfl he).2.2.2.2.1 h; omega, hVr ((hOK ⟨o, lm, le⟩ rfl he).2.2.2.2.1 h)⟩) w2 h1 h2 (hOK ⟨o, lm, le⟩ rfl he).2.1 (by have : lm ≤ m := (hOK ⟨o, lm, le⟩ rfl he).2.2.1; omega) (hOK ⟨o, lm, le⟩ rfl he).1 hd0 hd1 hr1)
  obtain ⟨f, hf⟩ : ∃ f : Int → Nat → Val, f = fun (m : Int) (i : Nat) => contK (valV ls (r - 1)) ls m (eleO o (i : Int)) := ⟨_, rfl⟩
  have HMR : Hid (le = 0 → ∀ j, 0 ≤ (runK f lm j).m ∧ (runK f lm j).m ≤ lm) := Lib.hid (fun he j => runK_ind (fun z => 0 ≤ z ∧ z ≤ lm) ⟨(hOK ⟨o, lm, le⟩ rfl he).2.1, Int.le_refl _⟩ j (fun m' i _ hm => by
    subst hf
    have := hval m' (eleO o (i : Int)) hm.1
    exact ⟨this.1, Int.le_trans this.2 hm.2⟩))
  have HEL : Hid (le = 0 → o.el = 7 → ∀ (R : Int) (j : Nat) (wr : World), Below b w0 wr → Blk wr b #[.slice A ls.length c, .int .i64 D, .int .i64 X, .int .i64 O, .int .i64 R] → 0 ≤ R → R ≤ lm → (j : Int) < o.n →
      Calls Tryd.prog 44 #[.pointer (some ⟨b, 0, none⟩), .agg #[.int .i64 1, .int .i64 o.sg, .int .i64 (o.at' + j * (o.d + o.p)), .int .i64 o.d, .int .i64 o.p, .int .i64 0, .int .i64 0, .int .i64 0], .int .i64 dep] wr fun e w' => Keeps (KB b) wr w' ∧ Blk w' b #[.slice A ls.length c, .int .i64 D, .int .i64 X, .int .i64 O, .int .i64 (f R j).m] ∧ (((f R j).e = 0 ∧ e = .returned (.tuple #[])) ∨ ((f R j).e ≠ 0 ∧ e = failE (f R j).e))) := Lib.hid (fun he h7 R j wr h1 h2 h3 h4 h5 => by
    have hq := hOK ⟨o, lm, le⟩ rfl he
    have hlm : lm ≤ m := hq.2.2.1
    have hdd : dep ≤ D := (hq.2.2.2.2.2 h7).1
    subst hf
    obtain ⟨e1, e2⟩ := contK_me (valV ls (r - 1)) ls R (eleO o (j : Int))
    have := chargeKids_any b A c ls D X O w0 (r - 1) E R (eleO o (j : Int)) dep (fun _ => ⟨by omega, hVr hdd⟩) wr h1 h2 h3 (by omega) ((hq.2.2.2.2.2 h7).2 j h5) hd0 (by omega) hr1
    rw [← e1, ← e2] at this
    exact this)
  have HEM := Lib.hid (fun (he : le = 0) w2 (j : Nat) (hj : (j : Int) < o.n) => RElement_any o.k o.sg o.at' o.d o.p o.el o.n o.cost j w2 (by omega) (by have : o.n ≤ 536870911 := (hOK ⟨o, lm, le⟩ rfl he).1.n.2; omega) (hOK ⟨o, lm, le⟩ rfl he).1.at'.1 (hOK ⟨o, lm, le⟩ rfl he).2.2.2.1 (hOK ⟨o, lm, le⟩ rfl he).1.d.1 (hOK ⟨o, lm, le⟩ rfl he).1.d.2 (hOK ⟨o, lm, le⟩ rfl he).1.p.1 (hOK ⟨o, lm, le⟩ rfl he).1.p.2)
  have HON : Hid (le = 0 → 0 ≤ o.n ∧ o.n ≤ 536870911) := Lib.hid (fun he => (hOK ⟨o, lm, le⟩ rfl he).1.n)
  obtain ⟨hb7, hb6⟩ := bodyK_me (valV ls (r - 1)) ls lm o
  have hNP := elsR_noptr (valV ls (r - 1)) ls lm o
  have hER : elsR (valV ls (r - 1)) ls o lm = runK f lm o.n.toNat := by subst hf; rfl
  have hVE : le ≠ 0 → valV ls r m s a = errV lm le := fun h => by rw [hVL, if_pos h]
  have hVB : le = 0 → valV ls r m s a = bodyK (valV ls (r - 1)) ls lm o := fun h => by rw [hVL, if_neg (by rw [h]; simp)]
  rw [hER] at hb7 hNP
  have HVC : Hid (le = 0 → o.el ≠ 7 → (valV ls r m s a).m = (kidR (valV ls (r - 1)) o lm).m ∧ (valV ls r m s a).e = (kidR (valV ls (r - 1)) o lm).e) := Lib.hid (fun h h7 => by rw [hVB h]; exact hb6 h7)
  have HVB : Hid (le = 0 → o.el = 7 → (valV ls r m s a).m = (runK f lm o.n.toNat).m ∧ (valV ls r m s a).e = (runK f lm o.n.toNat).e) := Lib.hid (fun h h7 => by rw [hVB h]; exact hb7 h7)
  have HNP := Lib.hid hNP
  have HVE := Lib.hid hVE
  generalize valV ls r m s a = CV at *
  generalize kidR (valV ls (r - 1)) o lm = KV at *
  have HB0 := Lib.hid (fun (wr : World) (h : Keeps (KB b) w wr) => hb.trans (bel_keeps h (Nat.le_of_lt hlt)))
  have HT1 := Lib.hid hk
  have HNR : Hid (b < w.heap.size) := Lib.hid hlt
  clear hb hk hlt hm0 hm1 hs0 hs1 ha0 ha1 hd0 hd1 hr hV hVL hOK hr1 hVr hVE hVB hb7 hb6 hNP hER hf hval E hD
  go_enter Tryd.func25, Tryd.ntmps25
  go_wp2_with fail
  refine (HOB.out _ (HB0.out _ (Keeps.refl _ _)) HT1.out).mono ?_
  rintro e w3 ⟨hk3, hbt3, ⟨hle, rfl⟩ | ⟨hle, rfl⟩⟩
  rotate_left
  · have h1 := HVE.out hle
    unfold failE
    go_wp2
    rw [h1]
    exact ⟨rfl, hk3, hbt3, .inr ⟨hle, rfl⟩⟩
  have HLE := Lib.hid hle
  have HT3 := Lib.hid (hbt3.alloc (.cells #[.int .i64 o.k, .int .i64 o.sg, .int .i64 o.at', .int .i64 o.d, .int .i64 o.p, .int .i64 o.el, .int .i64 o.n, .int .i64 o.cost] 77))
  have HK3 := Lib.hid (keeps_alloc hk3 (.cells #[.int .i64 o.k, .int .i64 o.sg, .int .i64 o.at', .int .i64 o.d, .int .i64 o.p, .int .i64 o.el, .int .i64 o.n, .int .i64 o.cost] 77))
  have HO3 : Hid (Blk (w3.alloc (.cells #[.int .i64 o.k, .int .i64 o.sg, .int .i64 o.at', .int .i64 o.d, .int .i64 o.p, .int .i64 o.el, .int .i64 o.n, .int .i64 o.cost] 77)) w3.heap.size #[.int .i64 o.k, .int .i64 o.sg, .int .i64 o.at', .int .i64 o.d, .int .i64 o.p, .int .i64 o.el, .int .i64 o.n, .int .i64 o.cost]) := Lib.hid (Blk.fresh _ _ _)
  have HZ3 : Hid (b < w3.heap.size ∧ w.heap.size ≤ w3.heap.size) := Lib.hid ⟨hbt3.lt, hk3.size⟩
  clear hk3 hbt3 hle HT1 HOB HVE
  unfold obV
  obtain ⟨x2, y2, z2⟩ := HO3.out
  by_cases h7 : o.el = 7
  · have t7 : (o.el != 7) = false := by simpa using h7
    by_cases hp : 0 < o.p
    · have HE1 := Lib.hid (HEL.out HLE.out h7)
      have HV1 := Lib.hid (HVB.out HLE.out h7)
      have HM1 := Lib.hid (HMR.out HLE.out)
      have HE2 := Lib.hid (HEM.out HLE.out)
      obtain ⟨n0, n1⟩ := HON.out HLE.out
      obtain ⟨n, hn⟩ := Int.eq_ofNat_of_zero_le n0
      have hn1 : n ≤ 536870911 := by omega
      clear h7 HEL HVB HVC HCO HNP HLE HMR HEM HON
      obtain ⟨on, hon⟩ : ∃ on, on = o.n := ⟨_, rfl⟩
      rw [← hon] at HE1 HV1 HE2 hn HT3 HK3 HO3 x2 n0 n1 ⊢
      subst hn
      rw [show ((n : Int)).toNat = n from rfl] at HV1
      clear hon
      go_wp2_with fail
      go_loopw [29] (fun i wr => ∃ j : Nat, j ≤ n ∧ i = .int .i64 j ∧ (runK f lm j).e = 0 ∧ Blk wr b #[.slice A ls.length c, .int .i64 D, .int .i64 X, .int .i64 O, .int .i64 (runK f lm j).m] ∧ Keeps (KB b) w wr ∧ Blk wr w3.heap.size #[.int .i64 o.k, .int .i64 o.sg, .int .i64 o.at', .int .i64 o.d, .int .i64 o.p, .int .i64 o.el, .int .i64 n, .int .i64 o.cost]) (fun i _ => n - (intOf i).toNat)
      case atStart => exact ⟨0, by omega, rfl, rfl, HT3.out, HK3.out, HO3.out⟩
      case round =>
        clear HT3 HK3 HO3 x2 y2 z2
        obtain ⟨j, hj, rfl, he, hbt, hkp, hbo⟩ := hrel
        have HRE := Lib.hid he
        have HT := Lib.hid hbt
        have HK := Lib.hid hkp
        have HO := Lib.hid hbo
        clear he hbt hkp
        by_cases hlt : j < n
        · have hj1 : (j : Int) < (n : Int) := by omega
          have hj2 : (j : Int) < 536870912 := by omega
          have HMJ := Lib.hid (HM1.out j)
          have HNX : Hid (∀ h : (f (runK f lm j).m j).e = 0, runK f lm (j + 1) = ⟨(runK f lm j).ks ++ [(f (runK f lm j).m j).n], (f (runK f lm j).m j).m, 0⟩) := Lib.hid (fun h => runK_ok HRE.out h)
          have HNO : Hid (∀ h : (f (runK f lm j).m j).e ≠ 0, (runK f lm n).m = (f (runK f lm j).m j).m ∧ (runK f lm n).e = (f (runK f lm j).m j).e) := Lib.hid (fun h => by
            have h1 := runK_no HRE.out h
            have h2 : runK f lm n = runK f lm (j + 1) := runK_keep (by rw [h1]; exact h) (by omega)
            rw [h2, h1]
            exact ⟨rfl, rfl⟩)
          obtain ⟨x2, y2, z2⟩ := hbo
          go_wp2_with fail
          refine (HE2.out wr j hj1).mono ?_
          rintro e wd ⟨rfl, hbd⟩
          have HVJ := Lib.hid (HE1.out (runK f lm j).m j wd)
          generalize o.at' + (j : Int) * (o.d + o.p) = a2 at HVJ ⊢
          have HTd := Lib.hid (HT.out.below hbd)
          have HKd := Lib.hid (keeps_on HK.out hbd)
          have HOd := Lib.hid (HO.out.below hbd)
          clear HT HK HO hbd x2 y2 z2
          go_wp2_with fail
          refine (HVJ.out (HB0.out _ HKd.out) HTd.out HMJ.out.1 HMJ.out.2 hj1).mono ?_
          rintro e w4 ⟨hk4, hbt4, ⟨he4, rfl⟩ | ⟨he4, rfl⟩⟩
          · have HT4 := Lib.hid hbt4
            have HK4 := Lib.hid (HKd.out.trans hk4)
            have HO4 := Lib.hid (HOd.out.keeps hk4 (by have := HZ3.out; unfold KB; omega))
            have HN4 := Lib.hid (HNX.out he4)
            clear hk4 hbt4 HTd HKd HOd HNX HNO he4 HVJ
            generalize (f (runK f lm j).m j).n = kx at *
            generalize (f (runK f lm j).m j).m = m4 at *
            go_wp2
            go_roundw
            case rel => exact ⟨j + 1, by omega, by go_num, by rw [HN4.out], by rw [HN4.out]; exact HT4.out, HK4.out, HO4.out⟩
            case measure => simp [intOf]; omega
          · obtain ⟨h1, h2⟩ := HNO.out he4
            have HK4 := Lib.hid (HKd.out.trans hk4)
            rw [← h1, ← HV1.out.1] at hbt4
            rw [← h2, ← HV1.out.2] at he4
            have h3 : CV.e = (f (runK f lm j).m j).e := HV1.out.2.trans h2
            unfold failE
            go_wp2
            exact ⟨rfl, HK4.out, hbt4, .inr ⟨he4, by rw [h3]; rfl⟩⟩
        · obtain rfl : j = n := by omega
          go_wp2
          go_end0
          refine ⟨HK.out, by rw [HV1.out.1]; exact HT.out, .inl ⟨by rw [HV1.out.2]; exact HRE.out, rfl⟩⟩
    · have HV1 := Lib.hid (HVB.out HLE.out h7)
      have HN1 := Lib.hid (HNP.out (by omega))
      clear h7 HEL HVB HVC HCO HNP HLE HMR HEM HON
      have t8 : decide (0 < o.p) = false := decide_eq_false hp
      go_wp2
      go_end0
      refine ⟨HK3.out, by rw [HV1.out.1, HN1.out.1]; exact HT3.out, .inl ⟨by rw [HV1.out.2, HN1.out.2], rfl⟩⟩
  · have t7 : (o.el != 7) = true := by simpa using h7
    have HC := Lib.hid (HCO.out HLE.out h7)
    have HCV := Lib.hid (HVC.out HLE.out h7)
    clear h7 HEL HVB HVC HCO HNP HLE HMR HEM HON
    go_wp2_with fail
    refine (HC.out _ (HB0.out _ HK3.out) HT3.out).mono ?_
    rintro e w5 ⟨hk5, hbt5, ⟨he5, rfl⟩ | ⟨he5, rfl⟩⟩
    · have HK5 := Lib.hid (HK3.out.trans hk5)
      rw [← HCV.out.1] at hbt5
      rw [← HCV.out.2] at he5
      have HT5 := Lib.hid hbt5
      have HE5 := Lib.hid he5
      clear hk5 hbt5 he5
      go_wp2
      go_end0
      exact ⟨HK5.out, HT5.out, .inl ⟨HE5.out, rfl⟩⟩
    · have HKK := HK3.out.trans hk5
      have h1 := HCV.out
      rw [← h1.1] at hbt5
      rw [← h1.2] at he5
      unfold failE
      go_wp2
      exact ⟨rfl, HKK, hbt5, .inr ⟨he5, by rw [h1.2]; rfl⟩⟩

theorem charge_any (b : Nat) (A : Option Addr) (c : Nat) (ls : List (List Int)) (D X O : Int) (w0 : World) (E : EnvD b A ls w0) (hD : D ≤ 900) : ∀ r, ChgL b A c ls D X O w0 r
  | 0 => charge_step b A c ls D X O w0 0 E hD (fun r' h => by omega)
  | r + 1 => charge_step b A c ls D X O w0 (r + 1) E hD (fun r' h => by
    obtain rfl : r = r' := by omega
    exact charge_any b A c ls D X O w0 E hD r)
end Go.Proofs.YtnmanhediiooaaaDoor

/- Package denote: Measure. -/
namespace Go.Proofs.YtnmanhediiooaaaDoor
open Go.ChangeShapes Go.WideShapes Go.ChangeAt Go.RowKit
set_option linter.unusedVariables false
set_option linter.unusedSimpArgs false
set_option maxRecDepth 100000
section
attribute [local simp] AllK KnowsV look Is

theorem wp_region_t6_1 {P : Program} {id : Nat} {o0 o1 o2 o3 o4 o5 t0 : Oper} (late : List Nat) {Q : Exit → Act → World → Prop} {a : Act} {w : World} (hm : P.follows .mixedOrders = true) (hB : chainTB a.tmps.size late [o0, o1, o2, o3, o4, o5] [t0] = true)
    (h : ChainT P #[o0, o1, o2, o3, o4, o5, t0] late a w.drew (fun a w => wpList P #[o0, o1, o2, o3, o4, o5, t0] (OnlyN fun a w => Q .normal a w) [t0] a w) [o0, o1, o2, o3, o4, o5] 0 [] []) : (Code.region id #[o0, o1, o2, o3, o4, o5, t0] true).wp P Q a w :=
  wp_region_t [o0, o1, o2, o3, o4, o5] [t0] late rfl (by simp) hm hB h

theorem BUsed2 (d x o m : Int) (w : World) (hm0 : 0 ≤ m) (hm1 : m ≤ 9223372036854775807) (hx2 : x ≤ 9223372036854775807) :
    Calls Tryd.prog 26 #[.agg #[.int .i64 d, .int .i64 x, .int .i64 o], .agg #[.int .i64 m]] w fun e w' => e = .returned (.int .i64 (startI x - m)) ∧ Below w.heap.size w w' := by
  have hs0 : 0 ≤ startI x := by unfold startI; split <;> omega
  have hs1 : startI x ≤ 9223372036854775807 := by unfold startI; split <;> omega
  go_enter Tryd.func26, Tryd.ntmps26
  go_wp2_with fail
  have z0 := blk_alloc (blk_new w #[.int .i64 d, .int .i64 x, .int .i64 o] 24) (by simp) (.cells #[.int .i64 m] 58)
  have z1 := blk_new (w.alloc (.cells #[.int .i64 d, .int .i64 x, .int .i64 o] 24)) #[.int .i64 m] 58
  have B1 : Below w.heap.size w ((w.alloc (.cells #[.int .i64 d, .int .i64 x, .int .i64 o] 24)).alloc (.cells #[.int .i64 m] 58)) := ((Below.refl _ _).alloc (Nat.le_refl _) _).alloc (by simp) _
  have HB1 := Lib.hid B1
  clear B1
  rename_i KK hKK
  refine wp_region_chain (by kernel_rfl) (by kernel_rfl) ?_
  refine chain_val (u := ?_) [2] rfl (by kernel_rfl) trivial (fun ρ wc hbc hcn hk => ?_) ?_; rotate_left
  · obtain ⟨hcn, -⟩ := hcn
    simp at hk
    obtain ⟨hcc, -⟩ := bcell hbc
    simp at hcc
    go_simp
    rfl
  refine chain_call (T := Is ?_) 40 [5] rfl (by kernel_rfl) trivial (stable_is _) (fun ρ wc hbc hcn hk => ?_) ?_; rotate_left
  · obtain ⟨hcn, hfn⟩ := hcn
    simp at hk
    refine ⟨_, by go_simp; rfl, ?_⟩
    refine (BStart_any _ _ _ _).mono ?_
    rintro e w' ⟨rfl, hbq⟩
    refine ⟨_, rfl, ?_, hbq⟩
    unfold Is
    rfl
  refine chain_val (u := ?_) [6] rfl (by kernel_rfl) trivial (fun ρ wc hbc hcn hk => ?_) ?_; rotate_left
  · obtain ⟨hcn, -⟩ := hcn
    simp at hk
    go_simp
    rfl
  refine chain_val (u := ?_) [3] rfl (by kernel_rfl) trivial (fun ρ wc hbc hcn hk => ?_) ?_; rotate_left
  · obtain ⟨hcn, -⟩ := hcn
    simp at hk
    go_simp
    rfl
  refine chain_val (u := ?_) [8] rfl (by kernel_rfl) trivial (fun ρ wc hbc hcn hk => ?_) ?_; rotate_left
  · obtain ⟨hcn, -⟩ := hcn
    simp at hk
    obtain ⟨hcc, -⟩ := bcell hbc
    simp at hcc
    go_simp
    rfl
  refine chain_val (u := ?_) [7, 9] rfl (by kernel_rfl) trivial (fun ρ wc hbc hcn hk => ?_) ?_; rotate_left
  · obtain ⟨hcn, -⟩ := hcn
    simp at hk
    go_simp
    rfl
  refine chain_val (u := ?_) [10] rfl (by kernel_rfl) trivial (fun ρ wc hbc hcn hk => ?_) ?_; rotate_left
  · obtain ⟨hcn, -⟩ := hcn
    simp at hk
    go_simp
    rfl
  refine chain_end_lit 11 rfl (fun ff w5 hb5 hk => ?_)
  refine hKK _ _ ?_
  clear hKK KK
  simp [AllN] at hk
  simp only [frameL, hk]
  have HB5 := Lib.hid hb5
  clear hb5 hk
  go_wp2
  go_ret
  have hw : IntKind.i64.wrap (startI x - m) = startI x - m := by rw [IntKind.wrap_i64]; omega
  exact ⟨by simp [hw], (bel_drew HB1.out).trans (HB5.out.mono (bel_drew HB1.out).size)⟩

set_option maxHeartbeats 4000000 in
theorem measRun (s l nb : Nat) (A : Option Addr) (c : Nat) (ls : List (List Int)) (D X O : Int) (w : World) (hT : TabOK w) (hs : Sg w A ls) (hw : Wd2 ls) (hm : ls.length ≤ 40) (hf : ∀ j, (seg ls j).length ≤ 20000000) (hD : D ≤ 900) (hX : X ≤ 1000000)
    (h1 : Blk w s #[.slice A ls.length c]) (h2 : Blk w l #[.int .i64 D, .int .i64 X, .int .i64 O]) (h3 : Blk w nb #[.int .i64 0]) (hln : l ≠ nb) :
    Calls Tryd.prog 24 #[.pointer (some ⟨s, 0, none⟩), .pointer (some ⟨l, 0, none⟩), .pointer (some ⟨nb, 0, none⟩)] w fun e w' => Keeps (KB nb) w w' ∧ Blk w' nb #[.int .i64 (measV ls D X).1] ∧
      (((measV ls D X).2 = 0 ∧ e = .returned (.tuple #[])) ∨ ((measV ls D X).2 ≠ 0 ∧ e = failE (measV ls D X).2)) := by
  have hx0 : 0 ≤ startI X ∧ startI X ≤ 1000000 := by unfold startI; split <;> omega
  have HST := Lib.hid (start_any A c ls D X O w hT hs hw hm hf hD)
  have hmv := measV_nulL ls D X
  have HVA : Hid (∀ b A2 c2 w0 W, EnvD b A2 (nulL ls) w0 → Below b w0 W → Blk W b #[.slice A2 (nulL ls).length c2, .int .i64 D, .int .i64 X, .int .i64 O, .int .i64 (startI X)] →
      Calls Tryd.prog 25 #[.pointer (some ⟨b, 0, none⟩), .int .i64 0, .int .i64 0, .int .i64 1] W fun e w' => Keeps (KB b) W w' ∧ Blk w' b #[.slice A2 (nulL ls).length c2, .int .i64 D, .int .i64 X, .int .i64 O, .int .i64 (valV (nulL ls) D.toNat (startI X) 0 0).m] ∧
        (((valV (nulL ls) D.toNat (startI X) 0 0).e = 0 ∧ e = .returned (.tuple #[])) ∨ ((valV (nulL ls) D.toNat (startI X) 0 0).e ≠ 0 ∧ e = failE (valV (nulL ls) D.toNat (startI X) 0 0).e)) ∧ (0 ≤ (valV (nulL ls) D.toNat (startI X) 0 0).m ∧ (valV (nulL ls) D.toNat (startI X) 0 0).m ≤ startI X)) := Lib.hid (fun b A2 c2 w0 W E hb hk =>
    (charge_any b A2 c2 (nulL ls) D X O w0 E hD D.toNat (startI X) 0 0 1 W hb hk hx0.1 (by omega) (by omega) (by omega) (by omega) (by omega) (by omega) (by omega) (by congr 1; omega)).mono fun e w' h => ⟨h.1, h.2.1, h.2.2, valV_m E.wd E.m E.f D.toNat (startI X) 0 0 hx0.1⟩)
  generalize valV (nulL ls) D.toNat (startI X) 0 0 = sv at *
  generalize measV ls D X = mv at *
  have HM1 : Hid (sv.e ≠ 0 → mv = (0, sv.e)) := Lib.hid (fun h => by rw [hmv, if_pos h])
  have HM2 : Hid (sv.e = 0 → mv = (startI X - sv.m, 0)) := Lib.hid (fun h => by rw [hmv, if_neg (by rw [h]; simp)])
  have HXX := Lib.hid hX
  clear hmv
  have HN3 := Lib.hid h3
  have HL3 := Lib.hid h2
  have hnb := h3.lt
  have hlb := h2.lt
  clear hT hs hw hf hD hX
  obtain ⟨x1, y1, z1⟩ := h1
  obtain ⟨x2, y2, z2⟩ := h2
  go_enter Tryd.func24, Tryd.ntmps24
  go_wp2_with fail
  refine HST.out.mono ?_
  rintro e w3 ⟨b, A2, c2, ls2, w0, rfl, rfl, E, hb0, hk, hz, hbel⟩
  have HB3 := Lib.hid hbel
  have HN4 := Lib.hid (HN3.out.below hbel)
  have HL4 := Lib.hid (HL3.out.below hbel)
  have HV := Lib.hid (HVA.out b A2 c2 w0 w3 E hb0 hk)
  have hne : b ≠ nb := by omega
  have hne2 : b ≠ l := by omega
  have HZ : Hid (w.heap.size ≤ b ∧ w.heap.size ≤ w3.heap.size) := Lib.hid ⟨hz, hbel.size⟩
  clear hb0 hk E hz hbel x1 y1 z1 x2 y2 z2 HST HVA HN3 HL3 h3
  go_wp2_with fail
  refine HV.out.mono ?_
  rintro e w4 ⟨hk4, hbt4, ⟨he4, rfl⟩ | ⟨he4, rfl⟩, hsm⟩
  rotate_left
  · have HB4 := HB3.out.trans (bel_of_keeps hk4 HZ.out.2 HZ.out.1)
    have HN5 := HN4.out.keeps hk4 (by unfold KB; omega)
    have h5 := HM1.out he4
    unfold failE
    go_wp2
    rw [h5]
    exact ⟨rfl, keeps_of HB4, HN5, .inr ⟨he4, rfl⟩⟩
  have HB4 := Lib.hid (HB3.out.trans (bel_of_keeps hk4 HZ.out.2 HZ.out.1))
  have HN5 := Lib.hid (HN4.out.keeps hk4 (by unfold KB; omega))
  have HL5 := Lib.hid (HL4.out.keeps hk4 (by unfold KB; omega))
  have HT5 := Lib.hid hbt4
  have H5 := Lib.hid (HM2.out he4)
  have HUS := Lib.hid (fun w2 => BUsed2 D X O sv.m w2 hsm.1 (by omega) (by have := HXX.out; omega))
  clear HM1 HM2 hk4 he4 hbt4 HV HN4 HL4 HB3 hsm HXX
  go_wp2_with fail
  refine wp_region_t6_1 [] (by kernel_rfl) (by kernel_rfl) ?_
  refine t_val (u := ?_) [1] (by kernel_rfl) rfl (by kernel_rfl) trivial (fun ρ wc hbc hcn hq => ?_) ?_; rotate_left
  · obtain ⟨hcn, hfn⟩ := hcn
    simp at hq
    have x1 := (HL5.out.drew.below hbc).cell
    have x2 := (HT5.out.drew.below hbc).cell
    go_simp
    rfl
  refine t_val (u := ?_) [3] (by kernel_rfl) rfl (by kernel_rfl) trivial (fun ρ wc hbc hcn hq => ?_) ?_; rotate_left
  · obtain ⟨hcn, hfn⟩ := hcn
    simp at hq
    go_simp
    rfl
  refine t_val (u := ?_) [10] (by kernel_rfl) rfl (by kernel_rfl) trivial (fun ρ wc hbc hcn hq => ?_) ?_; rotate_left
  · obtain ⟨hcn, hfn⟩ := hcn
    simp at hq
    go_simp
    rfl
  refine t_val (u := ?_) [11] (by kernel_rfl) rfl (by kernel_rfl) trivial (fun ρ wc hbc hcn hq => ?_) ?_; rotate_left
  · obtain ⟨hcn, hfn⟩ := hcn
    simp at hq
    go_simp
    rfl
  refine t_val (u := ?_) [12] (by kernel_rfl) rfl (by kernel_rfl) trivial (fun ρ wc hbc hcn hq => ?_) ?_; rotate_left
  · obtain ⟨hcn, hfn⟩ := hcn
    simp at hq
    have x1 := (HL5.out.drew.below hbc).cell
    have x2 := (HT5.out.drew.below hbc).cell
    go_simp
    rfl
  refine t_call (T := Is (.int .i64 (startI X - sv.m))) (Is (.int .i64 (startI X - sv.m))) 26 [9, 13] (by kernel_rfl) rfl (by kernel_rfl) trivial (stable_is _) (free_is _) (fun _ _ h => h) (fun ρ wc hbc hcn hq => ?_) ?_
  · obtain ⟨hcn, hfn⟩ := hcn
    simp at hq
    refine ⟨_, by go_simp; rfl, ?_⟩
    refine (HUS.out _).mono ?_
    rintro e w' ⟨rfl, hbq⟩
    exact ⟨_, rfl, rfl, hbq⟩

  refine t_end_lit 15 rfl (fun ff w5 hb5 hk => ?_)
  have hb5' := bel_undrew hb5
  have HN6 := Lib.hid (HN5.out.below hb5')
  have HB6 := Lib.hid (bel_on HB4.out hb5')
  clear hb5 hb5' HN5 HL5 HT5 HB4 HUS
  simp [AllN] at hk
  simp only [frameL, hk, Nat.zero_add, Nat.reduceAdd]
  clear hk
  obtain ⟨x3, y3, z3⟩ := HN6.out
  go_wp2_with fail
  refine ⟨rfl, ?_⟩
  go_wp2_with fail
  refine abs_post (F := fun W => Blk W nb #[.int .i64 (startI X - sv.m)] ∧ Keeps (KB nb) w W) ⟨?_, ?_⟩ ?_
  · exact HN6.out.set 0 (by simp) _
  · exact keeps_set (p := ⟨nb, 0, none⟩) (keeps_of HB6.out) (.inl rfl) _
  rintro V ⟨B6, hkv⟩
  go_end0
  refine ⟨hkv, ?_, ?_⟩
  · rw [H5.out]
    exact B6
  · rw [H5.out]
    exact .inl ⟨rfl, rfl⟩
end

set_option maxHeartbeats 4000000 in
theorem measure_any (A : Option Addr) (c : Nat) (ls : List (List Int)) (D X O : Int) (w : World) (hT : TabOK w) (hs : Sg w A ls) (hw : Wd2 ls) (hm : ls.length ≤ 40) (hf : ∀ j, (seg ls j).length ≤ 20000000) (hD : D ≤ 900) (hX : X ≤ 1000000) :
    Calls Tryd.prog 10 #[.slice A ls.length c, .agg #[.int .i64 D, .int .i64 X, .int .i64 O]] w fun e w' => e = .returned (.tuple #[.int .i64 (measV ls D X).1, .int .i64 (measV ls D X).2]) ∧ Below w.heap.size w w' := by
  have hmf : ∀ (fn : Fn) (first cap : Array Value) (w : World), (Instr.makeFunc fn first cap).run Tryd.prog w = .ok (.func fn first cap) w := fun _ _ _ _ => rfl
  have HB1 := Lib.hid ((((Below.refl w.heap.size w).alloc (Nat.le_refl _) (.cells #[.slice A ls.length c] 22)).alloc (by simp) (.cells #[.int .i64 D, .int .i64 X, .int .i64 O] 24)).alloc (by simp; omega) (.cells #[.int .i64 0] 3))
  have HS1 : Hid (Blk (((w.alloc (.cells #[.slice A ls.length c] 22)).alloc (.cells #[.int .i64 D, .int .i64 X, .int .i64 O] 24)).alloc (.cells #[.int .i64 0] 3)) w.heap.size #[.slice A ls.length c]) := Lib.hid (((Blk.fresh _ _ _).alloc _).alloc _)
  have HL1 : Hid (Blk (((w.alloc (.cells #[.slice A ls.length c] 22)).alloc (.cells #[.int .i64 D, .int .i64 X, .int .i64 O] 24)).alloc (.cells #[.int .i64 0] 3)) (w.heap.size + 1) #[.int .i64 D, .int .i64 X, .int .i64 O]) := Lib.hid ((Blk.new (by simp)).alloc _)
  have HN1 : Hid (Blk (((w.alloc (.cells #[.slice A ls.length c] 22)).alloc (.cells #[.int .i64 D, .int .i64 X, .int .i64 O] 24)).alloc (.cells #[.int .i64 0] 3)) (w.heap.size + 1 + 1) #[.int .i64 0]) := Lib.hid (Blk.new (by simp))
  have HALL : Hid (∀ W : World, W.heap.size = w.heap.size + 1 + 1 + 1 → Below w.heap.size w W → Blk W w.heap.size #[.slice A ls.length c] → Blk W (w.heap.size + 1) #[.int .i64 D, .int .i64 X, .int .i64 O] → Blk W (w.heap.size + 1 + 1) #[.int .i64 0] →
      Calls Tryd.prog 19 #[.func (.func 24) #[] #[.pointer (some ⟨w.heap.size, 0, none⟩), .pointer (some ⟨w.heap.size + 1, 0, none⟩), .pointer (some ⟨w.heap.size + 1 + 1, 0, none⟩)]] W fun e w' => e = .returned (.int .i64 (measV ls D X).2) ∧ Keeps (KB (w.heap.size + 1 + 1)) W w' ∧ Blk w' (w.heap.size + 1 + 1) #[.int .i64 (measV ls D X).1]) := Lib.hid (fun W hz hb k1 k2 k3 =>
    attempt_meas (w.heap.size + 1 + 1) _ _ _ W (by omega) (fun V o h => h.alloc o) (fun V u h => h.other (p := ⟨W.heap.size, 0, none⟩) (by show W.heap.size ≠ _; omega) u) (Lib.hid (by
      have hbb := hb.alloc hb.size (.cells #[.int .i64 0] 31)
      exact measRun w.heap.size (w.heap.size + 1) (w.heap.size + 1 + 1) A c ls D X O (W.alloc (.cells #[.int .i64 0] 31)) (hT.on hbb) (hs.below hbb (Nat.le_refl _)) hw hm hf hD hX (k1.alloc _) (k2.alloc _) (k3.alloc _) (by omega))))
  generalize measV ls D X = mv at *
  clear hT hs hw hm hf hD hX
  go_enter Tryd.func10, Tryd.ntmps10
  go_wp2_with fail
  refine (HALL.out _ (by simp) HB1.out HS1.out HL1.out HN1.out).mono ?_
  rintro e w2 ⟨rfl, hk2, hmp⟩
  have HB2 := Lib.hid (HB1.out.trans (bel_of_keeps (N := w.heap.size) hk2 (by simp; omega) (by omega)))
  clear HALL HB1 HS1 HL1 HN1 hk2
  have HN := Lib.hid hmp
  obtain ⟨x3, y3, z3⟩ := hmp
  go_wp2_with fail
  refine abs_post (F := fun W => Blk W (w.heap.size + 1 + 1) #[.int .i64 mv.1] ∧ Below w.heap.size w W) ⟨?_, ?_⟩ ?_
  · exact HN.out.set 0 (by simp) _
  · exact Below.setCell HB2.out (by show w.heap.size ≤ w.heap.size + 1 + 1; omega) _
  rintro V ⟨B6, hbv⟩
  exact bodyPost_ret (v := .tuple #[.int .i64 mv.1, .int .i64 mv.2]) (by simp [results, Tryd.results10, go_sem, B6.cell]) rfl ⟨rfl, hbv⟩
end Go.Proofs.YtnmanhediiooaaaDoor

/- What the functions of package denote do, each by a contract (by the code at e247d06; the laws rest on DMessageU_any and DMeasure_any alone). -/
namespace Go.Proofs.YtnmanhediiooaaaDoor
open Go.ChangeShapes Go.WideShapes Go.ChangeAt Go.RowKit
set_option linter.unusedVariables false
set_option linter.unusedSimpArgs false
set_option maxRecDepth 100000

/-- what it gives may be written into -/
theorem DMessageU_any (A : Option Addr) (c : Nat) (ls : List (List Int)) (D X O : Int) (w : World) (hT : TabOK w) (hs : Sg w A ls) (hw : Wd2 ls) (hm : ls.length ≤ 40) (hf : ∀ j, (seg ls j).length ≤ 20000000) (hD : D ≤ 900) (hX : X ≤ 1000000) :
    Calls Tryd.prog 9 #[.slice A ls.length c, .agg #[.int .i64 D, .int .i64 X, .int .i64 O]] w fun e w' => ∃ v, e = .returned (.tuple #[v, .int .i64 (msgV ls D X).2]) ∧ NodU w.heap.size (msgV ls D X).1 v w' ∧ Below w.heap.size w w' :=
  message_any A c ls D X O w hT hs hw hm hf hD hX
theorem DMeasure_any (A : Option Addr) (c : Nat) (ls : List (List Int)) (D X O : Int) (w : World) (hT : TabOK w) (hs : Sg w A ls) (hw : Wd2 ls) (hm : ls.length ≤ 40) (hf : ∀ j, (seg ls j).length ≤ 20000000) (hD : D ≤ 900) (hX : X ≤ 1000000) :
    Calls Tryd.prog 10 #[.slice A ls.length c, .agg #[.int .i64 D, .int .i64 X, .int .i64 O]] w fun e w' => e = .returned (.tuple #[.int .i64 (measV ls D X).1, .int .i64 (measV ls D X).2]) ∧ Below w.heap.size w w' :=
  measure_any A c ls D X O w hT hs hw hm hf hD hX
theorem DMessage_is (A : Option Addr) (c m : Nat) (ls : List (List Int)) (D X O : Int) (x : Nd) (e : Int) (w : World) (hT : TabOK w) (hl : m = ls.length) (hs : Sg w A ls) (hw : Wd2 ls) (hm : ls.length ≤ 40) (hf : ∀ j, (seg ls j).length ≤ 20000000) (hD : D ≤ 900) (hX : X ≤ 1000000) (hq : msgV ls D X = (x, e)) :
    Calls Tryd.prog 9 #[.slice A m c, .agg #[.int .i64 D, .int .i64 X, .int .i64 O]] w fun r w' => ∃ v, r = .returned (.tuple #[v, .int .i64 e]) ∧ NodF w.heap.size x v w' ∧ Below w.heap.size w w' := by
  subst hl
  have h := DMessageU_any A c ls D X O w hT hs hw hm hf hD hX
  rw [hq] at h
  refine h.mono ?_
  rintro r w' ⟨v, h1, h2, h3⟩
  exact ⟨v, h1, h2.nod, h3⟩
theorem DMeasure_is (A : Option Addr) (c m : Nat) (ls : List (List Int)) (D X O y e : Int) (w : World) (hT : TabOK w) (hl : m = ls.length) (hs : Sg w A ls) (hw : Wd2 ls) (hm : ls.length ≤ 40) (hf : ∀ j, (seg ls j).length ≤ 20000000) (hD : D ≤ 900) (hX : X ≤ 1000000) (hq : measV ls D X = (y, e)) :
    Calls Tryd.prog 10 #[.slice A m c, .agg #[.int .i64 D, .int .i64 X, .int .i64 O]] w fun r w' => r = .returned (.tuple #[.int .i64 y, .int .i64 e]) ∧ Below w.heap.size w w' := by
  subst hl
  have h := DMeasure_any A c ls D X O w hT hs hw hm hf hD hX
  rw [hq] at h
  exact h
end Go.Proofs.YtnmanhediiooaaaDoor

/- What the reference's Equal does to nodes. -/
namespace Go.Proofs.YtnmanhediiooaaaDoor
open Go.ChangeShapes Go.WideShapes Go.ChangeAt Go.RowKit
set_option linter.unusedVariables false
set_option linter.unusedSimpArgs false
set_option maxRecDepth 100000
attribute [local simp] AllK KnowsV look Is

set_option maxHeartbeats 2000000 in
set_option maxRecDepth 100000 in
theorem RefEqual_node : ∀ (x y : Nd) (A : Option Addr) (c : Nat) (B : Option Addr) (c2 : Nat) (A1 : Option Addr) (c3 : Nat) (B1 : Option Addr) (c4 : Nat) (w : World), NdR w A c B c2 x → NdR w A1 c3 B1 c4 y → 
    Calls Tryd.prog 11 #[.agg #[.int .i64 x.k, .int .i64 x.e, .int .i64 x.n, .slice A x.d.length c, .slice B x.ks.length c2], .agg #[.int .i64 y.k, .int .i64 y.e, .int .i64 y.n, .slice A1 y.d.length c3, .slice B1 y.ks.length c4]] w fun r w' => r = .returned (.bool (eqN x y)) ∧ Below w.heap.size w w' := by
  refine Nd.ind ?_
  intro k e n d ks ih y A c B c2 A1 c3 B1 c4 w hx hy
  obtain ⟨k', e', n', d', ks'⟩ := y
  simp only [Nd.k, Nd.e, Nd.n, Nd.d, Nd.ks]
  have HX := Lib.hid hx
  have HY := Lib.hid hy
  have HI := Lib.hid ih
  have HOX := Lib.hid hx.open
  have HOY := Lib.hid hy.open
  have HB0 : Hid (Below w.heap.size w ((w.alloc (.cells #[.int .i64 k, .int .i64 e, .int .i64 n, .slice A d.length c, .slice B ks.length c2] 30)).alloc (.cells #[.int .i64 k', .int .i64 e', .int .i64 n', .slice A1 d'.length c3, .slice B1 ks'.length c4] 30))) := Lib.hid (((Below.refl _ _).alloc (Nat.le_refl _) _).alloc (by simp) _)
  clear hx hy ih
  by_cases h1 : k = k'
  case neg =>
    have t1 : (k != k') = true := by simpa using h1
    have HR : Hid (eqN (.mk k e n d ks) (.mk k' e' n' d' ks') = false) := Lib.hid (eqN_no (fun h => h1 (by injection h)))
    clear h1
    go_enter Tryd.func11, Tryd.ntmps11
    go_wp2
    go_ret
    exact ⟨by rw [HR.out]; rfl, HB0.out⟩
  by_cases h2 : e = e'
  case neg =>
    have t1 : (e != e') = true := by simpa using h2
    have HR : Hid (eqN (.mk k e n d ks) (.mk k' e' n' d' ks') = false) := Lib.hid (eqN_no (fun h => h2 (by injection h)))
    subst h1
    clear h2
    go_enter Tryd.func11, Tryd.ntmps11
    go_wp2
    go_ret
    exact ⟨by rw [HR.out]; rfl, HB0.out⟩
  by_cases h3 : n = n'
  case neg =>
    have t1 : (n != n') = true := by simpa using h3
    have HR : Hid (eqN (.mk k e n d ks) (.mk k' e' n' d' ks') = false) := Lib.hid (eqN_no (fun h => h3 (by injection h)))
    subst h1 h2
    clear h3
    go_enter Tryd.func11, Tryd.ntmps11
    go_wp2
    go_ret
    exact ⟨by rw [HR.out]; rfl, HB0.out⟩
  subst h1 h2 h3
  have HSA := Lib.hid (fun w' hr1 hr2 => Same_any A A1 c c3 d d' w' hr1 hr2 (by have := HOX.out.2.2.2.2.2.1; have := HOX.out.2.2.2.2.2.2.1; omega) (by have := HOY.out.2.2.2.2.2.1; have := HOY.out.2.2.2.2.2.2.1; omega))
  by_cases h4 : d = d'
  case neg =>
    have HR : Hid (eqN (.mk k e n d ks) (.mk k e n d' ks') = false) := Lib.hid (eqN_no (fun h => h4 (by injection h)))
    have HSB : Hid (sameB d d' = false) := Lib.hid (by unfold sameB; simp [h4])
    clear h4
    go_enter Tryd.func11, Tryd.ntmps11
    go_wp2_with fail
    refine (HSA.out _ (HOX.out.2.2.2.1.below HB0.out (Nat.le_refl _)) (HOY.out.2.2.2.1.below HB0.out (Nat.le_refl _))).mono ?_
    rintro r w1 ⟨rfl, m, rfl⟩
    rw [HSB.out]
    go_wp2
    go_ret
    exact ⟨by rw [HR.out]; rfl, bel_drewN HB0.out _⟩
  by_cases h5 : ks.length = ks'.length
  case neg =>
    have t1 : ((ks.length : Int) != (ks'.length : Int)) = true := by simp; omega
    have HR : Hid (eqN (.mk k e n d ks) (.mk k e n d' ks') = false) := Lib.hid (eqN_no (fun h => h5 (by injection h with _ _ _ _ h; rw [h])))
    have HSB : Hid (sameB d d' = true) := Lib.hid (by unfold sameB; simp [h4])
    clear h4
    go_enter Tryd.func11, Tryd.ntmps11
    go_wp2_with fail
    refine (HSA.out _ (HOX.out.2.2.2.1.below HB0.out (Nat.le_refl _)) (HOY.out.2.2.2.1.below HB0.out (Nat.le_refl _))).mono ?_
    rintro r w1 ⟨rfl, m, rfl⟩
    rw [HSB.out]
    go_wp2
    go_ret
    exact ⟨by rw [HR.out]; rfl, bel_drewN HB0.out _⟩
  subst h4
  have HSB : Hid (sameB d d = true) := Lib.hid (sameB_self d)
  have HL := Lib.hid h5
  have t1 : ((ks.length : Int) != (ks'.length : Int)) = false := by simp; omega
  clear h5
  go_enter Tryd.func11, Tryd.ntmps11
  go_wp2_with fail
  refine (HSA.out _ (HOX.out.2.2.2.1.below HB0.out (Nat.le_refl _)) (HOY.out.2.2.2.1.below HB0.out (Nat.le_refl _))).mono ?_
  rintro r w1 ⟨rfl, m, rfl⟩
  rw [HSB.out]
  go_wp2
  go_loopw [5] (fun i wr => ∃ j : Nat, j ≤ ks.length ∧ i = .int .i64 j ∧ ks.take j = ks'.take j ∧ Blk wr w.heap.size #[.int .i64 k, .int .i64 e, .int .i64 n, .slice A d.length c, .slice B ks.length c2] ∧ Blk wr (w.heap.size + 1) #[.int .i64 k, .int .i64 e, .int .i64 n, .slice A1 d.length c3, .slice B1 ks'.length c4] ∧ Below w.heap.size w wr) (fun i _ => ks.length - (intOf i).toNat)
  case atStart => exact ⟨0, by omega, rfl, by simp, ((Blk.fresh w _ _).alloc _).drewN _, (Blk.new (by simp)).drewN _, bel_drewN HB0.out _⟩
  case round =>
    obtain ⟨j, hj, rfl, htk, hB2, hB3, hbr⟩ := hrel
    have HB2 := Lib.hid hB2
    have HB3 := Lib.hid hB3
    have HR := Lib.hid hbr
    have HTK := Lib.hid htk
    clear hbr htk
    obtain ⟨x2, y2, z2⟩ := hB2
    obtain ⟨x3, y3, z3⟩ := hB3
    have hkl : ks.length ≤ 9223372036854775807 := by have h1 := HOX.out.2.2.2.2.2.2.2.2.1; have h2 := HOX.out.2.2.2.2.2.2.2.2.2.1; omega
    by_cases hlt : j < ks.length
    · have hlt2 : j < ks'.length := by have := HL.out; omega
      have hj1 : (j : Int) < (ks.length : Int) := by omega
      have hj2 : (j : Int) < (ks'.length : Int) := by omega
      obtain ⟨b, off, Aa, ca, Ba, cb, rfl, k0, k1, k2, k3, k4, hsub⟩ := HX.out.kids.atIn HR.out (Nat.le_refl _) hlt
      obtain ⟨b', off', Aa', ca', Ba', cb', rfl, l0, l1, l2, l3, l4, hsub'⟩ := HY.out.kids.atIn HR.out (Nat.le_refl _) hlt2
      have zb : b < wr.heap.size := World.block_lt_of_cell? wr ⟨b, off + j * 5, none⟩ k0
      have zb' : b' < wr.heap.size := World.block_lt_of_cell? wr ⟨b', off' + j * 5, none⟩ l0
      have HC : Hid (∀ wc, Below w.heap.size w wc → Calls Tryd.prog 11 #[.agg #[.int .i64 ks[j].k, .int .i64 ks[j].e, .int .i64 ks[j].n, .slice Aa ks[j].d.length ca, .slice Ba ks[j].ks.length cb], .agg #[.int .i64 ks'[j].k, .int .i64 ks'[j].e, .int .i64 ks'[j].n, .slice Aa' ks'[j].d.length ca', .slice Ba' ks'[j].ks.length cb']] wc fun r w' => r = .returned (.bool (eqN ks[j] ks'[j])) ∧ Below wc.heap.size wc w') :=
        Lib.hid (fun wc hwc => HI.out ks[j] (List.getElem_mem hlt) ks'[j] Aa ca Ba cb Aa' ca' Ba' cb' wc (hsub.on hwc (Nat.le_refl _)) (hsub'.on hwc (Nat.le_refl _)))
      have HTS := Lib.hid (take_eq_succ hlt hlt2 HTK.out)
      have HNE : Hid (ks[j] ≠ ks'[j] → eqN (.mk k e n d ks) (.mk k e n d ks') = false) := Lib.hid (fun hne => eqN_no (fun h => hne (by injection h with _ _ _ _ h; subst h; rfl)))
      have HEJ : Hid (eqN ks[j] ks'[j] = true ↔ ks[j] = ks'[j]) := Lib.hid eqN_iff
      clear hsub hsub'
      generalize ks[j] = kx at *
      generalize ks'[j] = ky at *
      generalize heb : eqN kx ky = eb at *
      clear heb
      go_wp2_with fail
      rename_i KK hKK
      refine wp_region_chain (by kernel_rfl) (by kernel_rfl) ?_
      refine chain_val (u := ?_) [2] rfl (by kernel_rfl) trivial (fun ρ wc hbc hcn hk => ?_) ?_; rotate_left
      · obtain ⟨hcn, -⟩ := hcn
        simp at hk
        go_simp
        rfl
      refine chain_val (u := ?_) [49] rfl (by kernel_rfl) trivial (fun ρ wc hbc hcn hk => ?_) ?_; rotate_left
      · obtain ⟨hcn, -⟩ := hcn
        simp at hk
        obtain ⟨hcc, -⟩ := bcell hbc
        simp at hcc
        go_simp
        rfl
      refine chain_val (u := ?_) [5] rfl (by kernel_rfl) trivial (fun ρ wc hbc hcn hk => ?_) ?_; rotate_left
      · obtain ⟨hcn, -⟩ := hcn
        simp at hk
        go_simp
        rfl
      refine chain_val (u := ?_) [50, 51] rfl (by kernel_rfl) trivial (fun ρ wc hbc hcn hk => ?_) ?_; rotate_left
      · obtain ⟨hcn, -⟩ := hcn
        simp at hk
        go_simp
        rfl
      refine chain_val (u := ?_) [52] rfl (by kernel_rfl) trivial (fun ρ wc hbc hcn hk => ?_) ?_; rotate_left
      · obtain ⟨hcn, -⟩ := hcn
        simp at hk
        obtain ⟨hcc, -⟩ := bcell hbc
        simp at hcc
        go_simp
        rfl
      refine chain_val (u := ?_) [3] rfl (by kernel_rfl) trivial (fun ρ wc hbc hcn hk => ?_) ?_; rotate_left
      · obtain ⟨hcn, -⟩ := hcn
        simp at hk
        go_simp
        rfl
      refine chain_val (u := ?_) [54] rfl (by kernel_rfl) trivial (fun ρ wc hbc hcn hk => ?_) ?_; rotate_left
      · obtain ⟨hcn, -⟩ := hcn
        simp at hk
        obtain ⟨hcc, -⟩ := bcell hbc
        simp at hcc
        go_simp
        rfl
      refine chain_val (u := ?_) [5] rfl (by kernel_rfl) trivial (fun ρ wc hbc hcn hk => ?_) ?_; rotate_left
      · obtain ⟨hcn, -⟩ := hcn
        simp at hk
        go_simp
        rfl
      refine chain_val (u := ?_) [55, 56] rfl (by kernel_rfl) trivial (fun ρ wc hbc hcn hk => ?_) ?_; rotate_left
      · obtain ⟨hcn, -⟩ := hcn
        simp at hk
        go_simp
        rfl
      refine chain_val (u := ?_) [57] rfl (by kernel_rfl) trivial (fun ρ wc hbc hcn hk => ?_) ?_; rotate_left
      · obtain ⟨hcn, -⟩ := hcn
        simp at hk
        obtain ⟨hcc, -⟩ := bcell hbc
        simp at hcc
        go_simp
        rfl
      refine chain_call (T := Is ?_) 11 [53, 58] rfl (by kernel_rfl) trivial (stable_is _) (fun ρ wc hbc hcn hk => ?_) ?_; rotate_left
      · obtain ⟨hcn, hfn⟩ := hcn
        simp at hk
        refine ⟨_, by go_simp; rfl, ?_⟩
        refine (HC.out _ (bel_on (bel_drew HR.out) hbc)).mono ?_
        rintro e w' ⟨rfl, hbq⟩
        refine ⟨_, rfl, ?_, hbq⟩
        unfold Is
        rfl
      refine chain_val (u := ?_) [59] rfl (by kernel_rfl) trivial (fun ρ wc hbc hcn hk => ?_) ?_; rotate_left
      · obtain ⟨hcn, -⟩ := hcn
        simp at hk
        go_simp
        rfl
      refine chain_end_lit 61 rfl (fun ff w7 hb7 hk => ?_)
      refine hKK _ _ ?_
      clear hKK KK
      simp [AllN] at hk
      simp only [frameL, hk]
      have HB7 : Hid (Below w.heap.size w w7) := Lib.hid (bel_on (bel_drew HR.out) hb7)
      have B2 := Lib.hid (HB2.out.drew.below hb7)
      have B3 := Lib.hid (HB3.out.drew.below hb7)
      clear hb7 hk x2 y2 x3 y3 k0 k1 k2 k3 k4 l0 l1 l2 l3 l4
      cases eb with
      | true =>
        go_wp2
        go_roundw
        case rel => exact ⟨j + 1, by omega, by go_num, HTS.out (HEJ.out.1 rfl), B2.out, B3.out, HB7.out⟩
        case measure => simp [intOf]; omega
      | false =>
        go_wp2
        go_ret
        exact ⟨by rw [HNE.out (fun h => by have := HEJ.out.2 h; cases this)]; rfl, HB7.out⟩
    · obtain rfl : j = ks.length := by omega
      have HRR : Hid (eqN (.mk k e n d ks) (.mk k e n d ks') = true) := Lib.hid (eqN_yes (by
        have h := HTK.out
        rw [List.take_length, HL.out, List.take_length] at h
        rw [h]))
      go_wp2
      go_ret
      exact ⟨by rw [HRR.out]; rfl, HR.out⟩
end Go.Proofs.YtnmanhediiooaaaDoor

/- What the reference's Trimmed says of a node. -/
namespace Go.Proofs.YtnmanhediiooaaaDoor
open Go.ChangeShapes Go.WideShapes Go.ChangeAt Go.RowKit
set_option linter.unusedVariables false
set_option linter.unusedSimpArgs false
set_option maxRecDepth 100000
attribute [local simp] AllK KnowsV look Is

theorem wrap64_small {x : Int} (h0 : -9223372036854775808 ≤ x) (h1 : x ≤ 9223372036854775807) : IntKind.i64.wrap x = x := by rw [IntKind.wrap_i64]; omega
set_option maxHeartbeats 8000000 in
set_option maxRecDepth 100000 in
theorem RefTrimmed11_node : ∀ (x : Nd) (A : Option Addr) (c : Nat) (B : Option Addr) (c2 : Nat) (w : World), NdR w A c B c2 x → sizeN x ≤ 1099511627776 →
    Calls Tryd.prog 13 #[.agg #[.int .i64 x.k, .int .i64 x.e, .int .i64 x.n, .slice A x.d.length c, .slice B x.ks.length c2]] w fun r w' => r = .returned (.bool (trimmedN x)) ∧ Below w.heap.size w w' := by
  refine Nd.ind ?_
  intro k e n d ks ih A c B c2 w hx hs
  simp only [Nd.k, Nd.e, Nd.n, Nd.d, Nd.ks]
  have HX := Lib.hid hx
  have HI := Lib.hid ih
  have hso : sizeN (.mk k e n d ks) = 1 + d.length + sizeK ks := by simp only [sizeN]
  rw [hso] at hs
  have hkl := sizeK_length ks
  have hdl : d.length ≤ 1099511627776 := by omega
  have HD := Lib.hid hx.open.2.2.2.1
  have HBT := Lib.hid hx.open.2.2.2.2.1
  have HWD := Lib.hid (fun w' (hb : Below w.heap.size w w') => RefWords11_any A c d w' (HD.out.below hb (Nat.le_refl _)) HBT.out hdl)
  have HPT := Lib.hid (fun w' (hb : Below w.heap.size w w') => RefPointers11_any B c2 ks w' (HX.out.kids.on hb (Nat.le_refl _)) (by omega))
  have HTD : Hid (trimmedN (.mk k e n d ks) = (decide (k = 1 → 8 * wordsT d = d.length ∧ ptrsT ks = ks.length) && trimmedK ks)) := Lib.hid (by simp only [trimmedN])
  have hwb : wordsT d ≤ 1099511627776 := by have := wordsF_le d d.length; unfold wordsT; omega
  have hpb := ptrsT_le ks
  clear hx ih hso
  generalize trimmedN (.mk k e n d ks) = T at *
  go_enter Tryd.func13, Tryd.ntmps13
  have hcase : (k ≠ 1) ∨ (k = 1 ∧ 8 * wordsT d ≠ d.length) ∨ (k = 1 ∧ 8 * wordsT d = d.length ∧ ptrsT ks ≠ ks.length) ∨ (k = 1 ∧ 8 * wordsT d = d.length ∧ ptrsT ks = ks.length) := by
    by_cases h1 : k = 1 <;> by_cases h2 : 8 * wordsT d = d.length <;> by_cases h3 : ptrsT ks = ks.length <;> simp [h1, h2, h3]
  rcases hcase with h1 | ⟨h1, h2⟩ | ⟨h1, h2, h3⟩ | ⟨h1, h2, h3⟩
  · have HYES : Hid (T = trimmedK ks) := Lib.hid (by rw [HTD.out, decide_eq_true (fun h => absurd h h1), Bool.true_and])
    have t1 : (k == 1) = false := by simpa using h1
    have H1 := Lib.hid h1
    clear h1
    go_wp2_with fail
    refine abs_code10 (F := fun W => Blk W w.heap.size #[.int .i64 k, .int .i64 e, .int .i64 n, .slice A d.length c, .slice B ks.length c2] ∧ Below w.heap.size w W) ⟨Blk.fresh _ _ _, (Below.refl _ _).alloc (Nat.le_refl _) _⟩ ?_
    rintro w1 ⟨h2, hb⟩
    have H2 := Lib.hid h2
    have HB := Lib.hid hb
    clear h2 hb
    rename_i KK hKK
    refine wp_region_chain (by kernel_rfl) (by kernel_rfl) ?_
    refine chain_val (u := ?_) [1] rfl (by kernel_rfl) trivial (fun ρ wc hbc hcn hk => ?_) ?_; rotate_left
    · obtain ⟨hcn, -⟩ := hcn
      simp at hk
      go_simp
      rfl
    refine chain_val (u := ?_) [4] rfl (by kernel_rfl) trivial (fun ρ wc hbc hcn hk => ?_) ?_; rotate_left
    · obtain ⟨hcn, -⟩ := hcn
      simp at hk
      obtain ⟨x2, y2, z2⟩ := H2.out.drew.below hbc
      go_simp
      rfl
    refine chain_val (u := ?_) [5] rfl (by kernel_rfl) trivial (fun ρ wc hbc hcn hk => ?_) ?_; rotate_left
    · obtain ⟨hcn, -⟩ := hcn
      simp at hk
      go_simp
      rfl
    refine chain_val (u := ?_) [6] rfl (by kernel_rfl) trivial (fun ρ wc hbc hcn hk => ?_) ?_; rotate_left
    · obtain ⟨hcn, -⟩ := hcn
      simp at hk
      go_simp
      rfl
    refine chain_skip (s := 7) (c := false) rfl rfl (by decide +kernel) rfl rfl (fun w x hx => by simpa using hx) ?_
    refine chain_skip (s := 7) (c := false) rfl rfl (by decide +kernel) rfl rfl (fun w x hx => by simpa using hx) ?_
    refine chain_skip (s := 7) (c := false) rfl rfl (by decide +kernel) rfl rfl (fun w x hx => by simpa using hx) ?_
    refine chain_skip (s := 7) (c := false) rfl rfl (by decide +kernel) rfl rfl (fun w x hx => by simpa using hx) ?_
    refine chain_skip (s := 7) (c := false) rfl rfl (by decide +kernel) rfl rfl (fun w x hx => by simpa using hx) ?_
    refine chain_skip (s := 7) (c := false) rfl rfl (by decide +kernel) rfl rfl (fun w x hx => by simpa using hx) ?_
    refine chain_skip (s := 7) (c := false) rfl rfl (by decide +kernel) rfl rfl (fun w x hx => by simpa using hx) ?_
    refine chain_skip (s := 7) (c := false) rfl rfl (by decide +kernel) rfl rfl (fun w x hx => by simpa using hx) ?_
    refine chain_skip (s := 7) (c := false) rfl rfl (by decide +kernel) rfl rfl (fun w x hx => by simpa using hx) ?_
    refine chain_skipU (s := 16) rfl rfl (by decide +kernel) rfl (fun w x hx => by simpa using hx) ?_
    refine chain_skipU (s := 16) rfl rfl (by decide +kernel) rfl (fun w x hx => by simpa using hx) ?_
    refine chain_skipU (s := 16) rfl rfl (by decide +kernel) rfl (fun w x hx => by simpa using hx) ?_
    refine chain_skipU (s := 16) rfl rfl (by decide +kernel) rfl (fun w x hx => by simpa using hx) ?_
    refine chain_skipU (s := 16) rfl rfl (by decide +kernel) rfl (fun w x hx => by simpa using hx) ?_
    refine chain_skipU (s := 16) rfl rfl (by decide +kernel) rfl (fun w x hx => by simpa using hx) ?_
    refine chain_skipU (s := 16) rfl rfl (by decide +kernel) rfl (fun w x hx => by simpa using hx) ?_
    refine chain_skip (s := 7) (c := false) rfl rfl (by decide +kernel) rfl rfl (fun w x hx => by simpa using hx) ?_
    refine chain_val (u := ?_) [7, 24] rfl (by kernel_rfl) trivial (fun ρ wc hbc hcn hk => ?_) ?_; rotate_left
    · obtain ⟨hcn, -⟩ := hcn
      simp at hk
      go_simp
      rfl
    refine chain_end_lit 40 rfl (fun ff w7 hb7 hk => ?_)
    refine hKK _ _ ?_
    simp [AllN] at hk
    simp only [frameL, hk]
    have hb7' : Below w1.heap.size w1 w7 := ⟨hb7.os, hb7.tape, hb7.output, hb7.size, hb7.block⟩
    have G2 := Lib.hid (H2.out.below hb7')
    have GB := Lib.hid (bel_on HB.out hb7')
    clear hb7 hb7' hk H2 HB
    obtain ⟨x2, y2, z2⟩ := G2.out
    go_wp2
    go_loopw [3] (fun i wr => ∃ j : Nat, j ≤ ks.length ∧ i = .int .i64 j ∧ trimmedK (ks.take j) = true ∧ Blk wr w.heap.size #[.int .i64 k, .int .i64 e, .int .i64 n, .slice A d.length c, .slice B ks.length c2] ∧ Below w.heap.size w wr) (fun i _ => ks.length - (intOf i).toNat)
    case atStart => exact ⟨0, by omega, rfl, by simp [trimmedK], G2.out, GB.out⟩
    case round =>
      obtain ⟨j, hj, rfl, htk, hB, hbr⟩ := hrel
      have HB := Lib.hid hB
      have HR := Lib.hid hbr
      have HTK := Lib.hid htk
      clear hbr htk x2 y2 z2
      obtain ⟨x1, y1, z1⟩ := hB
      by_cases hlt : j < ks.length
      · obtain ⟨b, off, Aa, ca, Ba, cb, rfl, k0, k1, k2, k3, k4, hsub⟩ := HX.out.kids.atIn HR.out (Nat.le_refl _) hlt
        have hz := sizeN_kid (List.getElem_mem hlt)
        have HC := Lib.hid (HI.out ks[j] (List.getElem_mem hlt) Aa ca Ba cb wr (hsub.on HR.out (Nat.le_refl _)) (by omega))
        have HT := Lib.hid (trimmedK_take ks j hlt)
        have HN := Lib.hid (trimmedK_no ks j hlt)
        clear hsub
        generalize ks[j] = kx at *
        go_wp2_with fail
        refine HC.out.mono ?_
        rintro r w9 ⟨rfl, hb9⟩
        have HB9 : Hid (Below w.heap.size w w9) := Lib.hid (bel_on HR.out hb9)
        have B9 := Lib.hid (HB.out.below hb9)
        clear hb9 x1 y1 z1 k0 k1 k2 k3 k4 HB HR
        obtain ⟨x1, y1, z1⟩ := B9.out
        cases hvx : trimmedN kx with
        | false =>
          have HRR : Hid (T = false) := Lib.hid (by rw [HTD.out, HN.out hvx, Bool.and_false])
          clear hvx
          go_wp2
          go_ret
          exact ⟨by rw [HRR.out]; rfl, HB9.out⟩
        | true =>
          have HT2 : Hid (trimmedK (ks.take (j + 1)) = true) := Lib.hid (by rw [HT.out, HTK.out, hvx]; rfl)
          clear hvx
          go_wp2
          go_roundw
          case rel => exact ⟨j + 1, by omega, by go_num, HT2.out, B9.out, HB9.out⟩
          case measure => simp [intOf]; omega
      · obtain rfl : j = ks.length := by omega
        go_wp2
        go_ret
        exact ⟨by rw [HYES.out, ← HTK.out, List.take_length]; rfl, HR.out⟩
  · have HNO : Hid (T = false) := Lib.hid (by rw [HTD.out, decide_eq_false (fun h => h2 (h h1).1), Bool.false_and])
    have t1 : (k == 1) = true := by simpa using h1
    have t2 : ((8 * (wordsT d : Int)) != (d.length : Int)) = true := bne_iff_ne.2 (by omega)
    have H1 := Lib.hid h1
    have HH2 := Lib.hid h2
    clear h1 h2
    go_wp2_with fail
    refine abs_code10 (F := fun W => Blk W w.heap.size #[.int .i64 k, .int .i64 e, .int .i64 n, .slice A d.length c, .slice B ks.length c2] ∧ Below w.heap.size w W) ⟨Blk.fresh _ _ _, (Below.refl _ _).alloc (Nat.le_refl _) _⟩ ?_
    rintro w1 ⟨h2, hb⟩
    have H2 := Lib.hid h2
    have HB := Lib.hid hb
    clear h2 hb
    rename_i KK hKK
    refine wp_region_chain (by kernel_rfl) (by kernel_rfl) ?_
    refine chain_val (u := ?_) [1] rfl (by kernel_rfl) trivial (fun ρ wc hbc hcn hk => ?_) ?_; rotate_left
    · obtain ⟨hcn, -⟩ := hcn
      simp at hk
      go_simp
      rfl
    refine chain_val (u := ?_) [4] rfl (by kernel_rfl) trivial (fun ρ wc hbc hcn hk => ?_) ?_; rotate_left
    · obtain ⟨hcn, -⟩ := hcn
      simp at hk
      obtain ⟨x2, y2, z2⟩ := H2.out.drew.below hbc
      go_simp
      rfl
    refine chain_val (u := ?_) [5] rfl (by kernel_rfl) trivial (fun ρ wc hbc hcn hk => ?_) ?_; rotate_left
    · obtain ⟨hcn, -⟩ := hcn
      simp at hk
      go_simp
      rfl
    refine chain_val (u := ?_) [6] rfl (by kernel_rfl) trivial (fun ρ wc hbc hcn hk => ?_) ?_; rotate_left
    · obtain ⟨hcn, -⟩ := hcn
      simp at hk
      go_simp
      rfl
    refine chain_val (u := ?_) [1] rfl (by kernel_rfl) ⟨7, by decide +kernel, rfl, fun w x hx => by simpa using hx⟩ (fun ρ wc hbc hcn hk => ?_) ?_; rotate_left
    · obtain ⟨hcn, -⟩ := hcn
      simp at hk
      go_simp
      rfl
    refine chain_val (u := ?_) [8] rfl (by kernel_rfl) ⟨7, by decide +kernel, rfl, fun w x hx => by simpa using hx⟩ (fun ρ wc hbc hcn hk => ?_) ?_; rotate_left
    · obtain ⟨hcn, -⟩ := hcn
      simp at hk
      obtain ⟨x2, y2, z2⟩ := H2.out.drew.below hbc
      go_simp
      rfl
    refine chain_call (T := Is ?_) 29 [9] rfl (by kernel_rfl) ⟨7, by decide +kernel, rfl, fun w x hx => by simpa using hx⟩ (stable_is _) (fun ρ wc hbc hcn hk => ?_) ?_; rotate_left
    · obtain ⟨hcn, hfn⟩ := hcn
      simp at hk
      refine ⟨_, by go_simp; rfl, ?_⟩
      refine (HWD.out wc (bel_on (bel_drew HB.out) hbc)).mono ?_
      rintro e w' ⟨rfl, rfl⟩
      refine ⟨_, rfl, ?_, Below.refl _ _⟩
      unfold Is
      rfl
    refine chain_val (u := .int .i64 (8 * (wordsT d : Int))) [10] rfl (by kernel_rfl) ⟨7, by decide +kernel, rfl, fun w x hx => by simpa using hx⟩ (fun ρ wc hbc hcn hk => ?_) ?_
    · obtain ⟨hcn, -⟩ := hcn
      simp at hk
      go_simp
      first | rfl | (rw [wrap64_small (by omega) (by omega)]) | (congr 3; rw [IntKind.wrap_i64]; omega)
    refine chain_val (u := ?_) [1] rfl (by kernel_rfl) ⟨7, by decide +kernel, rfl, fun w x hx => by simpa using hx⟩ (fun ρ wc hbc hcn hk => ?_) ?_; rotate_left
    · obtain ⟨hcn, -⟩ := hcn
      simp at hk
      go_simp
      rfl
    refine chain_val (u := ?_) [12] rfl (by kernel_rfl) ⟨7, by decide +kernel, rfl, fun w x hx => by simpa using hx⟩ (fun ρ wc hbc hcn hk => ?_) ?_; rotate_left
    · obtain ⟨hcn, -⟩ := hcn
      simp at hk
      obtain ⟨x2, y2, z2⟩ := H2.out.drew.below hbc
      go_simp
      rfl
    refine chain_val (u := ?_) [13] rfl (by kernel_rfl) ⟨7, by decide +kernel, rfl, fun w x hx => by simpa using hx⟩ (fun ρ wc hbc hcn hk => ?_) ?_; rotate_left
    · obtain ⟨hcn, -⟩ := hcn
      simp at hk
      go_simp
      rfl
    refine chain_val (u := ?_) [11, 14] rfl (by kernel_rfl) ⟨7, by decide +kernel, rfl, fun w x hx => by simpa using hx⟩ (fun ρ wc hbc hcn hk => ?_) ?_; rotate_left
    · obtain ⟨hcn, -⟩ := hcn
      simp at hk
      go_simp
      rfl
    refine chain_val (u := ?_) [15] rfl (by kernel_rfl) ⟨7, by decide +kernel, rfl, fun w x hx => by simpa using hx⟩ (fun ρ wc hbc hcn hk => ?_) ?_; rotate_left
    · obtain ⟨hcn, -⟩ := hcn
      simp at hk
      go_simp
      rfl
    refine chain_skip (s := 16) (c := true) rfl rfl (by decide +kernel) rfl rfl (fun w x hx => by simpa using hx) ?_
    refine chain_skip (s := 16) (c := true) rfl rfl (by decide +kernel) rfl rfl (fun w x hx => by simpa using hx) ?_
    refine chain_skip (s := 16) (c := true) rfl rfl (by decide +kernel) rfl rfl (fun w x hx => by simpa using hx) ?_
    refine chain_skip (s := 16) (c := true) rfl rfl (by decide +kernel) rfl rfl (fun w x hx => by simpa using hx) ?_
    refine chain_skip (s := 16) (c := true) rfl rfl (by decide +kernel) rfl rfl (fun w x hx => by simpa using hx) ?_
    refine chain_skip (s := 16) (c := true) rfl rfl (by decide +kernel) rfl rfl (fun w x hx => by simpa using hx) ?_
    refine chain_skip (s := 16) (c := true) rfl rfl (by decide +kernel) rfl rfl (fun w x hx => by simpa using hx) ?_
    refine chain_val (u := ?_) [16, 23] rfl (by kernel_rfl) ⟨7, by decide +kernel, rfl, fun w x hx => by simpa using hx⟩ (fun ρ wc hbc hcn hk => ?_) ?_; rotate_left
    · obtain ⟨hcn, -⟩ := hcn
      simp at hk
      go_simp
      rfl
    refine chain_val (u := ?_) [7, 24] rfl (by kernel_rfl) trivial (fun ρ wc hbc hcn hk => ?_) ?_; rotate_left
    · obtain ⟨hcn, -⟩ := hcn
      simp at hk
      go_simp
      rfl
    refine chain_end_lit 40 rfl (fun ff w7 hb7 hk => ?_)
    refine hKK _ _ ?_
    simp [AllN] at hk
    simp only [frameL, hk]
    have hb7' : Below w1.heap.size w1 w7 := ⟨hb7.os, hb7.tape, hb7.output, hb7.size, hb7.block⟩
    have G2 := Lib.hid (H2.out.below hb7')
    have GB := Lib.hid (bel_on HB.out hb7')
    clear hb7 hb7' hk H2 HB
    obtain ⟨x2, y2, z2⟩ := G2.out
    go_wp2
    go_ret
    exact ⟨by rw [HNO.out]; rfl, GB.out⟩
  · have HNO : Hid (T = false) := Lib.hid (by rw [HTD.out, decide_eq_false (fun h => h3 (h h1).2), Bool.false_and])
    have t1 : (k == 1) = true := by simpa using h1
    have t2 : ((8 * (wordsT d : Int)) != (d.length : Int)) = false := bne_eq_false_iff_eq.2 (by omega)
    have t3 : ((ptrsT ks : Int) != (ks.length : Int)) = true := bne_iff_ne.2 (by omega)
    have t3' : (ptrsT ks != ks.length) = true := bne_iff_ne.2 h3
    have H1 := Lib.hid h1
    have HH2 := Lib.hid h2
    have HH3 := Lib.hid h3
    clear h1 h2 h3
    go_wp2_with fail
    refine abs_code10 (F := fun W => Blk W w.heap.size #[.int .i64 k, .int .i64 e, .int .i64 n, .slice A d.length c, .slice B ks.length c2] ∧ Below w.heap.size w W) ⟨Blk.fresh _ _ _, (Below.refl _ _).alloc (Nat.le_refl _) _⟩ ?_
    rintro w1 ⟨h2, hb⟩
    have H2 := Lib.hid h2
    have HB := Lib.hid hb
    clear h2 hb
    rename_i KK hKK
    refine wp_region_chain (by kernel_rfl) (by kernel_rfl) ?_
    refine chain_val (u := ?_) [1] rfl (by kernel_rfl) trivial (fun ρ wc hbc hcn hk => ?_) ?_; rotate_left
    · obtain ⟨hcn, -⟩ := hcn
      simp at hk
      go_simp
      rfl
    refine chain_val (u := ?_) [4] rfl (by kernel_rfl) trivial (fun ρ wc hbc hcn hk => ?_) ?_; rotate_left
    · obtain ⟨hcn, -⟩ := hcn
      simp at hk
      obtain ⟨x2, y2, z2⟩ := H2.out.drew.below hbc
      go_simp
      rfl
    refine chain_val (u := ?_) [5] rfl (by kernel_rfl) trivial (fun ρ wc hbc hcn hk => ?_) ?_; rotate_left
    · obtain ⟨hcn, -⟩ := hcn
      simp at hk
      go_simp
      rfl
    refine chain_val (u := ?_) [6] rfl (by kernel_rfl) trivial (fun ρ wc hbc hcn hk => ?_) ?_; rotate_left
    · obtain ⟨hcn, -⟩ := hcn
      simp at hk
      go_simp
      rfl
    refine chain_val (u := ?_) [1] rfl (by kernel_rfl) ⟨7, by decide +kernel, rfl, fun w x hx => by simpa using hx⟩ (fun ρ wc hbc hcn hk => ?_) ?_; rotate_left
    · obtain ⟨hcn, -⟩ := hcn
      simp at hk
      go_simp
      rfl
    refine chain_val (u := ?_) [8] rfl (by kernel_rfl) ⟨7, by decide +kernel, rfl, fun w x hx => by simpa using hx⟩ (fun ρ wc hbc hcn hk => ?_) ?_; rotate_left
    · obtain ⟨hcn, -⟩ := hcn
      simp at hk
      obtain ⟨x2, y2, z2⟩ := H2.out.drew.below hbc
      go_simp
      rfl
    refine chain_call (T := Is ?_) 29 [9] rfl (by kernel_rfl) ⟨7, by decide +kernel, rfl, fun w x hx => by simpa using hx⟩ (stable_is _) (fun ρ wc hbc hcn hk => ?_) ?_; rotate_left
    · obtain ⟨hcn, hfn⟩ := hcn
      simp at hk
      refine ⟨_, by go_simp; rfl, ?_⟩
      refine (HWD.out wc (bel_on (bel_drew HB.out) hbc)).mono ?_
      rintro e w' ⟨rfl, rfl⟩
      refine ⟨_, rfl, ?_, Below.refl _ _⟩
      unfold Is
      rfl
    refine chain_val (u := .int .i64 (8 * (wordsT d : Int))) [10] rfl (by kernel_rfl) ⟨7, by decide +kernel, rfl, fun w x hx => by simpa using hx⟩ (fun ρ wc hbc hcn hk => ?_) ?_
    · obtain ⟨hcn, -⟩ := hcn
      simp at hk
      go_simp
      first | rfl | (rw [wrap64_small (by omega) (by omega)]) | (congr 3; rw [IntKind.wrap_i64]; omega)
    refine chain_val (u := ?_) [1] rfl (by kernel_rfl) ⟨7, by decide +kernel, rfl, fun w x hx => by simpa using hx⟩ (fun ρ wc hbc hcn hk => ?_) ?_; rotate_left
    · obtain ⟨hcn, -⟩ := hcn
      simp at hk
      go_simp
      rfl
    refine chain_val (u := ?_) [12] rfl (by kernel_rfl) ⟨7, by decide +kernel, rfl, fun w x hx => by simpa using hx⟩ (fun ρ wc hbc hcn hk => ?_) ?_; rotate_left
    · obtain ⟨hcn, -⟩ := hcn
      simp at hk
      obtain ⟨x2, y2, z2⟩ := H2.out.drew.below hbc
      go_simp
      rfl
    refine chain_val (u := ?_) [13] rfl (by kernel_rfl) ⟨7, by decide +kernel, rfl, fun w x hx => by simpa using hx⟩ (fun ρ wc hbc hcn hk => ?_) ?_; rotate_left
    · obtain ⟨hcn, -⟩ := hcn
      simp at hk
      go_simp
      rfl
    refine chain_val (u := ?_) [11, 14] rfl (by kernel_rfl) ⟨7, by decide +kernel, rfl, fun w x hx => by simpa using hx⟩ (fun ρ wc hbc hcn hk => ?_) ?_; rotate_left
    · obtain ⟨hcn, -⟩ := hcn
      simp at hk
      go_simp
      rfl
    refine chain_val (u := ?_) [15] rfl (by kernel_rfl) ⟨7, by decide +kernel, rfl, fun w x hx => by simpa using hx⟩ (fun ρ wc hbc hcn hk => ?_) ?_; rotate_left
    · obtain ⟨hcn, -⟩ := hcn
      simp at hk
      go_simp
      rfl
    refine chain_val (u := ?_) [1] rfl (by kernel_rfl) ⟨16, by decide +kernel, rfl, fun w x hx => by simpa using hx⟩ (fun ρ wc hbc hcn hk => ?_) ?_; rotate_left
    · obtain ⟨hcn, -⟩ := hcn
      simp at hk
      go_simp
      rfl
    refine chain_val (u := ?_) [17] rfl (by kernel_rfl) ⟨16, by decide +kernel, rfl, fun w x hx => by simpa using hx⟩ (fun ρ wc hbc hcn hk => ?_) ?_; rotate_left
    · obtain ⟨hcn, -⟩ := hcn
      simp at hk
      obtain ⟨x2, y2, z2⟩ := H2.out.drew.below hbc
      go_simp
      rfl
    refine chain_call (T := Is ?_) 30 [18] rfl (by kernel_rfl) ⟨16, by decide +kernel, rfl, fun w x hx => by simpa using hx⟩ (stable_is _) (fun ρ wc hbc hcn hk => ?_) ?_; rotate_left
    · obtain ⟨hcn, hfn⟩ := hcn
      simp at hk
      refine ⟨_, by go_simp; rfl, ?_⟩
      refine (HPT.out wc (bel_on (bel_drew HB.out) hbc)).mono ?_
      rintro e w' ⟨rfl, rfl⟩
      refine ⟨_, rfl, ?_, Below.refl _ _⟩
      unfold Is
      rfl
    refine chain_val (u := ?_) [1] rfl (by kernel_rfl) ⟨16, by decide +kernel, rfl, fun w x hx => by simpa using hx⟩ (fun ρ wc hbc hcn hk => ?_) ?_; rotate_left
    · obtain ⟨hcn, -⟩ := hcn
      simp at hk
      go_simp
      rfl
    refine chain_val (u := ?_) [20] rfl (by kernel_rfl) ⟨16, by decide +kernel, rfl, fun w x hx => by simpa using hx⟩ (fun ρ wc hbc hcn hk => ?_) ?_; rotate_left
    · obtain ⟨hcn, -⟩ := hcn
      simp at hk
      obtain ⟨x2, y2, z2⟩ := H2.out.drew.below hbc
      go_simp
      rfl
    refine chain_val (u := ?_) [21] rfl (by kernel_rfl) ⟨16, by decide +kernel, rfl, fun w x hx => by simpa using hx⟩ (fun ρ wc hbc hcn hk => ?_) ?_; rotate_left
    · obtain ⟨hcn, -⟩ := hcn
      simp at hk
      go_simp
      rfl
    refine chain_val (u := ?_) [19, 22] rfl (by kernel_rfl) ⟨16, by decide +kernel, rfl, fun w x hx => by simpa using hx⟩ (fun ρ wc hbc hcn hk => ?_) ?_; rotate_left
    · obtain ⟨hcn, -⟩ := hcn
      simp at hk
      go_simp
      rfl
    refine chain_val (u := ?_) [16, 23] rfl (by kernel_rfl) ⟨7, by decide +kernel, rfl, fun w x hx => by simpa using hx⟩ (fun ρ wc hbc hcn hk => ?_) ?_; rotate_left
    · obtain ⟨hcn, -⟩ := hcn
      simp at hk
      go_simp
      rfl
    refine chain_val (u := ?_) [7, 24] rfl (by kernel_rfl) trivial (fun ρ wc hbc hcn hk => ?_) ?_; rotate_left
    · obtain ⟨hcn, -⟩ := hcn
      simp at hk
      go_simp
      rfl
    refine chain_end_lit 40 rfl (fun ff w7 hb7 hk => ?_)
    refine hKK _ _ ?_
    simp [AllN] at hk
    simp only [frameL, hk]
    have hb7' : Below w1.heap.size w1 w7 := ⟨hb7.os, hb7.tape, hb7.output, hb7.size, hb7.block⟩
    have G2 := Lib.hid (H2.out.below hb7')
    have GB := Lib.hid (bel_on HB.out hb7')
    clear hb7 hb7' hk H2 HB
    obtain ⟨x2, y2, z2⟩ := G2.out
    go_wp2
    go_ret
    exact ⟨by rw [HNO.out]; rfl, GB.out⟩
  · have HYES : Hid (T = trimmedK ks) := Lib.hid (by rw [HTD.out, decide_eq_true (fun _ => ⟨h2, h3⟩), Bool.true_and])
    have t1 : (k == 1) = true := by simpa using h1
    have t2 : ((8 * (wordsT d : Int)) != (d.length : Int)) = false := bne_eq_false_iff_eq.2 (by omega)
    have t3 : ((ptrsT ks : Int) != (ks.length : Int)) = false := bne_eq_false_iff_eq.2 (by omega)
    have t3' : (ptrsT ks != ks.length) = false := by simpa using h3
    have H1 := Lib.hid h1
    have HH2 := Lib.hid h2
    have HH3 := Lib.hid h3
    clear h1 h2 h3
    go_wp2_with fail
    refine abs_code10 (F := fun W => Blk W w.heap.size #[.int .i64 k, .int .i64 e, .int .i64 n, .slice A d.length c, .slice B ks.length c2] ∧ Below w.heap.size w W) ⟨Blk.fresh _ _ _, (Below.refl _ _).alloc (Nat.le_refl _) _⟩ ?_
    rintro w1 ⟨h2, hb⟩
    have H2 := Lib.hid h2
    have HB := Lib.hid hb
    clear h2 hb
    rename_i KK hKK
    refine wp_region_chain (by kernel_rfl) (by kernel_rfl) ?_
    refine chain_val (u := ?_) [1] rfl (by kernel_rfl) trivial (fun ρ wc hbc hcn hk => ?_) ?_; rotate_left
    · obtain ⟨hcn, -⟩ := hcn
      simp at hk
      go_simp
      rfl
    refine chain_val (u := ?_) [4] rfl (by kernel_rfl) trivial (fun ρ wc hbc hcn hk => ?_) ?_; rotate_left
    · obtain ⟨hcn, -⟩ := hcn
      simp at hk
      obtain ⟨x2, y2, z2⟩ := H2.out.drew.below hbc
      go_simp
      rfl
    refine chain_val (u := ?_) [5] rfl (by kernel_rfl) trivial (fun ρ wc hbc hcn hk => ?_) ?_; rotate_left
    · obtain ⟨hcn, -⟩ := hcn
      simp at hk
      go_simp
      rfl
    refine chain_val (u := ?_) [6] rfl (by kernel_rfl) trivial (fun ρ wc hbc hcn hk => ?_) ?_; rotate_left
    · obtain ⟨hcn, -⟩ := hcn
      simp at hk
      go_simp
      rfl
    refine chain_val (u := ?_) [1] rfl (by kernel_rfl) ⟨7, by decide +kernel, rfl, fun w x hx => by simpa using hx⟩ (fun ρ wc hbc hcn hk => ?_) ?_; rotate_left
    · obtain ⟨hcn, -⟩ := hcn
      simp at hk
      go_simp
      rfl
    refine chain_val (u := ?_) [8] rfl (by kernel_rfl) ⟨7, by decide +kernel, rfl, fun w x hx => by simpa using hx⟩ (fun ρ wc hbc hcn hk => ?_) ?_; rotate_left
    · obtain ⟨hcn, -⟩ := hcn
      simp at hk
      obtain ⟨x2, y2, z2⟩ := H2.out.drew.below hbc
      go_simp
      rfl
    refine chain_call (T := Is ?_) 29 [9] rfl (by kernel_rfl) ⟨7, by decide +kernel, rfl, fun w x hx => by simpa using hx⟩ (stable_is _) (fun ρ wc hbc hcn hk => ?_) ?_; rotate_left
    · obtain ⟨hcn, hfn⟩ := hcn
      simp at hk
      refine ⟨_, by go_simp; rfl, ?_⟩
      refine (HWD.out wc (bel_on (bel_drew HB.out) hbc)).mono ?_
      rintro e w' ⟨rfl, rfl⟩
      refine ⟨_, rfl, ?_, Below.refl _ _⟩
      unfold Is
      rfl
    refine chain_val (u := .int .i64 (8 * (wordsT d : Int))) [10] rfl (by kernel_rfl) ⟨7, by decide +kernel, rfl, fun w x hx => by simpa using hx⟩ (fun ρ wc hbc hcn hk => ?_) ?_
    · obtain ⟨hcn, -⟩ := hcn
      simp at hk
      go_simp
      first | rfl | (rw [wrap64_small (by omega) (by omega)]) | (congr 3; rw [IntKind.wrap_i64]; omega)
    refine chain_val (u := ?_) [1] rfl (by kernel_rfl) ⟨7, by decide +kernel, rfl, fun w x hx => by simpa using hx⟩ (fun ρ wc hbc hcn hk => ?_) ?_; rotate_left
    · obtain ⟨hcn, -⟩ := hcn
      simp at hk
      go_simp
      rfl
    refine chain_val (u := ?_) [12] rfl (by kernel_rfl) ⟨7, by decide +kernel, rfl, fun w x hx => by simpa using hx⟩ (fun ρ wc hbc hcn hk => ?_) ?_; rotate_left
    · obtain ⟨hcn, -⟩ := hcn
      simp at hk
      obtain ⟨x2, y2, z2⟩ := H2.out.drew.below hbc
      go_simp
      rfl
    refine chain_val (u := ?_) [13] rfl (by kernel_rfl) ⟨7, by decide +kernel, rfl, fun w x hx => by simpa using hx⟩ (fun ρ wc hbc hcn hk => ?_) ?_; rotate_left
    · obtain ⟨hcn, -⟩ := hcn
      simp at hk
      go_simp
      rfl
    refine chain_val (u := ?_) [11, 14] rfl (by kernel_rfl) ⟨7, by decide +kernel, rfl, fun w x hx => by simpa using hx⟩ (fun ρ wc hbc hcn hk => ?_) ?_; rotate_left
    · obtain ⟨hcn, -⟩ := hcn
      simp at hk
      go_simp
      rfl
    refine chain_val (u := ?_) [15] rfl (by kernel_rfl) ⟨7, by decide +kernel, rfl, fun w x hx => by simpa using hx⟩ (fun ρ wc hbc hcn hk => ?_) ?_; rotate_left
    · obtain ⟨hcn, -⟩ := hcn
      simp at hk
      go_simp
      rfl
    refine chain_val (u := ?_) [1] rfl (by kernel_rfl) ⟨16, by decide +kernel, rfl, fun w x hx => by simpa using hx⟩ (fun ρ wc hbc hcn hk => ?_) ?_; rotate_left
    · obtain ⟨hcn, -⟩ := hcn
      simp at hk
      go_simp
      rfl
    refine chain_val (u := ?_) [17] rfl (by kernel_rfl) ⟨16, by decide +kernel, rfl, fun w x hx => by simpa using hx⟩ (fun ρ wc hbc hcn hk => ?_) ?_; rotate_left
    · obtain ⟨hcn, -⟩ := hcn
      simp at hk
      obtain ⟨x2, y2, z2⟩ := H2.out.drew.below hbc
      go_simp
      rfl
    refine chain_call (T := Is ?_) 30 [18] rfl (by kernel_rfl) ⟨16, by decide +kernel, rfl, fun w x hx => by simpa using hx⟩ (stable_is _) (fun ρ wc hbc hcn hk => ?_) ?_; rotate_left
    · obtain ⟨hcn, hfn⟩ := hcn
      simp at hk
      refine ⟨_, by go_simp; rfl, ?_⟩
      refine (HPT.out wc (bel_on (bel_drew HB.out) hbc)).mono ?_
      rintro e w' ⟨rfl, rfl⟩
      refine ⟨_, rfl, ?_, Below.refl _ _⟩
      unfold Is
      rfl
    refine chain_val (u := ?_) [1] rfl (by kernel_rfl) ⟨16, by decide +kernel, rfl, fun w x hx => by simpa using hx⟩ (fun ρ wc hbc hcn hk => ?_) ?_; rotate_left
    · obtain ⟨hcn, -⟩ := hcn
      simp at hk
      go_simp
      rfl
    refine chain_val (u := ?_) [20] rfl (by kernel_rfl) ⟨16, by decide +kernel, rfl, fun w x hx => by simpa using hx⟩ (fun ρ wc hbc hcn hk => ?_) ?_; rotate_left
    · obtain ⟨hcn, -⟩ := hcn
      simp at hk
      obtain ⟨x2, y2, z2⟩ := H2.out.drew.below hbc
      go_simp
      rfl
    refine chain_val (u := ?_) [21] rfl (by kernel_rfl) ⟨16, by decide +kernel, rfl, fun w x hx => by simpa using hx⟩ (fun ρ wc hbc hcn hk => ?_) ?_; rotate_left
    · obtain ⟨hcn, -⟩ := hcn
      simp at hk
      go_simp
      rfl
    refine chain_val (u := ?_) [19, 22] rfl (by kernel_rfl) ⟨16, by decide +kernel, rfl, fun w x hx => by simpa using hx⟩ (fun ρ wc hbc hcn hk => ?_) ?_; rotate_left
    · obtain ⟨hcn, -⟩ := hcn
      simp at hk
      go_simp
      rfl
    refine chain_val (u := ?_) [16, 23] rfl (by kernel_rfl) ⟨7, by decide +kernel, rfl, fun w x hx => by simpa using hx⟩ (fun ρ wc hbc hcn hk => ?_) ?_; rotate_left
    · obtain ⟨hcn, -⟩ := hcn
      simp at hk
      go_simp
      rfl
    refine chain_val (u := ?_) [7, 24] rfl (by kernel_rfl) trivial (fun ρ wc hbc hcn hk => ?_) ?_; rotate_left
    · obtain ⟨hcn, -⟩ := hcn
      simp at hk
      go_simp
      rfl
    refine chain_end_lit 40 rfl (fun ff w7 hb7 hk => ?_)
    refine hKK _ _ ?_
    simp [AllN] at hk
    simp only [frameL, hk]
    have hb7' : Below w1.heap.size w1 w7 := ⟨hb7.os, hb7.tape, hb7.output, hb7.size, hb7.block⟩
    have G2 := Lib.hid (H2.out.below hb7')
    have GB := Lib.hid (bel_on HB.out hb7')
    clear hb7 hb7' hk H2 HB
    obtain ⟨x2, y2, z2⟩ := G2.out
    go_wp2
    go_loopw [3] (fun i wr => ∃ j : Nat, j ≤ ks.length ∧ i = .int .i64 j ∧ trimmedK (ks.take j) = true ∧ Blk wr w.heap.size #[.int .i64 k, .int .i64 e, .int .i64 n, .slice A d.length c, .slice B ks.length c2] ∧ Below w.heap.size w wr) (fun i _ => ks.length - (intOf i).toNat)
    case atStart => exact ⟨0, by omega, rfl, by simp [trimmedK], G2.out, GB.out⟩
    case round =>
      obtain ⟨j, hj, rfl, htk, hB, hbr⟩ := hrel
      have HB := Lib.hid hB
      have HR := Lib.hid hbr
      have HTK := Lib.hid htk
      clear hbr htk x2 y2 z2
      obtain ⟨x1, y1, z1⟩ := hB
      by_cases hlt : j < ks.length
      · obtain ⟨b, off, Aa, ca, Ba, cb, rfl, k0, k1, k2, k3, k4, hsub⟩ := HX.out.kids.atIn HR.out (Nat.le_refl _) hlt
        have hz := sizeN_kid (List.getElem_mem hlt)
        have HC := Lib.hid (HI.out ks[j] (List.getElem_mem hlt) Aa ca Ba cb wr (hsub.on HR.out (Nat.le_refl _)) (by omega))
        have HT := Lib.hid (trimmedK_take ks j hlt)
        have HN := Lib.hid (trimmedK_no ks j hlt)
        clear hsub
        generalize ks[j] = kx at *
        go_wp2_with fail
        refine HC.out.mono ?_
        rintro r w9 ⟨rfl, hb9⟩
        have HB9 : Hid (Below w.heap.size w w9) := Lib.hid (bel_on HR.out hb9)
        have B9 := Lib.hid (HB.out.below hb9)
        clear hb9 x1 y1 z1 k0 k1 k2 k3 k4 HB HR
        obtain ⟨x1, y1, z1⟩ := B9.out
        cases hvx : trimmedN kx with
        | false =>
          have HRR : Hid (T = false) := Lib.hid (by rw [HTD.out, HN.out hvx, Bool.and_false])
          clear hvx
          go_wp2
          go_ret
          exact ⟨by rw [HRR.out]; rfl, HB9.out⟩
        | true =>
          have HT2 : Hid (trimmedK (ks.take (j + 1)) = true) := Lib.hid (by rw [HT.out, HTK.out, hvx]; rfl)
          clear hvx
          go_wp2
          go_roundw
          case rel => exact ⟨j + 1, by omega, by go_num, HT2.out, B9.out, HB9.out⟩
          case measure => simp [intOf]; omega
      · obtain rfl : j = ks.length := by omega
        go_wp2
        go_ret
        exact ⟨by rw [HYES.out, ← HTK.out, List.take_length]; rfl, HR.out⟩
end Go.Proofs.YtnmanhediiooaaaDoor

/- A message that the call put together: a slice of its own, whose segments are its own or came in. -/
namespace Go.Proofs.YtnmanhediiooaaaDoor
open Go.RowKit
set_option linter.unusedVariables false
set_option linter.unusedSimpArgs false
set_option maxRecDepth 100000

/-- a segment: made by the call, or one that was there before the block 'base' -/
def SegOK (w : World) (base : Nat) (u : Value) (l : List Int) : Prop :=
  Got w base 43 .u64 u l ∨ (Holds w u l ∧ (l = [] ∨ ∀ b, u.ownBlock = some b → b < base))

theorem SegOK.holds {w : World} {base : Nat} {u : Value} {l : List Int} (h : SegOK w base u l) : Holds w u l := by
  rcases h with h | h
  · exact h.holds
  · exact h.1

theorem Holds.slice {w : World} {u : Value} {l : List Int} (h : Holds w u l) : u.oneCell' = true := by
  obtain ⟨A, c, rfl, _⟩ := h
  rfl

theorem Holds.low {w w' : World} {base : Nat} {u : Value} {l : List Int} (h : Holds w u l) (hlow : l = [] ∨ ∀ b, u.ownBlock = some b → b < base) (hb : Below base w w') : Holds w' u l := by
  obtain ⟨A, c, rfl, hr, h3⟩ := h
  refine ⟨A, c, rfl, ?_, h3⟩
  rcases hr with h0 | ⟨b, off, rfl, hc⟩
  · exact .inl h0
  · rcases hlow with h0 | hlow
    · exact .inl h0
    · refine .inr ⟨b, off, rfl, fun j hj => ?_⟩
      exact (hb.cell (p := ⟨b, off + j, none⟩) (hlow b rfl)).trans (hc j hj)

theorem SegOK.below {w w' : World} {base B : Nat} {u : Value} {l : List Int} (h : SegOK w base u l) (hb : Below B w w') (hB : w.heap.size ≤ B) : SegOK w' base u l := by
  rcases h with h | h
  · exact .inl (h.below hb hB)
  · exact .inr ⟨h.1.below hb hB, h.2⟩

/-- a segment that came in -/
theorem SegOK.came {W w : World} {base : Nat} {u : Value} {l : List Int} (h : Holds W u l) (hW : W.heap.size ≤ base) (hb : Below base W w) : SegOK w base u l := by
  have hlow : l = [] ∨ ∀ b, u.ownBlock = some b → b < base := by
    by_cases h0 : l = []
    · exact .inl h0
    · right
      intro b hbk
      obtain ⟨A, c, rfl, hr, _⟩ := h
      rcases hr with h1 | ⟨b', off, rfl, hc⟩
      · exact absurd h1 h0
      · simp [Value.ownBlock] at hbk
        subst hbk
        have hl : 0 < l.length := by
          cases l with
          | nil => exact absurd rfl h0
          | cons x r => simp
        have hlt : b' < W.heap.size := World.block_lt_of_cell? W ⟨b', off + 0, none⟩ (hc 0 hl)
        omega
  exact .inr ⟨h.low hlow hb, hlow⟩

def OwnS (w : World) (base : Nat) (v : Value) (ls : List (List Int)) : Prop :=
  ∃ vs : List Value, w.ownsRow base 40 1 v ls.length vs ∧ ∀ j, j < ls.length → ∃ u, vs[j]? = some u ∧ SegOK w base u (seg ls j)

theorem OwnS.empty (w : World) (base : Nat) : OwnS w base (.slice none 0 0) [] := ⟨[], World.ownsRow_nil w base _ 1, fun j hj => by simp at hj⟩
theorem OwnS.below {w w' : World} {base B : Nat} {v : Value} {ls : List (List Int)} (h : OwnS w base v ls) (hb : Below B w w') (hB : w.heap.size ≤ B) : OwnS w' base v ls := by
  obtain ⟨vs, h1, h2⟩ := h
  refine ⟨vs, ownsRow_belowS h1 hb hB, fun j hj => ?_⟩
  obtain ⟨u, hu, hg⟩ := h2 j hj
  exact ⟨u, hu, hg.below hb hB⟩

theorem OwnS.slice {w : World} {base : Nat} {v : Value} {ls : List (List Int)} (h : OwnS w base v ls) : ∃ A c, v = .slice A ls.length c ∧ ls.length ≤ c ∧ c ≤ maxLen ∧ Sg w A ls := by
  obtain ⟨vs, h1, h2⟩ := h
  have h0 := h1
  rcases h1.2 with ⟨rfl, hn⟩ | ⟨g, cap, cur, rfl, hg, hh, hc, hm, hs, ht⟩
  · have : ls = [] := List.eq_nil_of_length_eq_zero hn
    subst this
    exact ⟨none, 0, rfl, Nat.le_refl _, Nat.zero_le _, .inl rfl⟩
  · refine ⟨some ⟨g, 0, none⟩, cap, rfl, hc, hm, .inr ⟨g, 0, rfl, fun j hj => ?_⟩⟩
    obtain ⟨u, hu, hgu⟩ := h2 j hj
    refine ⟨u, ?_, hgu.holds⟩
    rw [Nat.zero_add, World.ownsRow.cellAt h0 j (by omega)]
    exact hu

theorem OwnS.lt {w : World} {base : Nat} {v : Value} {ls : List (List Int)} (h : OwnS w base v ls) : ∀ k, v.ownBlock = some k → base ≤ k ∧ k < w.heap.size := by
  obtain ⟨vs, h1, _⟩ := h
  exact h1.lt

/-- the segments of a message of the call's own lie apart from the slice of them -/
theorem SegOK.grown {w w' : World} {base n : Nat} {v u : Value} {vs : List Value} {l : List Int} (h : SegOK w base u l) (hv : w.ownsRow base 40 1 v n vs) (hg : w.grownBy w' v.ownBlock) (hb : Below base w w') : SegOK w' base u l := by
  rcases h with h | h
  · left
    refine World.ownsRow.kept h hg ?_
    rcases h.2 with ⟨rfl, _⟩ | ⟨g, cap, cur, rfl, hgb, hh, _⟩
    · exact .inl rfl
    · right
      intro e
      rcases hv.2 with ⟨rfl, _⟩ | ⟨g', cap', cur', rfl, hg', hh', _⟩
      · simp [Value.ownBlock] at e
      · simp [Value.ownBlock] at e
        subst e
        rw [hh] at hh'
        injection hh' with e2
        injection e2 with _ e3
        exact absurd e3 (by decide)
  · exact .inr ⟨h.1.low h.2 hb, h.2⟩

/-- 'append(s, xs...)': segments that lie somewhere behind a message of the call's own -/
theorem wpList_appV {ops : Array Oper} {rest : List Oper} {o : Oper} {a : Act} {Q : Exit → Act → World → Prop} {w : World} (hgd : o.guard = none) (s x : Operand) (t : TypeId)
    (ho : o.op = .call { callee := .builtin .append, args := #[s, x], argTypes := #[t, t] }) (ht : Tryd.prog.underlying t = some (.slice 40))
    {base : Nat} {v : Value} {ls ms : List (List Int)} (hs : a.eval s = v) (hown : OwnS w base v ls) {ad : Addr} {c m : Nat} (hm : m = ms.length) (hx : a.eval x = .slice (some ad) m c)
    (ys : List Value) (hy : ys.length = m) (hcell : ∀ j u, ys[j]? = some u → w.cell? (ad.add j) = some u) (hseg : ∀ j, j < m → ∃ u, ys[j]? = some u ∧ SegOK w base u (seg ms j))
    (hn : ls.length + m ≤ 1000000) (hbase : base ≤ w.heap.size)
    (h : ∀ v' w', OwnS w' base v' (ls ++ ms) → Below base w w' → (∀ b, b < w.heap.size → v.ownBlock ≠ some b → w'.heap[b]? = w.heap[b]?) → wpList Tryd.prog ops Q rest (a.put o.dst v') w') : wpList Tryd.prog ops Q (o :: rest) a w := by
  obtain ⟨i, hi, hz0, hz1, hz2⟩ := info_parts slices_info
  obtain ⟨vs, h1, h2⟩ := hown
  refine wpList_append_own _ hgd s x t ho base _ i _ 1 24 ht hi hz0 hz1 hz2 rfl (by decide) v ls.length vs hs h1
    ad m c ys hx (by rw [Nat.mul_one]; exact hy) hcell ?_ (by unfold maxLen; omega) (by omega) hbase ?_
  · intro u hu
    obtain ⟨j, hj, rfl⟩ := List.mem_iff_getElem.1 hu
    obtain ⟨u', hu', hs'⟩ := hseg j (by omega)
    rw [List.getElem?_eq_getElem hj] at hu'
    injection hu' with e
    rw [e]
    exact hs'.holds.slice
  · intro v' w' k1 k2 _
    have hlen : vs.length = ls.length := by rw [h1.1, Nat.mul_one]
    have hb : Below base w w' := (Below.refl base w).grown k2 hbase (fun g hg => (h1.lt g hg).1)
    refine h v' w' ⟨vs ++ ys, by rw [List.length_append, ← hm]; exact k1, fun j hj => ?_⟩ hb (fun b hbl hne => k2.block b hbl (fun e => hne e.symm))
    rw [List.length_append, ← hm] at hj
    by_cases hjl : j < ls.length
    · obtain ⟨y, hy', hg⟩ := h2 j hjl
      exact ⟨y, by rw [List.getElem?_append_left (by omega)]; exact hy', by rw [seg_append_left _ _ _ hjl]; exact hg.grown h1 k2 hb⟩
    · obtain ⟨y, hy', hg⟩ := hseg (j - ls.length) (by omega)
      exact ⟨y, by rw [List.getElem?_append_right (by omega), hlen]; exact hy', by rw [seg_append_right _ _ _ (by omega)]; exact hg.grown h1 k2 hb⟩

/-- 'append(s, l)': one segment -/
theorem wpList_app1S {ops : Array Oper} {rest : List Oper} {o : Oper} {a : Act} {Q : Exit → Act → World → Prop} {w : World} (hgd : o.guard = none) (s x : Operand) (t : TypeId)
    (ho : o.op = .call { callee := .builtin .append, args := #[s, x], argTypes := #[t, t] }) (ht : Tryd.prog.underlying t = some (.slice 40))
    {base : Nat} {v u : Value} {ls : List (List Int)} {l : List Int} (hs : a.eval s = v) (hown : OwnS w base v ls) (hu : SegOK w base u l) {T : TypeId} (n1 : Nat) (hn1 : n1 = w.heap.size) (hx : a.eval x = .slice (some ⟨n1, 0, none⟩) 1 1)
    (hn : ls.length + 1 ≤ 1000000) (hbase : base ≤ w.heap.size)
    (h : ∀ v' w', OwnS w' base v' (ls ++ [l]) → Below base w w' → (∀ b, b < w.heap.size → v.ownBlock ≠ some b → w'.heap[b]? = w.heap[b]?) → wpList Tryd.prog ops Q rest (a.put o.dst v') w') : wpList Tryd.prog ops Q (o :: rest) a (w.alloc (.cells #[u] T)) := by
  subst hn1
  have hb0 : Below w.heap.size w (w.alloc (.cells #[u] T)) := (Below.refl _ _).alloc (Nat.le_refl _) _
  refine wpList_appV (ms := [l]) hgd s x t ho ht hs (hown.below hb0 (Nat.le_refl _)) rfl hx [u] rfl ?_ ?_ (by simpa using hn) (by simp; omega) ?_
  · intro j y hj
    cases j with
    | zero => simp at hj; subst hj; simp [Addr.add]
    | succ j => simp at hj
  · intro j hj
    obtain rfl : j = 0 := by simp at hj; omega
    exact ⟨u, rfl, hu.below hb0 (Nat.le_refl _)⟩
  · intro v' w' k1 k2 k3
    refine h v' w' k1 (((Below.refl base w).alloc hbase _).trans k2) fun b hbl hne => ?_
    rw [k3 b (by simp; omega) hne]
    exact hb0.block b hbl

/-- 'append(s, segs...)': a message that came in -/
theorem wpList_appM {ops : Array Oper} {rest : List Oper} {o : Oper} {a : Act} {Q : Exit → Act → World → Prop} {w W : World} (hgd : o.guard = none) (s x : Operand) (t : TypeId)
    (ho : o.op = .call { callee := .builtin .append, args := #[s, x], argTypes := #[t, t] }) (ht : Tryd.prog.underlying t = some (.slice 40))
    {base : Nat} {v : Value} {ls ms : List (List Int)} (hs : a.eval s = v) (hown : OwnS w base v ls) {A : Option Addr} {c : Nat} (hx : a.eval x = .slice A ms.length c) (hm : Sg W A ms) (hW : W.heap.size ≤ base) (hbW : Below base W w) (h0 : 0 < ms.length)
    (hn : ls.length + ms.length ≤ 1000000) (hbase : base ≤ w.heap.size)
    (h : ∀ v' w', OwnS w' base v' (ls ++ ms) → Below base w w' → (∀ b, b < w.heap.size → v.ownBlock ≠ some b → w'.heap[b]? = w.heap[b]?) → wpList Tryd.prog ops Q rest (a.put o.dst v') w') : wpList Tryd.prog ops Q (o :: rest) a w := by
  obtain ⟨b, off, rfl, hc⟩ := hm.at h0
  have hall : ∀ j : Nat, ∃ u, j < ms.length → (w.cell? ⟨b, off + j, none⟩ = some u ∧ SegOK w base u (seg ms j)) := by
    intro j
    by_cases hj : j < ms.length
    · obtain ⟨u, hu, hh⟩ := hc j hj
      have hlt : b < W.heap.size := World.block_lt_of_cell? W ⟨b, off + j, none⟩ hu
      exact ⟨u, fun _ => ⟨(hbW.cell (p := ⟨b, off + j, none⟩) (by show b < base; omega)).trans hu, SegOK.came hh hW hbW⟩⟩
    · exact ⟨undef, fun h => absurd h hj⟩
  obtain ⟨f, hf⟩ : ∃ f : Nat → Value, ∀ j, j < ms.length → (w.cell? ⟨b, off + j, none⟩ = some (f j) ∧ SegOK w base (f j) (seg ms j)) := ⟨fun j => Classical.choose (hall j), fun j => Classical.choose_spec (hall j)⟩
  refine wpList_appV hgd s x t ho ht hs hown rfl hx ((List.range ms.length).map f) (by simp) ?_ ?_ hn hbase h
  · intro j u hj
    have hjl : j < ms.length := by
      rcases Nat.lt_or_ge j ms.length with h1 | h1
      · exact h1
      · rw [List.getElem?_eq_none (by simpa using h1)] at hj; cases hj
    simp [hjl] at hj
    subst hj
    rw [add_plain]
    exact (hf j hjl).1
  · intro j hj
    exact ⟨f j, by simp [hj], (hf j hj).2⟩

theorem Got.lit (w : World) {base : Nat} (zs : List Int) (hb : base ≤ w.heap.size) (n : Nat) (hn : n = zs.length) (hm : n ≤ maxLen) : Got (w.alloc (.cells (zs.map (Value.int .u64)).toArray 43)) base 43 .u64 (.slice (some ⟨w.heap.size, 0, none⟩) n n) zs := by
  subst hn
  exact ⟨by simp, .inr ⟨w.heap.size, zs.length, (zs.map (Value.int .u64)).toArray, rfl, hb, by unfold World.alloc; simp, Nat.le_refl _, hm, by simp, by simp [List.take_of_length_le]⟩⟩

theorem OwnS.made (w : World) {base : Nat} (hb : base ≤ w.heap.size) : OwnS (w.alloc (.cells #[] 40)) base (.slice (some ⟨w.heap.size, 0, none⟩) 0 0) [] :=
  ⟨[], World.ownsRow_made w #[] 0 hb (Nat.zero_le _) rfl, fun j hj => by simp at hj⟩
end Go.Proofs.YtnmanhediiooaaaDoor

/- A store of a segment into a message of the call's own. -/
namespace Go.Proofs.YtnmanhediiooaaaDoor
open Go.RowKit
set_option linter.unusedVariables false
set_option linter.unusedSimpArgs false
set_option maxRecDepth 100000

theorem SegOK.stored {w : World} {base g c n : Nat} {u y : Value} {vs : List Value} {l : List Int} (h : SegOK w base u l) (hv : w.ownsRow base 40 1 (.slice (some ⟨g, 0, none⟩) n c) n vs) (j : Nat) : SegOK (w.setCell ⟨g, j, none⟩ y) base u l := by
  have hg := (hv.lt g rfl).1
  exact h.grown hv (World.ownsRow.stored hv j y).2 ((Below.refl _ _).setCell hg y)
theorem OwnS.set {w : World} {base g c : Nat} {ls : List (List Int)} (h : OwnS w base (.slice (some ⟨g, 0, none⟩) ls.length c) ls) {j : Nat} (hj : j < ls.length) {u : Value} {l : List Int} (hu : SegOK w base u l) :
    OwnS (w.setCell ⟨g, j, none⟩ u) base (.slice (some ⟨g, 0, none⟩) ls.length c) (ls.set j l) := by
  obtain ⟨vs, h1, h2⟩ := h
  have h3 := (World.ownsRow.stored h1 j u).1
  have hvl := h1.1
  refine ⟨vs.set j u, by rw [List.length_set]; exact h3, fun i hi => ?_⟩
  rw [List.length_set] at hi
  by_cases e : j = i
  · subst e
    obtain ⟨u0, hu0, _⟩ := h2 j hj
    have hlt : j < vs.length := (List.getElem?_eq_some_iff.1 hu0).1
    refine ⟨u, List.getElem?_set_self hlt, ?_⟩
    have e2 : seg (ls.set j l) j = l := by unfold seg; rw [List.getD_eq_getElem?_getD, List.getElem?_set_self hj]; rfl
    rw [e2]
    exact hu.stored h1 j
  · obtain ⟨u0, hu0, hs0⟩ := h2 i hi
    refine ⟨u0, by rw [List.getElem?_set_ne e]; exact hu0, ?_⟩
    have e2 : seg (ls.set j l) i = seg ls i := by unfold seg; rw [List.getD_eq_getElem?_getD, List.getElem?_set_ne e, List.getD_eq_getElem?_getD]
    rw [e2]
    exact hs0.stored h1 j
theorem GotS.made0 (w : World) {base : Nat} (hb : base ≤ w.heap.size) : GotS (w.alloc (.cells #[] 40)) base (.slice (some ⟨w.heap.size, 0, none⟩) 0 0) [] :=
  ⟨[], World.ownsRow_made w #[] 0 hb (Nat.zero_le _) rfl, fun j hj => by simp at hj⟩
/-- where the segments of a message of the call's own lie -/
theorem OwnS.row {w : World} {base : Nat} {v : Value} {ls : List (List Int)} (h : OwnS w base v ls) (h0 : 0 < ls.length) : ∃ g c, v = .slice (some ⟨g, 0, none⟩) ls.length c ∧ base ≤ g ∧ g < w.heap.size ∧ ls.length ≤ c ∧ (∀ j, w.frozen? ⟨g, j, none⟩ = false) ∧ ∀ j, j < ls.length → ∃ u, w.cell? ⟨g, j, none⟩ = some u := by
  obtain ⟨vs, h1, h2⟩ := h
  have h3 := h1
  rcases h1.2 with ⟨rfl, hn⟩ | ⟨g, cap, cur, rfl, hg, hh, hc, hm, hs, ht⟩
  · omega
  · have hlt := (h3.lt g rfl)
    refine ⟨g, cap, rfl, hlt.1, hlt.2, hc, fun j => h3.frozenAt j, fun j hj => ?_⟩
    obtain ⟨u, hu, _⟩ := h2 j hj
    refine ⟨u, ?_⟩
    rw [World.ownsRow.cellAt h3 j (by omega)]
    exact hu
end Go.Proofs.YtnmanhediiooaaaDoor

/- Framed messages as lists of bytes. Nothing of the program's text is named here. -/
namespace Go.Proofs.YtnmanhediiooaaaDoor
set_option linter.unusedVariables false
set_option linter.unusedSimpArgs false
set_option maxRecDepth 100000

/-- entry i of a segment table -/
def ent (b : List Int) (i : Nat) : Int := zat b (4 * i) + 256 * zat b (4 * i + 1) + 65536 * zat b (4 * i + 2) + 16777216 * zat b (4 * i + 3)
/-- bytes of the table of n segments -/
def tbl (n : Int) : Int := 8 * (n / 2) + 8

/-! ## Serialize -/
/-! ## Parse -/
def cntF (b : List Int) : Int := ent b 0 + 1
def atF (b : List Int) : Nat → Int
  | 0 => tbl (cntF b)
  | k + 1 => atF b k + 8 * ent b (k + 1)
def headP (b : List Int) : Prop := 4 ≤ b.length ∧ cntF b ≤ 512 ∧ tbl (cntF b) ≤ b.length ∧ (cntF b % 2 = 0 → ent b ((cntF b).toNat + 1) = 0)
def stepP (b : List Int) (k : Nat) : Prop := ent b (k + 1) < 536870912 ∧ atF b (k + 1) ≤ b.length
def okP (b : List Int) : Prop := headP b ∧ (∀ k, k < (cntF b).toNat → stepP b k) ∧ atF b (cntF b).toNat = b.length
instance (b : List Int) : Decidable (headP b) := by unfold headP; infer_instance
instance (b : List Int) (k : Nat) : Decidable (stepP b k) := by unfold stepP; infer_instance
instance (b : List Int) : Decidable (okP b) := by unfold okP; infer_instance
end Go.Proofs.YtnmanhediiooaaaDoor

/- What the reference functions of layer 4 do, each by a contract. -/
namespace Go.Proofs.YtnmanhediiooaaaDoor
open Go.ChangeShapes Go.WideShapes Go.ChangeAt Go.RowKit
set_option linter.unusedVariables false
set_option linter.unusedSimpArgs false
set_option maxRecDepth 100000

/-! ## Same -/
def sameS (a b : List (List Int)) : Bool := decide (a = b)
theorem sameS_self (a : List (List Int)) : sameS a a = true := by simp [sameS]
theorem sameS_no (a b : List (List Int)) (k : Nat) (h : sameB (seg a k) (seg b k) = false) : sameS a b = false := by
  unfold sameS
  simp
  rintro rfl
  rw [sameB_self] at h
  cases h
theorem sameS_len (a b : List (List Int)) (h : a.length ≠ b.length) : sameS a b = false := by
  unfold sameS
  simp
  rintro rfl
  exact h rfl
theorem sameS_yes (a b : List (List Int)) (hl : a.length = b.length) (h : ∀ i, i < a.length → sameB (seg a i) (seg b i) = true) : sameS a b = true := by
  unfold sameS
  simp
  exact ext_seg hl fun i hi => of_decide_eq_true (h i hi)

theorem SameWords_is (A B : Option Addr) (c d : Nat) (a b : List Int) (w : World) (ha : Ri w .u64 A a) (hb : Ri w .u64 B b) (hm : a.length ≤ 9223372036854775807) (hm2 : b.length ≤ 9223372036854775807) {x : Bool} (hx : sameB a b = x) :
    Calls Tryd.prog 32 #[.slice A a.length c, .slice B b.length d] w fun e w' => e = .returned (.bool x) ∧ ∃ m, w' = w.drewN m := by
  subst hx
  exact SameWords_any A B c d a b w ha hb hm hm2

theorem Sg.drewN {w : World} {A : Option Addr} {ls : List (List Int)} (h : Sg w A ls) (n : Nat) : Sg (w.drewN n) A ls := h

theorem Same4_any (A B : Option Addr) (c d : Nat) (a b : List (List Int)) (w : World) (ha : Sg w A a) (hb : Sg w B b) (hm : a.length ≤ 9223372036854775807) (hm2 : b.length ≤ 9223372036854775807) :
    Calls Tryd.prog 15 #[.slice A a.length c, .slice B b.length d] w fun e w' => e = .returned (.bool (sameS a b)) ∧ ∃ m, w' = w.drewN m := by
  have Ha := Lib.hid ha
  have Hb := Lib.hid hb
  clear ha hb
  by_cases hl : a.length = b.length
  · have HL := Lib.hid hl
    have hlen : ((a.length : Int) != (b.length : Int)) = false := by simp [hl]
    have hlen2 : ((a.length : Int) == (b.length : Int)) = true := by simp [hl]
    clear hl
    go_enter Tryd.func15, Tryd.ntmps15
    go_wp2
    go_loopw [5] (fun i wr => ∃ k : Nat, k ≤ a.length ∧ i = .int .i64 k ∧ (∀ j, j < k → sameB (seg a j) (seg b j) = true) ∧ ∃ m, wr = w.drewN m) (fun i _ => a.length - (intOf i).toNat)
    case atStart => exact ⟨0, by omega, rfl, by intro j hj; omega, 0, rfl⟩
    case round =>
      obtain ⟨k, hk, rfl, hsame, hwr⟩ := hrel
      have HS := Lib.hid hsame
      have HW := Lib.hid hwr
      have HA2 : Hid (Sg wr A a) := Lib.hid (by obtain ⟨m, rfl⟩ := hwr; exact Ha.out.drewN m)
      have HB2 : Hid (Sg wr B b) := Lib.hid (by obtain ⟨m, rfl⟩ := hwr; exact Hb.out.drewN m)
      clear hsame hwr
      by_cases hlt : k < a.length
      · obtain ⟨g, off, A1, c1, rfl, hc1, hr1, -, hd1, hd2⟩ := HA2.out.one hlt
        have hltb : k < b.length := by rw [← HL.out]; exact hlt
        obtain ⟨g', off', A2, c2, rfl, hc2, hr2, -, he1, he2⟩ := HB2.out.one hltb
        have hi1 : (k : Int) < (a.length : Int) := by omega
        have hi2 : (k : Int) < (b.length : Int) := by omega
        have HR1 := Lib.hid hr1
        have HR2 := Lib.hid hr2
        clear hr1 hr2
        cases hx : sameB (seg a k) (seg b k)
        · have HX := Lib.hid hx
          clear hx
          go_wp2
          go_quiet ((go_at_call 32; exact Calls.quiet_of (SameWords_is _ _ _ _ _ _ _ (HR1.out.drewN _) (HR2.out.drewN _) (by omega) (by omega) HX.out)))
          go_wp2
          go_ret
          exact ⟨by rw [sameS_no a b k HX.out]; rfl, by obtain ⟨m, h⟩ := HW.out; exact ⟨_, by rw [h, World.drewN_drewN]⟩⟩
        · have HX := Lib.hid hx
          clear hx
          go_wp2
          go_quiet ((go_at_call 32; exact Calls.quiet_of (SameWords_is _ _ _ _ _ _ _ (HR1.out.drewN _) (HR2.out.drewN _) (by omega) (by omega) HX.out)))
          go_wp2
          go_roundw
          case rel => exact ⟨k + 1, by omega, by go_num, fun j hj => by
            by_cases e : j = k
            · subst e; exact HX.out
            · exact HS.out j (by omega), by obtain ⟨m, h⟩ := HW.out; exact ⟨_, by rw [h, World.drewN_drewN]⟩⟩
          case measure => simp [intOf]; omega
      · obtain rfl : k = a.length := by omega
        go_wp2
        go_ret
        exact ⟨by rw [sameS_yes a b HL.out HS.out]; rfl, HW.out⟩
  · have HL := Lib.hid (sameS_len a b hl)
    have hlen : ((a.length : Int) != (b.length : Int)) = true := by simp; omega
    have hlen2 : ((a.length : Int) == (b.length : Int)) = false := by simp; omega
    clear hl
    go_enter Tryd.func15, Tryd.ntmps15
    go_wp2
    go_ret
    exact ⟨by rw [HL.out]; rfl, 0, rfl⟩

/-! ## put, Serialize -/
/-! ## Parse -/
def entN (b : List Int) (i : Nat) : Nat := (ent b i).toNat
def atN (b : List Int) (k : Nat) : Nat := (atF b k).toNat
attribute [local irreducible] atN entN

end Go.Proofs.YtnmanhediiooaaaDoor
