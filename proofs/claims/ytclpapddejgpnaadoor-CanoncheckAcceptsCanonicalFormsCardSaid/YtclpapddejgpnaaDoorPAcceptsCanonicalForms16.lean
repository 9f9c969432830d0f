/- 'capnplaw16.CanoncheckAcceptsCanonicalForms', whatever the input: the call returns true, and each argument reads afterwards as it read before; the package-level variables that the row lists hold what the program's text lays (the card ties them to it). -/
import Derived.Test.YtclpapddejgpnaaDoorMg14
import Derived.Test.YtclpapddejgpnaaDoorMg34
import Derived.Test.YtclpapddejgpnaaDoorMg42
import Derived.Test.YtclpapddejgpnaaDoorMg45
import Derived.Test.YtclpapddejgpnaaDoorMg46
import Derived.WalkKit
import Derived.Below
import Derived.OwnWalk
import Derived.Lib.Hide
import Derived.Deep.Draws
import Derived.Laws.AppendOwnNone
import Derived.Test.YtclpapddejgpnaaDoorRows
import Derived.ProofKit
import Derived.OpenShut
import Derived.ShutString
import Derived.ChangeOld
import Derived.Deep.Fields
import Derived.WalkSpells
import Derived.Test.YtclpapddejgpnaaDoorCards
import Derived.Test.YtclpapddejgpnaaDoorTie
import Derived.Deep.DeepHandedRow
import Derived.Lib.LaidTab
import Derived.WideMake
import Derived.MapKept
import Derived.Maps.Own
import Derived.Deep.DeepFit
import Derived.RegionTactic
import Derived.Deep.QuietTactic
import Derived.BigQuiet
import Derived.Laws.OwnMore
import Derived.StillTailTactics
import Derived.Orders
import Derived.Laws.CopyOwn
import Derived.Lib.SliceRun
import Derived.Laws.EntriesVeiled
import Derived.Recover
import Derived.Lib.AppendZerosOnto
import Derived.Deep.DeepAppendRoom
import Derived.Deep.Matrix
import Derived.Test.YtclpapddejgpnaaDoorLaw16e
namespace Go.Proofs.YtclpapddejgpnaaDoor.canoncheckAcceptsCanonicalForms
open Go.ChangeShapes Go.WideShapes Go.ChangeAt Go.RowKit
set_option linter.unusedVariables false

set_option maxRecDepth 100000 in
theorem contract (H : Type) (enc : TypeId × Value → H) (W : World) (base : Nat) (args : Array Value) (ds gs : List (DataW H)) (before : List MemPlace)
    (hval0 : ∀ (j : Nat) t v, Tryd.f5.params[j]? = some t → args[j]? = some v → Value.okWide Tryd.prog W .any base t v)
    (hW : DataW.Whole enc Tryd.prog Tryd.f5.params.toList Rows.canoncheckAcceptsCanonicalFormsSpec.vars false W args.toList ds gs before) (hT : TabOK W) :
    Calls Tryd.prog 5 args W fun e W' => ∃ v, e = .returned v ∧ Rows.canoncheckAcceptsCanonicalFormsSpec.post enc Tryd.prog Tryd.f5 false true false false W args v W' := by
  have hval : ∀ (j : Nat) t v, Tryd.f5.params[j]? = some t → args[j]? = some v → Value.okWide Tryd.prog W .any base t v := hval0
  have hW' := hW
  obtain ⟨p, q, hA0, hV, rfl, hfz, hnd⟩ := hW
  have hA : DataW.TrodAll enc Tryd.prog W 0 (fun _ => true) true Tryd.f5.params.toList args.toList ds p := hA0
  rw [Tryd.params5] at hA hval
  obtain ⟨v0, vs0, d0, ds0, p0, q0, hargs, rfl, rfl, h0, r0⟩ := trodAll_cons hA
  obtain ⟨v1, vs1, d1, ds1, p1, q1, rfl, rfl, rfl, h1, r1⟩ := trodAll_cons r0
  obtain ⟨v2, vs2, d2, ds2, p2, q2, rfl, rfl, rfl, h2, r2⟩ := trodAll_cons r1
  obtain ⟨v3, vs3, d3, ds3, p3, q3, rfl, rfl, rfl, h3, r3⟩ := trodAll_cons r2
  obtain ⟨rfl, rfl, rfl⟩ := trodAll_nil r3
  obtain rfl : args = #[v0, v1, v2, v3] := by cases args; simp_all
  obtain ⟨rfl, rfl⟩ := trodVars_none hV
  obtain ⟨a0, len0, c0, rfl⟩ := okWide_slice Tryd.underlying27 (hval 0 27 v0 rfl rfl)
  have k0 := h0
  have lt0 : ∀ x ∈ p0, x.block < W.heap.size := by obtain ⟨m, hm⟩ := k0; exact DataW.trod_lt m _ _ _ hm
  obtain ⟨z0, r0'⟩ : ∃ ls, RowS W a0 len0 c0 ls := by
    obtain ⟨fuel, hf⟩ := h0
    rcases Go.Deep.open_int_rows Tryd.underlying27 Tryd.underlying22 Tryd.underlying32 (by kernel_rfl) (by kernel_rfl) hf with ⟨hcs, _⟩ | ⟨x, l, c, Ar, Lr, Cr, Zr, hcs, _, hl, hm, _, hall⟩
    · simp [Value.cells] at hcs
      obtain ⟨rfl, rfl, rfl⟩ := hcs
      exact ⟨[], RowS.none⟩
    · simp [Value.cells] at hcs
      obtain ⟨rfl, rfl, rfl⟩ := hcs
      exact ⟨_, RowS.some hl hm (fun r hr => by obtain ⟨y1, y2, y3, y4, y5, y6, y7⟩ := hall r hr; exact ⟨y1, y2, y3, y4, y5, y6, fun a' ha => (y7 a' ha).2⟩)⟩
  obtain rfl := r0'.len_eq
  have k1 := h1
  have lt1 : ∀ x ∈ p1, x.block < W.heap.size := by obtain ⟨m, hm⟩ := k1; exact DataW.trod_lt m _ _ _ hm
  obtain ⟨cs1, rfl, sz1, hf1⟩ := open_struct Tryd.underlying24 (by kernel_rfl) (by kernel_rfl) (hval 1 24 v1 rfl rfl) h1
  obtain ⟨u1_0, u1_1, u1_2, rfl⟩ := arr3 sz1
  obtain ⟨n1_0, y1_0, t1_0⟩ := hf1 0 _ u1_0 rfl rfl
  obtain ⟨a1_0, e1_0, -, w1_0⟩ := DataW.trod_int Tryd.underlying3 t1_0
  obtain rfl : u1_0 = .int .i64 a1_0 := by simpa using e1_0
  obtain ⟨n1_1, y1_1, t1_1⟩ := hf1 1 _ u1_1 rfl rfl
  obtain ⟨a1_1, e1_1, -, w1_1⟩ := DataW.trod_int Tryd.underlying3 t1_1
  obtain rfl : u1_1 = .int .i64 a1_1 := by simpa using e1_1
  obtain ⟨n1_2, y1_2, t1_2⟩ := hf1 2 _ u1_2 rfl rfl
  obtain ⟨a1_2, e1_2, -, w1_2⟩ := DataW.trod_int Tryd.underlying3 t1_2
  obtain rfl : u1_2 = .int .i64 a1_2 := by simpa using e1_2
  obtain ⟨a2, rfl, rfl, rfl, w2⟩ := open_int Tryd.underlying5 (hval 2 5 v2 rfl rfl) h2
  obtain ⟨a3, rfl, rfl, rfl, w3⟩ := open_int Tryd.underlying32 (hval 3 32 v3 rfl rfl) h3
  clear hA0 hval0
  refine (Forms16_walk a0 c0 z0 a1_0 a1_1 a1_2 a2 a3 W hT r0'.sg r0'.wd r0'.nil (by have h1 := r0'.le; have h2 := r0'.cap_le; unfold maxLen at h2; omega) r0'.le (by have h2 := r0'.cap_le; unfold maxLen at h2; omega) (of_wf_i64 w1_0).1 (by have := (of_wf_i64 w1_0).2; omega) (of_wf_i64 w1_1).1 (by have := (of_wf_i64 w1_1).2; omega) (of_wf_u8 w2).1 (of_wf_u8 w2).2 (of_wf_u64 w3).1 (of_wf_u64 w3).2).mono fun e W' ⟨he, bel⟩ => ?_
  subst he
  exact ⟨_, rfl, _, _, _, [], _, [], hW', trodAll_mk1 (shut_bool Tryd.underlying4 _), (trodAll_cons_mk (Below.trod laidOut (by kernel_rfl) (of_decide_eq_true (by kernel_rfl)) k0 bel lt0) (trodAll_cons_mk (Below.trod laidOut (by kernel_rfl) (of_decide_eq_true (by kernel_rfl)) k1 bel lt1) (trodAll_cons_mk (shut_int Tryd.underlying5 w2) (trodAll_cons_mk (shut_int Tryd.underlying32 w3) trodAll_mk0)))), rfl, bel.frame _, fun h => by cases h⟩

theorem laid_met (os : Os) : laidMet Tryd.prog Rows.canoncheckAcceptsCanonicalFormsRow.laid ((laidWorld os).forCall (fun _ _ => 0) ⟨#[], #[.slice none 0 0, .agg #[.int .i64 0, .int .i64 0, .int .i64 0], .int .u8 0, .int .u64 0], []⟩).memory :=
  laidMet_of_run' 8 (by kernel_rfl) (by kernel_rfl)
theorem reads (os : Os) {H : Type} (enc : TypeId × Value → H) : ∃ places, DataW.whole enc Tryd.prog ((laidWorld os).forCall (fun _ _ => 0) ⟨#[], #[.slice none 0 0, .agg #[.int .i64 0, .int .i64 0, .int .i64 0], .int .u8 0, .int .u64 0], []⟩).memory Tryd.f5.params.toList Rows.canoncheckAcceptsCanonicalFormsSpec.vars false #[.slice none 0 0, .agg #[.int .i64 0, .int .i64 0, .int .i64 0], .int .u8 0, .int .u64 0].toList 8 = some ([.nil, .agg [.lit (.int .i64 0), .lit (.int .i64 0), .lit (.int .i64 0)], .lit (.int .u8 0), .lit (.int .u64 0)], [], places) :=
  ⟨[], by kernel_rfl⟩

set_option maxRecDepth 100000 in
theorem lifted (os : Os) (started : os.Started) (H : Type) (enc : TypeId × Value → H) (F : Stop.Interp) :
    ReturnsInHanded {} Tryd.checked os 5 .any ((OpenSpec.ofChange Rows.canoncheckAcceptsCanonicalFormsSpec).preRow enc Tryd.prog Tryd.f5 Rows.canoncheckAcceptsCanonicalFormsRow.domain false Rows.canoncheckAcceptsCanonicalFormsRow.laid) (((OpenSpec.ofChange Rows.canoncheckAcceptsCanonicalFormsSpec).at F).post enc Tryd.prog Tryd.f5 false true false false) := by
  obtain ⟨places, hx⟩ := reads os enc
  refine returnsInHanded_of_row (C := Tryd.checked) (s := (OpenSpec.ofChange Rows.canoncheckAcceptsCanonicalFormsSpec)) own started (by kernel_rfl) Tryd.func5
    (witness_row_at (enc := enc) (C := Tryd.checked) false (laidWorld os) #[.slice none 0 0, .agg #[.int .i64 0, .int .i64 0, .int .i64 0], .int .u8 0, .int .u64 0] rfl (by kernel_rfl) (by kernel_rfl) (by kernel_rfl)
      (OpenSpec.preRow_of_cond 8 hx (by kernel_rfl) (fun k hk => by cases hk) (by kernel_rfl) (laid_met os))) ?_
  intro W base args ds gs before hval hW _ hcond _ hL _ _
  exact contract H enc W base args ds gs before hval hW (tab_laid hL)

theorem said : Rows.CanoncheckAcceptsCanonicalFormsSaid :=
  OpenClaim.holds_of_cond 5 Tryd.f5 rfl rfl rfl rfl rfl rfl rfl ⟨rfl, rfl, rfl, rfl, rfl⟩ rfl rfl rfl rfl rfl (by kernel_rfl) Tryd.func5 (by kernel_rfl)
    (of_decide_eq_true (by kernel_rfl)) (by unfold Func.isWrapper; first | (rw [if_pos (by decide +kernel)]; kernel_rfl) | (rw [if_neg (by decide +kernel)]; exact ⟨rfl, rfl⟩))
    (fun os started H enc _ F => by rw [OpenClaim.pre_eq_preRow]; exact lifted os started H enc F)

theorem plain (f : FuncId) (fn : Func) (hf : Tryd.pinned.checked.prog.funcNamed "capnp/capnplaw16.CanoncheckAcceptsCanonicalForms" = some f) (hfn : Tryd.pinned.checked.prog.funcs[f]? = some fn) :
    Rows.canoncheckAcceptsCanonicalFormsCard.stood.looks = Tryd.pinned.checked.prog.looks [] ∧ ∀ (j : Nat) t, fn.params[j]? = some t → Tryd.pinned.checked.prog.wantsStandIn t = false := by
  obtain rfl : f = 5 := Option.some.inj ((show Tryd.prog.funcNamed "capnp/capnplaw16.CanoncheckAcceptsCanonicalForms" = some 5 by kernel_rfl).symm.trans hf) |>.symm
  obtain rfl : fn = Tryd.f5 := (Option.some.inj (Tryd.func5.symm.trans hfn)).symm
  refine ⟨by kernel_rfl, fun j t ht => ?_⟩
  rw [Tryd.params5] at ht
  have hm := Array.mem_of_getElem? ht
  have hall : ([27, 24, 5, 32].all fun u => !Tryd.prog.wantsStandIn u) = true := by kernel_rfl
  have hm2 : t ∈ [27, 24, 5, 32] := by
    simp at hm
    simp
    omega
  exact (show Tryd.prog.wantsStandIn t = false by simpa using List.all_eq_true.1 hall t hm2)

theorem proved : Rows.CanoncheckAcceptsCanonicalFormsCardSaid :=
  Claim7.holds_tied_plain_at .later [] _ _ _ _ said (fun _ h => by cases h) (by kernel_rfl) (fun _ h => by cases h) canoncheckAcceptsCanonicalForms_row_tie rfl ⟨rfl, rfl⟩ (by kernel_rfl) rfl plain (by kernel_rfl)
#print axioms proved
end Go.Proofs.YtclpapddejgpnaaDoor.canoncheckAcceptsCanonicalForms
