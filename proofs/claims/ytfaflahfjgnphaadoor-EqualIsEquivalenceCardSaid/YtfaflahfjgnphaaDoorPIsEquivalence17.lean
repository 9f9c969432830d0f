/- 'capnplaw17.EqualIsEquivalence', whatever the input: the call returns true, and each argument reads afterwards as it read before; the package-level variables that the row lists hold what the program's text lays (the card ties them to it). -/
import Derived.Test.YtfaflahfjgnphaaDoorMg30
import Derived.Test.YtfaflahfjgnphaaDoorMg45
import Derived.WalkKit
import Derived.Below
import Derived.OwnWalk
import Derived.Lib.Hide
import Derived.Deep.Draws
import Derived.Laws.AppendOwnNone
import Derived.Test.YtfaflahfjgnphaaDoorRows
import Derived.ProofKit
import Derived.OpenShut
import Derived.ShutString
import Derived.ChangeOld
import Derived.Deep.Fields
import Derived.WideMake
import Derived.MapKept
import Derived.Maps.Own
import Derived.Deep.Matrix
import Derived.WalkSpells
import Derived.Test.YtfaflahfjgnphaaDoorCards
import Derived.Test.YtfaflahfjgnphaaDoorTie
import Derived.Deep.DeepHandedRow
import Derived.Lib.LaidTab
import Derived.Deep.DeepFit
import Derived.RegionTactic
import Derived.Deep.QuietTactic
import Derived.BigQuiet
import Derived.StillTailTactics
import Derived.Orders
import Derived.Laws.OwnMore
import Derived.OneCell
import Derived.Laws.CopyOwn
import Derived.Lib.SliceRun
import Derived.Laws.EntriesVeiled
import Derived.Recover
import Derived.Test.YtfaflahfjgnphaaDoorLaw17b
namespace Go.Proofs.YtfaflahfjgnphaaDoor.equalIsEquivalence
open Go.ChangeShapes Go.WideShapes Go.ChangeAt Go.RowKit
set_option linter.unusedVariables false

set_option maxRecDepth 100000 in
theorem contract (H : Type) (enc : TypeId × Value → H) (W : World) (base : Nat) (args : Array Value) (ds gs : List (DataW H)) (before : List MemPlace)
    (hval0 : ∀ (j : Nat) t v, Tryd.f3.params[j]? = some t → args[j]? = some v → Value.okWide Tryd.prog W .any base t v)
    (hW : DataW.Whole enc Tryd.prog Tryd.f3.params.toList Rows.equalIsEquivalenceSpec.vars false W args.toList ds gs before) (hT : TabOK W) :
    Calls Tryd.prog 3 args W fun e W' => ∃ v, e = .returned v ∧ Rows.equalIsEquivalenceSpec.post enc Tryd.prog Tryd.f3 false true false false W args v W' := by
  have hval : ∀ (j : Nat) t v, Tryd.f3.params[j]? = some t → args[j]? = some v → Value.okWide Tryd.prog W .any base t v := hval0
  have hW' := hW
  obtain ⟨p, q, hA0, hV, rfl, hfz, hnd⟩ := hW
  have hA : DataW.TrodAll enc Tryd.prog W 0 (fun _ => true) true Tryd.f3.params.toList args.toList ds p := hA0
  rw [Tryd.params3] at hA hval
  obtain ⟨v0, vs0, d0, ds0, p0, q0, hargs, rfl, rfl, h0, r0⟩ := trodAll_cons hA
  obtain ⟨v1, vs1, d1, ds1, p1, q1, rfl, rfl, rfl, h1, r1⟩ := trodAll_cons r0
  obtain ⟨v2, vs2, d2, ds2, p2, q2, rfl, rfl, rfl, h2, r2⟩ := trodAll_cons r1
  obtain ⟨v3, vs3, d3, ds3, p3, q3, rfl, rfl, rfl, h3, r3⟩ := trodAll_cons r2
  obtain ⟨rfl, rfl, rfl⟩ := trodAll_nil r3
  obtain rfl : args = #[v0, v1, v2, v3] := by cases args; simp_all
  obtain ⟨rfl, rfl⟩ := trodVars_none hV
  obtain ⟨a0, len0, c0, rfl⟩ := okWide_slice Tryd.underlying22 (hval 0 22 v0 rfl rfl)
  have k0 := h0
  have lt0 : ∀ x ∈ p0, x.block < W.heap.size := by obtain ⟨m, hm⟩ := k0; exact DataW.trod_lt m _ _ _ hm
  obtain ⟨z0, r0'⟩ : ∃ ls, RowS W a0 len0 c0 ls := by
    obtain ⟨fuel, hf⟩ := h0
    rcases Go.Deep.open_int_rows Tryd.underlying22 Tryd.underlying31 Tryd.underlying32 (by kernel_rfl) (by kernel_rfl) hf with ⟨hcs, _⟩ | ⟨x, l, c, Ar, Lr, Cr, Zr, hcs, _, hl, hm, _, hall⟩
    · simp [Value.cells] at hcs
      obtain ⟨rfl, rfl, rfl⟩ := hcs
      exact ⟨[], RowS.none⟩
    · simp [Value.cells] at hcs
      obtain ⟨rfl, rfl, rfl⟩ := hcs
      exact ⟨_, RowS.some hl hm (fun r hr => by obtain ⟨y1, y2, y3, y4, y5, y6, y7⟩ := hall r hr; exact ⟨y1, y2, y3, y4, y5, y6, fun a' ha => (y7 a' ha).2⟩)⟩
  obtain rfl := r0'.len_eq
  obtain ⟨a1, len1, c1, rfl⟩ := okWide_slice Tryd.underlying22 (hval 1 22 v1 rfl rfl)
  have k1 := h1
  have lt1 : ∀ x ∈ p1, x.block < W.heap.size := by obtain ⟨m, hm⟩ := k1; exact DataW.trod_lt m _ _ _ hm
  obtain ⟨z1, r1'⟩ : ∃ ls, RowS W a1 len1 c1 ls := by
    obtain ⟨fuel, hf⟩ := h1
    rcases Go.Deep.open_int_rows Tryd.underlying22 Tryd.underlying31 Tryd.underlying32 (by kernel_rfl) (by kernel_rfl) hf with ⟨hcs, _⟩ | ⟨x, l, c, Ar, Lr, Cr, Zr, hcs, _, hl, hm, _, hall⟩
    · simp [Value.cells] at hcs
      obtain ⟨rfl, rfl, rfl⟩ := hcs
      exact ⟨[], RowS.none⟩
    · simp [Value.cells] at hcs
      obtain ⟨rfl, rfl, rfl⟩ := hcs
      exact ⟨_, RowS.some hl hm (fun r hr => by obtain ⟨y1, y2, y3, y4, y5, y6, y7⟩ := hall r hr; exact ⟨y1, y2, y3, y4, y5, y6, fun a' ha => (y7 a' ha).2⟩)⟩
  obtain rfl := r1'.len_eq
  obtain ⟨a2, len2, c2, rfl⟩ := okWide_slice Tryd.underlying22 (hval 2 22 v2 rfl rfl)
  have k2 := h2
  have lt2 : ∀ x ∈ p2, x.block < W.heap.size := by obtain ⟨m, hm⟩ := k2; exact DataW.trod_lt m _ _ _ hm
  obtain ⟨z2, r2'⟩ : ∃ ls, RowS W a2 len2 c2 ls := by
    obtain ⟨fuel, hf⟩ := h2
    rcases Go.Deep.open_int_rows Tryd.underlying22 Tryd.underlying31 Tryd.underlying32 (by kernel_rfl) (by kernel_rfl) hf with ⟨hcs, _⟩ | ⟨x, l, c, Ar, Lr, Cr, Zr, hcs, _, hl, hm, _, hall⟩
    · simp [Value.cells] at hcs
      obtain ⟨rfl, rfl, rfl⟩ := hcs
      exact ⟨[], RowS.none⟩
    · simp [Value.cells] at hcs
      obtain ⟨rfl, rfl, rfl⟩ := hcs
      exact ⟨_, RowS.some hl hm (fun r hr => by obtain ⟨y1, y2, y3, y4, y5, y6, y7⟩ := hall r hr; exact ⟨y1, y2, y3, y4, y5, y6, fun a' ha => (y7 a' ha).2⟩)⟩
  obtain rfl := r2'.len_eq
  have k3 := h3
  have lt3 : ∀ x ∈ p3, x.block < W.heap.size := by obtain ⟨m, hm⟩ := k3; exact DataW.trod_lt m _ _ _ hm
  obtain ⟨cs3, rfl, sz3, hf3⟩ := open_struct Tryd.underlying24 (by kernel_rfl) (by kernel_rfl) (hval 3 24 v3 rfl rfl) h3
  obtain ⟨u3_0, u3_1, u3_2, rfl⟩ := arr3 sz3
  obtain ⟨n3_0, y3_0, t3_0⟩ := hf3 0 _ u3_0 rfl rfl
  obtain ⟨a3_0, e3_0, -, w3_0⟩ := DataW.trod_int Tryd.underlying3 t3_0
  obtain rfl : u3_0 = .int .i64 a3_0 := by simpa using e3_0
  obtain ⟨n3_1, y3_1, t3_1⟩ := hf3 1 _ u3_1 rfl rfl
  obtain ⟨a3_1, e3_1, -, w3_1⟩ := DataW.trod_int Tryd.underlying3 t3_1
  obtain rfl : u3_1 = .int .i64 a3_1 := by simpa using e3_1
  obtain ⟨n3_2, y3_2, t3_2⟩ := hf3 2 _ u3_2 rfl rfl
  obtain ⟨a3_2, e3_2, -, w3_2⟩ := DataW.trod_int Tryd.underlying3 t3_2
  obtain rfl : u3_2 = .int .i64 a3_2 := by simpa using e3_2
  clear hA0 hval0
  refine (Equiv17_walk a0 c0 z0 a1 c1 z1 a2 c2 z2 a3_0 a3_1 a3_2 W hT r0'.sg r0'.wd r0'.nil (by have h1 := r0'.le; have h2 := r0'.cap_le; unfold maxLen at h2; omega) r0'.le (by have h2 := r0'.cap_le; unfold maxLen at h2; omega) r1'.sg r1'.wd r1'.nil (by have h1 := r1'.le; have h2 := r1'.cap_le; unfold maxLen at h2; omega) r1'.le (by have h2 := r1'.cap_le; unfold maxLen at h2; omega) r2'.sg r2'.wd r2'.nil (by have h1 := r2'.le; have h2 := r2'.cap_le; unfold maxLen at h2; omega) r2'.le (by have h2 := r2'.cap_le; unfold maxLen at h2; omega) (of_wf_i64 w3_0).1 (by have := (of_wf_i64 w3_0).2; omega) (of_wf_i64 w3_1).1 (by have := (of_wf_i64 w3_1).2; omega)).mono fun e W' ⟨he, bel⟩ => ?_
  subst he
  exact ⟨_, rfl, _, _, _, [], _, [], hW', trodAll_mk1 (shut_bool Tryd.underlying4 _), (trodAll_cons_mk (Below.trod laidOut (by kernel_rfl) (of_decide_eq_true (by kernel_rfl)) k0 bel lt0) (trodAll_cons_mk (Below.trod laidOut (by kernel_rfl) (of_decide_eq_true (by kernel_rfl)) k1 bel lt1) (trodAll_cons_mk (Below.trod laidOut (by kernel_rfl) (of_decide_eq_true (by kernel_rfl)) k2 bel lt2) (trodAll_cons_mk (Below.trod laidOut (by kernel_rfl) (of_decide_eq_true (by kernel_rfl)) k3 bel lt3) trodAll_mk0)))), rfl, bel.frame _, fun h => by cases h⟩

theorem laid_met (os : Os) : laidMet Tryd.prog Rows.equalIsEquivalenceRow.laid ((laidWorld os).forCall (fun _ _ => 0) ⟨#[], #[.slice none 0 0, .slice none 0 0, .slice none 0 0, .agg #[.int .i64 0, .int .i64 0, .int .i64 0]], []⟩).memory :=
  laidMet_of_run' 8 (by kernel_rfl) (by kernel_rfl)
theorem reads (os : Os) {H : Type} (enc : TypeId × Value → H) : ∃ places, DataW.whole enc Tryd.prog ((laidWorld os).forCall (fun _ _ => 0) ⟨#[], #[.slice none 0 0, .slice none 0 0, .slice none 0 0, .agg #[.int .i64 0, .int .i64 0, .int .i64 0]], []⟩).memory Tryd.f3.params.toList Rows.equalIsEquivalenceSpec.vars false #[.slice none 0 0, .slice none 0 0, .slice none 0 0, .agg #[.int .i64 0, .int .i64 0, .int .i64 0]].toList 8 = some ([.nil, .nil, .nil, .agg [.lit (.int .i64 0), .lit (.int .i64 0), .lit (.int .i64 0)]], [], places) :=
  ⟨[], by kernel_rfl⟩

set_option maxRecDepth 100000 in
theorem lifted (os : Os) (started : os.Started) (H : Type) (enc : TypeId × Value → H) (F : Stop.Interp) :
    ReturnsInHanded {} Tryd.checked os 3 .any ((OpenSpec.ofChange Rows.equalIsEquivalenceSpec).preRow enc Tryd.prog Tryd.f3 Rows.equalIsEquivalenceRow.domain false Rows.equalIsEquivalenceRow.laid) (((OpenSpec.ofChange Rows.equalIsEquivalenceSpec).at F).post enc Tryd.prog Tryd.f3 false true false false) := by
  obtain ⟨places, hx⟩ := reads os enc
  refine returnsInHanded_of_row (C := Tryd.checked) (s := (OpenSpec.ofChange Rows.equalIsEquivalenceSpec)) own started (by kernel_rfl) Tryd.func3
    (witness_row_at (enc := enc) (C := Tryd.checked) false (laidWorld os) #[.slice none 0 0, .slice none 0 0, .slice none 0 0, .agg #[.int .i64 0, .int .i64 0, .int .i64 0]] rfl (by kernel_rfl) (by kernel_rfl) (by kernel_rfl)
      (OpenSpec.preRow_of_cond 8 hx (by kernel_rfl) (fun k hk => by cases hk) (by kernel_rfl) (laid_met os))) ?_
  intro W base args ds gs before hval hW _ hcond _ hL _ _
  exact contract H enc W base args ds gs before hval hW (tab_laid hL)

theorem said : Rows.EqualIsEquivalenceSaid :=
  OpenClaim.holds_of_cond 3 Tryd.f3 rfl rfl rfl rfl rfl rfl rfl ⟨rfl, rfl, rfl, rfl, rfl⟩ rfl rfl rfl rfl rfl (by kernel_rfl) Tryd.func3 (by kernel_rfl)
    (of_decide_eq_true (by kernel_rfl)) (by unfold Func.isWrapper; first | (rw [if_pos (by decide +kernel)]; kernel_rfl) | (rw [if_neg (by decide +kernel)]; exact ⟨rfl, rfl⟩))
    (fun os started H enc _ F => by rw [OpenClaim.pre_eq_preRow]; exact lifted os started H enc F)

theorem plain (f : FuncId) (fn : Func) (hf : Tryd.pinned.checked.prog.funcNamed "capnp/capnplaw17.EqualIsEquivalence" = some f) (hfn : Tryd.pinned.checked.prog.funcs[f]? = some fn) :
    Rows.equalIsEquivalenceCard.stood.looks = Tryd.pinned.checked.prog.looks [] ∧ ∀ (j : Nat) t, fn.params[j]? = some t → Tryd.pinned.checked.prog.wantsStandIn t = false := by
  obtain rfl : f = 3 := Option.some.inj ((show Tryd.prog.funcNamed "capnp/capnplaw17.EqualIsEquivalence" = some 3 by kernel_rfl).symm.trans hf) |>.symm
  obtain rfl : fn = Tryd.f3 := (Option.some.inj (Tryd.func3.symm.trans hfn)).symm
  refine ⟨by kernel_rfl, fun j t ht => ?_⟩
  rw [Tryd.params3] at ht
  have hm := Array.mem_of_getElem? ht
  have hall : ([22, 24].all fun u => !Tryd.prog.wantsStandIn u) = true := by kernel_rfl
  have hm2 : t ∈ [22, 24] := by
    simp at hm
    simp
    omega
  exact (show Tryd.prog.wantsStandIn t = false by simpa using List.all_eq_true.1 hall t hm2)

theorem proved : Rows.EqualIsEquivalenceCardSaid :=
  Claim7.holds_tied_plain_at .later [] _ _ _ _ said (fun _ h => by cases h) (by kernel_rfl) (fun _ h => by cases h) equalIsEquivalence_row_tie rfl ⟨rfl, rfl⟩ (by kernel_rfl) rfl plain (by kernel_rfl)
#print axioms proved
end Go.Proofs.YtfaflahfjgnphaaDoor.equalIsEquivalence
