/- 'capnplaw02.PointerRoundTrip': whatever the input, the call returns true, and each argument reads afterwards as it read before. No condition. -/
import Derived.Test.YtcpampchcpccnaaOpen
import Derived.Test.YtcpampchcpccnaaLaw02d
namespace Go.Proofs.Ytcpampchcpccnaa.pointerRoundTrip
open Go.ChangeShapes Go.WideShapes Go.ChangeAt Go.RowKit
set_option linter.unusedVariables false

set_option maxRecDepth 100000 in
theorem lifted (os : Os) (started : os.Started) (H : Type) (enc : TypeId × Value → H) :
    ReturnsInHanded {} Try.checked os 4 .any (Rows.pointerRoundTripSpec.pre6 enc Try.prog Try.f4 Rows.pointerRoundTripRow.domain false) (Rows.pointerRoundTripSpec.post enc Try.prog Try.f4 false true false false) := by
  refine returnsInHanded_of_change (C := Try.checked) own started (by kernel_rfl) Try.func4
    (ChangeSpec.witness6 (enc := enc) (C := Try.checked) false ⟨#[], #[.int .u64 0, .agg #[.int .i64 0, .int .i64 0, .int .i64 0, .int .i64 0, .int .i64 0, .int .i64 0, .bool false, .int .i64 0, .int .u32 0, .int .u32 0], .agg #[.int .i64 0, .int .i64 0, .int .i64 0, .int .i64 0, .int .i64 0, .int .i64 0, .bool false, .int .i64 0, .int .u32 0, .int .u32 0]], []⟩ 8 (by kernel_rfl) (by kernel_rfl) (by kernel_rfl) (by kernel_rfl)) ?_
  intro W base args ds gs before hval0 hW hcnd _
  have hval : ∀ (j : Nat) t v, Try.f4.params[j]? = some t → args[j]? = some v → Value.okWide Try.prog W .any base t v := hval0
  have hW' := hW
  obtain ⟨p, q, hA0, hV, rfl, hfz, hnd⟩ := hW
  have hA : DataW.TrodAll enc Try.prog W 0 (fun _ => true) true Try.f4.params.toList args.toList ds p := hA0
  rw [Try.params4] at hA hval
  obtain ⟨v0, vs0, d0, ds0, p0, q0, hargs, rfl, rfl, h0, r0⟩ := trodAll_cons hA
  obtain ⟨v1, vs1, d1, ds1, p1, q1, rfl, rfl, rfl, h1, r1⟩ := trodAll_cons r0
  obtain ⟨v2, vs2, d2, ds2, p2, q2, rfl, rfl, rfl, h2, r2⟩ := trodAll_cons r1
  obtain ⟨rfl, rfl, rfl⟩ := trodAll_nil r2
  obtain rfl : args = #[v0, v1, v2] := by cases args; simp_all
  obtain ⟨rfl, rfl⟩ := trodVars_none hV
  obtain ⟨a0, rfl, rfl, rfl, w0⟩ := open_int Try.underlying22 (hval 0 22 v0 rfl rfl) h0
  have k1 := h1
  have lt1 : ∀ x ∈ p1, x.block < W.heap.size := by obtain ⟨m, hm⟩ := k1; exact DataW.trod_lt m _ _ _ hm
  obtain ⟨cs1, rfl, sz1, hf1⟩ := open_struct Try.underlying25 (by kernel_rfl) (by kernel_rfl) (hval 1 25 v1 rfl rfl) h1
  obtain ⟨u1_0, u1_1, u1_2, u1_3, u1_4, u1_5, u1_6, u1_7, u1_8, u1_9, rfl⟩ := arr10 sz1
  obtain ⟨n1_0, y1_0, t1_0⟩ := hf1 0 _ u1_0 rfl rfl
  obtain ⟨a1_0, e1_0, -, w1_0⟩ := DataW.trod_int Try.underlying3 t1_0
  obtain rfl : u1_0 = .int .i64 a1_0 := by simpa using e1_0
  obtain ⟨n1_1, y1_1, t1_1⟩ := hf1 1 _ u1_1 rfl rfl
  obtain ⟨a1_1, e1_1, -, w1_1⟩ := DataW.trod_int Try.underlying3 t1_1
  obtain rfl : u1_1 = .int .i64 a1_1 := by simpa using e1_1
  obtain ⟨n1_2, y1_2, t1_2⟩ := hf1 2 _ u1_2 rfl rfl
  obtain ⟨a1_2, e1_2, -, w1_2⟩ := DataW.trod_int Try.underlying3 t1_2
  obtain rfl : u1_2 = .int .i64 a1_2 := by simpa using e1_2
  obtain ⟨n1_3, y1_3, t1_3⟩ := hf1 3 _ u1_3 rfl rfl
  obtain ⟨a1_3, e1_3, -, w1_3⟩ := DataW.trod_int Try.underlying3 t1_3
  obtain rfl : u1_3 = .int .i64 a1_3 := by simpa using e1_3
  obtain ⟨n1_4, y1_4, t1_4⟩ := hf1 4 _ u1_4 rfl rfl
  obtain ⟨a1_4, e1_4, -, w1_4⟩ := DataW.trod_int Try.underlying3 t1_4
  obtain rfl : u1_4 = .int .i64 a1_4 := by simpa using e1_4
  obtain ⟨n1_5, y1_5, t1_5⟩ := hf1 5 _ u1_5 rfl rfl
  obtain ⟨a1_5, e1_5, -, w1_5⟩ := DataW.trod_int Try.underlying3 t1_5
  obtain rfl : u1_5 = .int .i64 a1_5 := by simpa using e1_5
  obtain ⟨n1_6, y1_6, t1_6⟩ := hf1 6 _ u1_6 rfl rfl
  obtain ⟨a1_6, e1_6, -⟩ := DataW.trod_bool Try.underlying4 t1_6
  obtain rfl : u1_6 = .bool a1_6 := by simpa using e1_6
  obtain ⟨n1_7, y1_7, t1_7⟩ := hf1 7 _ u1_7 rfl rfl
  obtain ⟨a1_7, e1_7, -, w1_7⟩ := DataW.trod_int Try.underlying3 t1_7
  obtain rfl : u1_7 = .int .i64 a1_7 := by simpa using e1_7
  obtain ⟨n1_8, y1_8, t1_8⟩ := hf1 8 _ u1_8 rfl rfl
  obtain ⟨a1_8, e1_8, -, w1_8⟩ := DataW.trod_int Try.underlying23 t1_8
  obtain rfl : u1_8 = .int .u32 a1_8 := by simpa using e1_8
  obtain ⟨n1_9, y1_9, t1_9⟩ := hf1 9 _ u1_9 rfl rfl
  obtain ⟨a1_9, e1_9, -, w1_9⟩ := DataW.trod_int Try.underlying23 t1_9
  obtain rfl : u1_9 = .int .u32 a1_9 := by simpa using e1_9
  have k2 := h2
  have lt2 : ∀ x ∈ p2, x.block < W.heap.size := by obtain ⟨m, hm⟩ := k2; exact DataW.trod_lt m _ _ _ hm
  obtain ⟨cs2, rfl, sz2, hf2⟩ := open_struct Try.underlying25 (by kernel_rfl) (by kernel_rfl) (hval 2 25 v2 rfl rfl) h2
  obtain ⟨u2_0, u2_1, u2_2, u2_3, u2_4, u2_5, u2_6, u2_7, u2_8, u2_9, rfl⟩ := arr10 sz2
  obtain ⟨n2_0, y2_0, t2_0⟩ := hf2 0 _ u2_0 rfl rfl
  obtain ⟨a2_0, e2_0, -, w2_0⟩ := DataW.trod_int Try.underlying3 t2_0
  obtain rfl : u2_0 = .int .i64 a2_0 := by simpa using e2_0
  obtain ⟨n2_1, y2_1, t2_1⟩ := hf2 1 _ u2_1 rfl rfl
  obtain ⟨a2_1, e2_1, -, w2_1⟩ := DataW.trod_int Try.underlying3 t2_1
  obtain rfl : u2_1 = .int .i64 a2_1 := by simpa using e2_1
  obtain ⟨n2_2, y2_2, t2_2⟩ := hf2 2 _ u2_2 rfl rfl
  obtain ⟨a2_2, e2_2, -, w2_2⟩ := DataW.trod_int Try.underlying3 t2_2
  obtain rfl : u2_2 = .int .i64 a2_2 := by simpa using e2_2
  obtain ⟨n2_3, y2_3, t2_3⟩ := hf2 3 _ u2_3 rfl rfl
  obtain ⟨a2_3, e2_3, -, w2_3⟩ := DataW.trod_int Try.underlying3 t2_3
  obtain rfl : u2_3 = .int .i64 a2_3 := by simpa using e2_3
  obtain ⟨n2_4, y2_4, t2_4⟩ := hf2 4 _ u2_4 rfl rfl
  obtain ⟨a2_4, e2_4, -, w2_4⟩ := DataW.trod_int Try.underlying3 t2_4
  obtain rfl : u2_4 = .int .i64 a2_4 := by simpa using e2_4
  obtain ⟨n2_5, y2_5, t2_5⟩ := hf2 5 _ u2_5 rfl rfl
  obtain ⟨a2_5, e2_5, -, w2_5⟩ := DataW.trod_int Try.underlying3 t2_5
  obtain rfl : u2_5 = .int .i64 a2_5 := by simpa using e2_5
  obtain ⟨n2_6, y2_6, t2_6⟩ := hf2 6 _ u2_6 rfl rfl
  obtain ⟨a2_6, e2_6, -⟩ := DataW.trod_bool Try.underlying4 t2_6
  obtain rfl : u2_6 = .bool a2_6 := by simpa using e2_6
  obtain ⟨n2_7, y2_7, t2_7⟩ := hf2 7 _ u2_7 rfl rfl
  obtain ⟨a2_7, e2_7, -, w2_7⟩ := DataW.trod_int Try.underlying3 t2_7
  obtain rfl : u2_7 = .int .i64 a2_7 := by simpa using e2_7
  obtain ⟨n2_8, y2_8, t2_8⟩ := hf2 8 _ u2_8 rfl rfl
  obtain ⟨a2_8, e2_8, -, w2_8⟩ := DataW.trod_int Try.underlying23 t2_8
  obtain rfl : u2_8 = .int .u32 a2_8 := by simpa using e2_8
  obtain ⟨n2_9, y2_9, t2_9⟩ := hf2 9 _ u2_9 rfl rfl
  obtain ⟨a2_9, e2_9, -, w2_9⟩ := DataW.trod_int Try.underlying23 t2_9
  obtain rfl : u2_9 = .int .u32 a2_9 := by simpa using e2_9
  clear hA0 hval0
  refine (RoundTrip_walk a0 a1_0 a1_1 a1_2 a1_3 a1_4 a1_5 a1_7 a1_8 a1_9 a1_6 a2_0 a2_1 a2_2 a2_3 a2_4 a2_5 a2_7 a2_8 a2_9 a2_6 W (of_wf_u64 w0).1 (of_wf_u64 w0).2).mono fun e W' ⟨he, bel⟩ => ?_
  subst he
  exact ⟨_, rfl, _, _, _, [], _, [], hW', trodAll_mk1 (shut_bool Try.underlying4 _), (trodAll_cons_mk (shut_int Try.underlying22 w0) (trodAll_cons_mk (Below.trod laidOut (by kernel_rfl) (of_decide_eq_true (by kernel_rfl)) k1 bel lt1) (trodAll_cons_mk (Below.trod laidOut (by kernel_rfl) (of_decide_eq_true (by kernel_rfl)) k2 bel lt2) trodAll_mk0))), rfl, bel.frame _, fun h => by cases h⟩

theorem proved : Rows.PointerRoundTripSaid :=
  OpenClaim.holds_of_wide 4 Try.f4 rfl rfl rfl rfl rfl rfl rfl ⟨rfl, rfl, rfl, rfl, rfl⟩ rfl rfl rfl rfl rfl (by kernel_rfl) Try.func4 (by kernel_rfl)
    (of_decide_eq_true (by kernel_rfl)) (by unfold Func.isWrapper; first | (rw [if_pos (by decide +kernel)]; kernel_rfl) | (rw [if_neg (by decide +kernel)]; exact ⟨rfl, rfl⟩))
    (fun os started H enc _ => lifted os started H enc)
#print axioms proved
end Go.Proofs.Ytcpampchcpccnaa.pointerRoundTrip
