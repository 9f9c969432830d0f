/- Package pointer: what the laws of layer 2 want beside the contracts. -/
import Derived.Test.YtcpampchcpccnaaAwake02
import Derived.Test.YtcpampchcpccnaaRef02
namespace Go.Proofs.Ytcpampchcpccnaa
open Go.ChangeShapes Go.WideShapes Go.ChangeAt Go.RowKit
set_option linter.unusedVariables false
set_option linter.unusedSimpArgs false

theorem Decode_enc (k o d p el c pa sg lo : Int) (db : Bool) (w : World) (hv : Vld ⟨k, o, d, p, el, c, db, pa, sg, lo⟩) :
    Calls Try.prog 11 #[.int .u64 (encW ⟨k, o, d, p, el, c, db, pa, sg, lo⟩)] w fun e w' => e = .returned (.agg #[.int .i64 k, .int .i64 o, .int .i64 d, .int .i64 p, .int .i64 el, .int .i64 c, .bool db, .int .i64 pa, .int .u32 sg, .int .u32 lo]) ∧ Below w.heap.size w w' :=
  (Decode_any _ w (encW_bd _).1 (encW_bd _).2).mono fun e w' ⟨h1, h2⟩ => ⟨h1.trans (by rw [decP_encW _ hv]), h2⟩
theorem Valid_yes (k o d p el c pa sg lo : Int) (db : Bool) (w : World) (hv : Vld ⟨k, o, d, p, el, c, db, pa, sg, lo⟩) :
    Calls Try.prog 13 #[.agg #[.int .i64 k, .int .i64 o, .int .i64 d, .int .i64 p, .int .i64 el, .int .i64 c, .bool db, .int .i64 pa, .int .u32 sg, .int .u32 lo]] w fun e w' => e = .returned (.bool true) ∧ Below w.heap.size w w' :=
  (Valid_any k o d p el c pa sg lo db w).mono fun e w' ⟨h1, h2⟩ => ⟨h1.trans (by simp [okE, hv]), h2⟩
theorem Encode_dec (x : Int) (w : World) (h5 : 0 ≤ x) (h6 : x < 18446744073709551616) :
    Calls Try.prog 9 #[.agg #[.int .i64 (decP x).k, .int .i64 (decP x).o, .int .i64 (decP x).d, .int .i64 (decP x).p, .int .i64 (decP x).el, .int .i64 (decP x).c, .bool (decP x).db, .int .i64 (decP x).pa, .int .u32 (decP x).sg, .int .u32 (decP x).lo]] w fun e w' => e = .returned (.tuple #[.int .u64 x, .bool true]) ∧ Below w.heap.size w w' :=
  (Encode_yes (decP x).k (decP x).o (decP x).d (decP x).p (decP x).el (decP x).c (decP x).pa (decP x).sg (decP x).lo (decP x).db w (decP_vld x h5 h6)).mono fun e w' ⟨h1, h2⟩ => ⟨h1.trans (by rw [show (⟨(decP x).k, (decP x).o, (decP x).d, (decP x).p, (decP x).el, (decP x).c, (decP x).db, (decP x).pa, (decP x).sg, (decP x).lo⟩ : Ptr) = decP x from rfl, encW_decP x h5 h6]), h2⟩
theorem Valid_dec (x : Int) (w : World) (h5 : 0 ≤ x) (h6 : x < 18446744073709551616) :
    Calls Try.prog 13 #[.agg #[.int .i64 (decP x).k, .int .i64 (decP x).o, .int .i64 (decP x).d, .int .i64 (decP x).p, .int .i64 (decP x).el, .int .i64 (decP x).c, .bool (decP x).db, .int .i64 (decP x).pa, .int .u32 (decP x).sg, .int .u32 (decP x).lo]] w fun e w' => e = .returned (.bool true) ∧ Below w.heap.size w w' :=
  Valid_yes (decP x).k (decP x).o (decP x).d (decP x).p (decP x).el (decP x).c (decP x).pa (decP x).sg (decP x).lo (decP x).db w (decP_vld x h5 h6)

theorem blk_drew {w : World} {b : Nat} {cs : Array Value} (h : ∀ o, w.cell? ⟨b, o, none⟩ = cs[o]?) : ∀ o, w.drew.cell? ⟨b, o, none⟩ = cs[o]? := h
theorem ptr_guard : Try.prog.eqGuardType Try.prog.depth 25 = false := by kernel_rfl
/-- the comparison of two pointers as an operation of a chain -/
theorem run_exec_eql {o : Oper} {ρ : Operand → Value} {w : World} {x y : Operand} {r : TypeId} {xs ys : Array Value} {b : Bool} (ho : o.op = .binOp .eql 25 x y r) (hx : ρ x = .agg xs) (hy : ρ y = .agg ys)
    (h : (binOp .eql 25 (.agg xs) (.agg ys)).run Try.prog w = .ok (.bool b) w) : (execOp ρ o).run Try.prog w = .ok (.value (.bool b)) w := by
  simp [execOp, ho, hx, hy, run_eqGuard_agg (hm := ptr_guard), h, Result.andThen]

/-- a word and a valid pointer belong to each other in one way -/
theorem enc_eq_iff (q : Ptr) (x : Int) (hv : Vld q) (h5 : 0 ≤ x) (h6 : x < 18446744073709551616) : encW q = x ↔ decP x = q :=
  ⟨fun h => by rw [← h, decP_encW q hv], fun h => by rw [← h, encW_decP x h5 h6]⟩
theorem enc_inj (a b : Ptr) (ha : Vld a) (hb : Vld b) : encW a = encW b ↔ a = b :=
  ⟨fun h => by rw [← decP_encW a ha, h, decP_encW b hb], fun h => by rw [h]⟩
theorem dec_zero (x : Int) (h5 : 0 ≤ x) (h6 : x < 18446744073709551616) : decP x = ⟨0, 0, 0, 0, 0, 0, false, 0, 0, 0⟩ ↔ x = 0 := by
  rw [← enc_eq_iff _ x (by decide +kernel) h5 h6, show encW ⟨0, 0, 0, 0, 0, 0, false, 0, 0, 0⟩ = 0 by decide +kernel]
  omega
theorem dec_k (x : Int) (h5 : 0 ≤ x) : (decP x).k = x % 4 := by
  unfold decP
  by_cases c0 : x % 4 = 0
  · rw [if_pos c0, c0]
  · by_cases c1 : x % 4 = 1
    · rw [if_neg c0, if_pos c1, c1]
    · by_cases c2 : x % 4 = 2
      · rw [if_neg c0, if_neg c1, if_pos c2, c2]
      · rw [if_neg c0, if_neg c1, if_neg c2]; show 3 = x % 4; omega
theorem enc_k (q : Ptr) (hv : Vld q) : encW q % 4 = q.k := by
  have h := congrArg Ptr.k (decP_encW q hv)
  rw [dec_k _ (encW_bd q).1] at h
  exact h
theorem dec_cap (x : Int) (h5 : 0 ≤ x) : ((decP x).k == 3 && (decP x).lo == 0) = (x % 4294967296 == 3) := by
  rw [Bool.eq_iff_iff]
  simp
  rw [dec_k x h5]
  by_cases c : x % 4 = 3
  · have : (decP x).lo = x / 4 % 1073741824 := by unfold decP; rw [if_neg (by omega), if_neg (by omega), if_neg (by omega)]
    rw [this]; omega
  · constructor
    · intro h; omega
    · intro h; omega
end Go.Proofs.Ytcpampchcpccnaa
