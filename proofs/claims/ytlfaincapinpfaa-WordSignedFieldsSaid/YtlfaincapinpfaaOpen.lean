/- How the arguments of a law are opened: slices of integers. -/
import Derived.Test.YtlfaincapinpfaaRows
import Derived.Test.YtlfaincapinpfaaMem
import Derived.WalkKit
import Derived.ProofKit
import Derived.OpenShut
import Derived.ShutString
import Derived.ChangeOld
namespace Go.Proofs.Ytlfaincapinpfaa
open Go.ChangeShapes Go.WideShapes Go.ChangeAt Go.RowKit

theorem own : ownKnob Try.prog.godebug = none := by kernel_rfl
theorem laidOut : laidOutB Try.prog = true := by kernel_rfl

/-- a slice of integers that came in -/
structure Row (k : IntKind) (w : World) (A : Option Addr) (len cap : Nat) (zs : List Int) : Prop where
  ri : Ri w k A zs
  len_eq : len = zs.length
  le : len ≤ cap
  cap_le : cap ≤ maxLen
  nil : A = none → cap = 0
  fits : ∀ z ∈ zs, (Lit.int k z).wf = true

theorem Row.none {k : IntKind} {w : World} : Row k w .none 0 0 [] := ⟨Ri.nil _ _ _, rfl, Nat.le_refl _, Nat.zero_le _, fun _ => rfl, fun z hz => by cases hz⟩

theorem Row.some {k : IntKind} {w : World} {x : Addr} {len cap : Nat} {zs : List Int} (hl : len ≤ cap) (hm : cap ≤ maxLen) (hz : zs.length = cap) (hc : ∀ i, i < zs.length → w.cell? (x.add i) = .some (.int k (zs.getD i 0))) (hw : ∀ n ∈ zs, (Lit.int k n).wf = true) :
    Row k w (.some x) len cap (zs.take len) := by
  have hlen : (zs.take len).length = len := by simp; omega
  refine ⟨?_, hlen.symm, hl, hm, (fun h => by cases h), fun z h => hw z (List.mem_of_mem_take h)⟩
  by_cases h0 : 0 < len
  · obtain ⟨b, off, spot⟩ := x
    have hs : spot = .none := by
      have := World.cell?_spot (hc 0 (by omega))
      simpa [Addr.add] using this
    subst hs
    refine .inr ⟨b, off, rfl, fun j hj => ?_⟩
    rw [hlen] at hj
    have := hc j (by omega)
    rw [add_plain] at this
    rw [this, zat_take _ _ _ hj]
    rfl
  · exact .inl (List.eq_nil_of_length_eq_zero (by omega))

theorem Row.bts {w : World} {A : Option Addr} {len cap : Nat} {zs : List Int} (h : Row .u8 w A len cap zs) : Bts zs := fun z hz => by
  have := h.fits z hz
  simp [Lit.wf, IntKind.min, IntKind.max, IntKind.signed, IntKind.bits] at this
  omega
theorem Row.wds {w : World} {A : Option Addr} {len cap : Nat} {zs : List Int} (h : Row .u64 w A len cap zs) : Wds zs := fun z hz => by
  have := h.fits z hz
  simp [Lit.wf, IntKind.min, IntKind.max, IntKind.signed, IntKind.bits] at this
  omega
theorem of_wf_u8 {n : Int} (h : (Lit.int .u8 n).wf = true) : 0 ≤ n ∧ n < 256 := by
  simp [Lit.wf, IntKind.min, IntKind.max, IntKind.signed, IntKind.bits] at h
  omega
theorem of_wf_u16 {n : Int} (h : (Lit.int .u16 n).wf = true) : 0 ≤ n ∧ n < 65536 := by
  simp [Lit.wf, IntKind.min, IntKind.max, IntKind.signed, IntKind.bits] at h
  omega
theorem of_wf_u32 {n : Int} (h : (Lit.int .u32 n).wf = true) : 0 ≤ n ∧ n < 4294967296 := by
  simp [Lit.wf, IntKind.min, IntKind.max, IntKind.signed, IntKind.bits] at h
  omega
theorem of_wf_u64 {n : Int} (h : (Lit.int .u64 n).wf = true) : 0 ≤ n ∧ n < 18446744073709551616 := by
  simp [Lit.wf, IntKind.min, IntKind.max, IntKind.signed, IntKind.bits] at h
  omega
theorem of_wf_i64 {n : Int} (h : (Lit.int .i64 n).wf = true) : -9223372036854775808 ≤ n ∧ n < 9223372036854775808 := by
  simp [Lit.wf, IntKind.min, IntKind.max, IntKind.signed, IntKind.bits] at h
  omega
theorem of_wf_i32 {n : Int} (h : (Lit.int .i32 n).wf = true) : -2147483648 ≤ n ∧ n < 2147483648 := by
  simp [Lit.wf, IntKind.min, IntKind.max, IntKind.signed, IntKind.bits] at h
  omega
end Go.Proofs.Ytlfaincapinpfaa
