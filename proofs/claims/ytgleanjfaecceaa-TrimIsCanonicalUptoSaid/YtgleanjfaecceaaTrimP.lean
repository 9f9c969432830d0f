/- What the functions of package trim do, each by a contract (by the code at dec6d4d). -/
import Derived.Test.YtgleanjfaecceaaTrimC
import Derived.Test.YtgleanjfaecceaaTab
namespace Go.Proofs.Ytgleanjfaecceaa
open Go.ChangeShapes Go.WideShapes Go.ChangeAt Go.RowKit
set_option linter.unusedVariables false
set_option linter.unusedSimpArgs false

theorem TWords_any (A : Option Addr) (c : Nat) (d : List Int) (w : World) (hT : TabOK w) (hr : Ri w .u8 A d) (hb : Bts d) (hm : d.length ≤ 1099511627776) (h8 : d.length % 8 = 0) (hc : d.length ≤ c) :
    Calls Try.prog 11 #[.slice A d.length c] w fun r w' => r = .returned (.int .i64 (wordsT d)) ∧ Below w.heap.size w w' := by
  refine (trimWords_any A c d w hr hb hm hc).mono ?_
  rintro r w' ⟨rfl, rfl⟩
  exact ⟨rfl, Below.refl _ _⟩
theorem TPointers_any (B : Option Addr) (c : Nat) (ks : List Nd) (w : World) (hT : TabOK w) (hr : KsR w B ks) (hm : ks.length ≤ 1099511627776) (hc : ks.length ≤ c) :
    Calls Try.prog 13 #[.slice B ks.length c] w fun r w' => r = .returned (.int .i64 (ptrsT ks)) ∧ Below w.heap.size w w' :=
  trimPointers_any B c ks w hr hm hc
/-- promised of composite lists -/
theorem TUniform_any (x : Nd) (A : Option Addr) (c : Nat) (B : Option Addr) (c2 : Nat) (w : World) (hT : TabOK w) (hx : NdR w A c B c2 x) (hs : sizeN x ≤ 1099511627776) (hv : validN x = true) (hk : x.k = 2) (he : x.e = 7) :
    Calls Try.prog 18 #[.agg #[.int .i64 x.k, .int .i64 x.e, .int .i64 x.n, .slice A x.d.length c, .slice B x.ks.length c2]] w fun r w' => r = .returned (.tuple #[.int .i64 (uniD x.ks x.ks.length), .int .i64 (uniP x.ks x.ks.length)]) ∧ Below w.heap.size w w' :=
  trimUniform_any x A c B c2 w hx hs
/-- promised of well-formed nodes; what it gives may be written into -/
theorem TTrimU_any (x : Nd) (A : Option Addr) (c : Nat) (B : Option Addr) (c2 : Nat) (w : World) (hT : TabOK w) (hx : NdR w A c B c2 x) (hs : sizeN x ≤ 1099511627776) (hv : validN x = true) :
    Calls Try.prog 16 #[.agg #[.int .i64 x.k, .int .i64 x.e, .int .i64 x.n, .slice A x.d.length c, .slice B x.ks.length c2]] w fun r w' => ∃ v, r = .returned v ∧ NodU w.heap.size (trimN x) v w' ∧ Below w.heap.size w w' := by
  refine (Trim_node x A c B c2 w hx hs hv).mono ?_
  rintro r w' ⟨v, h1, h2, h3⟩
  exact ⟨v, h1, h2.nodU, h3⟩
theorem TTrimU_c (x y : Nd) (A : Option Addr) (c : Nat) (B : Option Addr) (c2 : Nat) (w : World) (hT : TabOK w) (hx : NdR w A c B c2 x) (hs : sizeN x ≤ 1099511627776) (hv : validN x = true) (hy : trimN x = y) :
    Calls Try.prog 16 #[.agg #[.int .i64 x.k, .int .i64 x.e, .int .i64 x.n, .slice A x.d.length c, .slice B x.ks.length c2]] w fun r w' => ∃ v, r = .returned v ∧ NodU w.heap.size y v w' ∧ Below w.heap.size w w' := hy ▸ TTrimU_any x A c B c2 w hT hx hs hv
/-- promised of well-formed nodes -/
theorem TTrim_any (x : Nd) (A : Option Addr) (c : Nat) (B : Option Addr) (c2 : Nat) (w : World) (hT : TabOK w) (hx : NdR w A c B c2 x) (hs : sizeN x ≤ 1099511627776) (hv : validN x = true) :
    Calls Try.prog 16 #[.agg #[.int .i64 x.k, .int .i64 x.e, .int .i64 x.n, .slice A x.d.length c, .slice B x.ks.length c2]] w fun r w' => ∃ v, r = .returned v ∧ NodF w.heap.size (trimN x) v w' ∧ Below w.heap.size w w' := by
  refine (TTrimU_any x A c B c2 w hT hx hs hv).mono ?_
  rintro r w' ⟨v, h1, h2, h3⟩
  exact ⟨v, h1, h2.nod, h3⟩
end Go.Proofs.Ytgleanjfaecceaa
