/- Package canonsize: Node, Total. -/
import Derived.Test.YtcmljjhnfpfcfaaDoorCanB
import Derived.Laws.EntriesVeiled
namespace Go.Proofs.YtcmljjhnfpfcfaaDoor
open Go.ChangeShapes Go.WideShapes Go.ChangeAt Go.RowKit
set_option linter.unusedVariables false
set_option linter.unusedSimpArgs false
set_option maxRecDepth 100000

theorem CNode_c (x : Nd) (A : Option Addr) (c : Nat) (B : Option Addr) (c2 : Nat) (w : World) (hT : TabOK w) (hx : NdR w A c B c2 x) (hs : sizeN x ≤ 1099511627776) (hv : validN x = true) :
    Calls Tryd.prog 12 #[.agg #[.int .i64 x.k, .int .i64 x.e, .int .i64 x.n, .slice A x.d.length c, .slice B x.ks.length c2]] w fun r w' => r = .returned (.int .i64 (canN x)) ∧ Below w.heap.size w w' := by
  have hcs := can_size x hv
  have HX := Lib.hid hx
  have HT := Lib.hid hT
  have HV := Lib.hid hv
  clear hx hT hv
  go_enter Tryd.func12, Tryd.ntmps12
  go_wp2_with fail
  refine abs_world (F := fun W => Blk W (w.heap.size + 1) #[.int .i64 0] ∧ Blk W (w.heap.size + 1 + 1) #[funK (w.heap.size + 1) (w.heap.size + 1 + 1)] ∧ Blk W (w.heap.size + 1 + 1 + 1) #[.int .i64 x.k, .int .i64 x.e, .int .i64 x.n, .slice A x.d.length c, .slice B x.ks.length c2] ∧ Below w.heap.size w W) ⟨?_, ?_, ?_, ?_⟩ ?_
  · exact ((Blk.new (by simp)).alloc _).alloc _
  · exact (Blk.new (by simp)).alloc _
  · exact Blk.new (by simp)
  · exact ((((Below.refl _ _).alloc (Nat.le_refl _) _).alloc (by simp) _).alloc (by simp; omega) _).alloc (by simp; omega) _
  rintro W ⟨b1, b2, b3, hb⟩
  have HB1 := Lib.hid b1
  have HB := Lib.hid hb
  have hx := HX.out
  have hread : ReadK w W (w.heap.size + 1) (some ⟨w.heap.size + 1 + 1 + 1, 0, none⟩) [x] := by
    intro j hj
    have hj0 : j = 0 := by simpa using hj
    subst hj0
    have hc := b3.cell
    exact ⟨w.heap.size + 1 + 1 + 1, 0, A, c, B, c2, rfl, by omega, b3.lt, hc 0, hc 1, hc 2, hc 3, hc 4, hx⟩
  have hz : sizeK [x] = sizeN x := by simp [sizeK]
  have hcz : canK [x] = canN x := by simp [canK]
  refine (Visit_any (w.heap.size + 1) (w.heap.size + 1 + 1) w HT.out (by omega) (by omega) (sizeN x + 1) [x] (some ⟨w.heap.size + 1 + 1 + 1, 0, none⟩) 1 0 W (by omega) (by omega) (by intro y hy; rw [List.mem_singleton.1 hy]; exact HV.out) (Nat.le_refl _) hb hread (Int.le_refl _) (by omega) b1 b2).mono ?_
  rintro r w4 ⟨rfl, hk4, hs4⟩
  have HW4 : Hid (Below w.heap.size w w4) := Lib.hid (hb.trans ((bel_keeps hk4 (Nat.le_of_lt b1.lt)).mono (by omega)))
  rw [hcz, Int.zero_add] at hs4
  clear b1 b2 b3 hb hread hx hk4 hz hcz
  obtain ⟨x4, y4, z4⟩ := hs4
  go_wp2
  go_ret
  exact ⟨rfl, HW4.out⟩

theorem CTotal_c (x : Nd) (A : Option Addr) (c : Nat) (B : Option Addr) (c2 : Nat) (w : World) (hT : TabOK w) (hx : NdR w A c B c2 x) (hs : sizeN x ≤ 1099511627776) (hv : validN x = true) :
    Calls Tryd.prog 14 #[.agg #[.int .i64 x.k, .int .i64 x.e, .int .i64 x.n, .slice A x.d.length c, .slice B x.ks.length c2]] w fun r w' => r = .returned (.int .i64 (canN x + 1)) ∧ Below w.heap.size w w' := by
  have hcs := can_size x hv
  have HB0 : Hid (∀ o, Below w.heap.size w (w.alloc o)) := Lib.hid (fun o => (Below.refl _ _).alloc (Nat.le_refl _) o)
  have HC := Lib.hid (fun w2 (h2 : Below w.heap.size w w2) => CNode_c x A c B c2 w2 (hT.on h2) (hx.on h2 (Nat.le_refl _)) hs hv)
  clear hx hT hv
  go_enter Tryd.func14, Tryd.ntmps14
  go_wp2_with fail
  refine (HC.out _ (HB0.out _)).mono ?_
  rintro r w1 ⟨rfl, hb1⟩
  have HB1 := Lib.hid (bel_on (HB0.out _) hb1)
  clear hb1
  go_wp2
  go_ret
  exact ⟨rfl, HB1.out⟩
end Go.Proofs.YtcmljjhnfpfcfaaDoor
