/- The fixed examples of layer 18: 'awake' is true. -/
import Derived.Test.YtekcmifgdlmljaaFnvP
import Derived.Test.YtekcmifgdlmljaaRef18
import Derived.Test.YtekcmifgdlmljaaBlk
import Derived.Lib.SlBytesConst
namespace Go.Proofs.Ytekcmifgdlmljaa
open Go.ChangeShapes Go.WideShapes Go.ChangeAt Go.RowKit
set_option linter.unusedVariables false
set_option linter.unusedSimpArgs false
set_option maxRecDepth 100000

theorem ri_mark (w : World) (zs : List Int) (T : TypeId) (f : Nat × Nat) : Ri (w.alloc (.cells (zs.map (Value.int .u8)).toArray T f)) .u8 (some ⟨w.heap.size, 0, none⟩) zs := by
  refine .inr ⟨w.heap.size, 0, rfl, fun j hj => ?_⟩
  have h : (w.alloc (.cells (zs.map (Value.int .u8)).toArray T f)).heap[w.heap.size]? = some (.cells (zs.map (Value.int .u8)).toArray T f) := by
    show (w.heap.push _)[w.heap.size]? = _
    simp
  unfold World.cell?
  rw [show (w.alloc (.cells (zs.map (Value.int .u8)).toArray T f)).heap[(⟨w.heap.size, 0 + j, none⟩ : Addr).block]? = _ from h]
  simp [zat, List.getD_eq_getElem?_getD, hj]
theorem awake18_any (w : World) : Calls Try.prog 7 #[] w fun e w' => e = .returned (.bool true) ∧ Below w.heap.size w w' := by
  have kc := fun (w : World) (C : Array Value) (n c : Nat) => Lib.run_convert_bytes_const (P := Try.prog) w 23 5 C n c Try.underlying23 Try.underlying5
  go_enter Try.func7, Try.ntmps7
  go_wp2_with fail
  refine (FStart_any _).mono ?_
  rintro r w1 ⟨rfl, hb⟩
  have HB0 := Lib.hid (hb)
  clear hb 
  have HB := HB0
  clear HB0
  go_wp2_with fail
  refine (FSum_w none 0 0 [] 14695981039346656037 _ rfl rfl (Ri.nil _ _ _) (fun z hz => by cases hz) (by decide) (by decide) (by decide) (fun _ => rfl)).mono ?_
  rintro r w2 ⟨rfl, hb⟩
  have HB0 := Lib.hid (bel_on HB.out hb)
  clear hb  HB
  have HB := HB0
  clear HB0
  go_wp2_with fail
  refine abs_world (F := fun W => Ri W .u8 (some ⟨w2.heap.size, 0, none⟩) [97] ∧ Below w.heap.size w W) ⟨?_, ?_⟩ ?_
  · exact ri_mark _ [97] _ _
  · exact (HB.out.alloc (by first | exact Nat.le_refl _ | (have := HB.out.size; simp; omega) | (have := HB.out.size; omega) | (simp; done) | (simp; omega)) _)
  clear HB
  rintro W3 ⟨ht, hb⟩
  have Ht := Lib.hid ht
  have HB := Lib.hid hb
  clear hb ht
  refine (FSum_w (some ⟨w2.heap.size, 0, none⟩) 1 1 [97] 12638187200555641996 _ rfl (by kernel_rfl) Ht.out (by unfold Bts; decide) (by decide) (by decide) (by decide) (fun h => by cases h)).mono ?_
  rintro r w4 ⟨rfl, hb⟩
  have ft := Ht.out.below hb (Nat.le_refl _)
  have HB0 := Lib.hid (bel_on HB.out hb)
  clear hb Ht HB
  have HB := HB0
  clear HB0
  have Ht := Lib.hid ft
  clear ft
  clear Ht
  go_wp2_with fail
  refine abs_world (F := fun W => Ri W .u8 (some ⟨w4.heap.size, 0, none⟩) [102, 111, 111, 98, 97, 114] ∧ Below w.heap.size w W) ⟨?_, ?_⟩ ?_
  · exact ri_mark _ [102, 111, 111, 98, 97, 114] _ _
  · exact (HB.out.alloc (by first | exact Nat.le_refl _ | (have := HB.out.size; simp; omega) | (have := HB.out.size; omega) | (simp; done) | (simp; omega)) _)
  clear HB
  rintro W5 ⟨ht, hb⟩
  have Ht := Lib.hid ht
  have HB := Lib.hid hb
  clear hb ht
  refine (FSum_w (some ⟨w4.heap.size, 0, none⟩) 6 6 [102, 111, 111, 98, 97, 114] 9625390261332436968 _ rfl (by kernel_rfl) Ht.out (by unfold Bts; decide) (by decide) (by decide) (by decide) (fun h => by cases h)).mono ?_
  rintro r w6 ⟨rfl, hb⟩
  have ft := Ht.out.below hb (Nat.le_refl _)
  have HB0 := Lib.hid (bel_on HB.out hb)
  clear hb Ht HB
  have HB := HB0
  clear HB0
  have Ht := Lib.hid ft
  clear ft
  clear Ht
  go_wp2_with fail
  refine (FWords_w none 0 0 [] 14695981039346656037 _ rfl rfl (Ri.nil _ _ _) (fun z hz => by cases hz) (by decide) (by decide) (by decide) (fun _ => rfl)).mono ?_
  rintro r w7 ⟨rfl, hb⟩
  have HB0 := Lib.hid (bel_on HB.out hb)
  clear hb  HB
  have HB := HB0
  clear HB0
  go_wp2_with fail
  refine (FStart_any _).mono ?_
  rintro r w8 ⟨rfl, hb⟩
  have HB0 := Lib.hid (bel_on HB.out hb)
  clear hb  HB
  have HB := HB0
  clear HB0
  go_wp2
  go_ret
  exact ⟨rfl, HB.out⟩
end Go.Proofs.Ytekcmifgdlmljaa
