/- The fixed examples of layer 10 ('awake' is true). -/
import Derived.Test.YtedofcagfopoeaaDoorNodeP
import Derived.Test.YtedofcagfopoeaaDoorNodeZ
namespace Go.Proofs.YtedofcagfopoeaaDoor
open Go.ChangeShapes Go.WideShapes Go.ChangeAt Go.RowKit
set_option linter.unusedVariables false
set_option linter.unusedSimpArgs false
attribute [local simp] AllK KnowsV look Is

def z10 : Nd := .mk 0 0 0 [] []
def s10 : Nd := .mk 1 0 0 [] [z10]
def e10 : Nd := .mk 1 0 0 [] []
def f10 : Nd := .mk 1 0 0 [0, 0, 0, 0, 0, 0, 0, 0] [s10]
def l10 : Nd := .mk 2 7 2 [] [e10, f10]
def b10 : Nd := .mk 2 1 3 [7] []
def x10 : Nd := .mk 2 1 3 [8] []
def o10 : Nd := .mk 2 7 2 [] [e10, z10]
def k10 : Nd := .mk 3 0 0 [] []
def d10 : Nd := .mk 1 0 0 [0, 0, 0, 0] []

theorem makeN1 (w : World) : (Instr.makeSlice 23 (.int .i64 1) (.int .i64 1)).run Tryd.prog w = .ok (.slice (some ⟨w.heap.size, 0, none⟩) 1 1) (w.alloc (.cells #[.int .i64 0, .int .i64 0, .int .i64 0, .slice none 0 0, .slice none 0 0] 25)) := by
  obtain ⟨i0, hi, hz0, hz1, hz2⟩ := info_parts node_info
  have h := run_make (P := Tryd.prog) w 23 25 i0 _ Tryd.underlying23 hi hz0 .i64 .i64 1 1 (by decide) (by decide) (by rw [hz2]; decide) (by decide)
  rw [hz1] at h
  rw [show madeCells (Value.agg #[.int .i64 0, .int .i64 0, .int .i64 0, .slice none 0 0, .slice none 0 0]).cells ((1 : Int).toNat * 5) = #[.int .i64 0, .int .i64 0, .int .i64 0, .slice none 0 0, .slice none 0 0] by kernel_rfl] at h
  exact h
theorem makeB8 (w : World) : (Instr.makeSlice 22 (.int .i64 8) (.int .i64 8)).run Tryd.prog w = .ok (.slice (some ⟨w.heap.size, 0, none⟩) 8 8) (w.alloc (.cells (([0, 0, 0, 0, 0, 0, 0, 0] : List Int).map (Value.int .u8)).toArray 5)) := by
  obtain ⟨i0, hi, hz0, hz1, hz2⟩ := info_parts int8_info
  have h := run_make (P := Tryd.prog) w 22 5 i0 (.int .u8 0) Tryd.underlying22 hi hz0 .i64 .i64 8 8 (by decide) (by decide) (by rw [hz2]; decide) (by decide)
  rw [hz1] at h
  rw [show madeCells (Value.int .u8 0).cells ((8 : Int).toNat * 1) = (([0, 0, 0, 0, 0, 0, 0, 0] : List Int).map (Value.int .u8)).toArray by kernel_rfl] at h
  exact h
theorem makeB4 (w : World) : (Instr.makeSlice 22 (.int .i64 4) (.int .i64 4)).run Tryd.prog w = .ok (.slice (some ⟨w.heap.size, 0, none⟩) 4 4) (w.alloc (.cells (([0, 0, 0, 0] : List Int).map (Value.int .u8)).toArray 5)) := by
  obtain ⟨i0, hi, hz0, hz1, hz2⟩ := info_parts int8_info
  have h := run_make (P := Tryd.prog) w 22 5 i0 (.int .u8 0) Tryd.underlying22 hi hz0 .i64 .i64 4 4 (by decide) (by decide) (by rw [hz2]; decide) (by decide)
  rw [hz1] at h
  rw [show madeCells (Value.int .u8 0).cells ((4 : Int).toNat * 1) = (([0, 0, 0, 0] : List Int).map (Value.int .u8)).toArray by kernel_rfl] at h
  exact h

theorem NValid_c (x : Nd) (A : Option Addr) (c : Nat) (B : Option Addr) (c2 : Nat) (v : Bool) (w : World) (hT : TabOK w) (hx : NdR w A c B c2 x) (hs : sizeN x ≤ 1099511627776) (hv : validN x = v) :
    Calls Tryd.prog 10 #[.agg #[.int .i64 x.k, .int .i64 x.e, .int .i64 x.n, .slice A x.d.length c, .slice B x.ks.length c2]] w fun r w' => r = .returned (.bool v) ∧ Below w.heap.size w w' := hv ▸ NValid_any x A c B c2 w hT hx hs
theorem NDepth_c (x : Nd) (A : Option Addr) (c : Nat) (B : Option Addr) (c2 : Nat) (v : Int) (w : World) (hT : TabOK w) (hx : NdR w A c B c2 x) (hs : sizeN x ≤ 1099511627776) (hv : validN x = true) (hd : (depthN x : Int) = v) :
    Calls Tryd.prog 14 #[.agg #[.int .i64 x.k, .int .i64 x.e, .int .i64 x.n, .slice A x.d.length c, .slice B x.ks.length c2]] w fun r w' => r = .returned (.int .i64 v) ∧ Below w.heap.size w w' := hd ▸ NDepth_any x A c B c2 w hT hx hs hv
theorem NObjects_c (x : Nd) (A : Option Addr) (c : Nat) (B : Option Addr) (c2 : Nat) (v : Int) (w : World) (hT : TabOK w) (hx : NdR w A c B c2 x) (hs : sizeN x ≤ 1099511627776) (hv : validN x = true) (hd : (objsN x : Int) = v) :
    Calls Tryd.prog 16 #[.agg #[.int .i64 x.k, .int .i64 x.e, .int .i64 x.n, .slice A x.d.length c, .slice B x.ks.length c2]] w fun r w' => r = .returned (.int .i64 v) ∧ Below w.heap.size w w' := hd ▸ NObjects_any x A c B c2 w hT hx hs hv
theorem NEqual_c (x y : Nd) (A : Option Addr) (c : Nat) (B : Option Addr) (c2 : Nat) (A1 : Option Addr) (c3 : Nat) (B1 : Option Addr) (c4 : Nat) (v : Bool) (w : World) (hT : TabOK w) (hx : NdR w A c B c2 x) (hy : NdR w A1 c3 B1 c4 y) (hs : sizeN x ≤ 1099511627776) (hs2 : sizeN y ≤ 1099511627776) (hv : eqN x y = v) :
    Calls Tryd.prog 12 #[.agg #[.int .i64 x.k, .int .i64 x.e, .int .i64 x.n, .slice A x.d.length c, .slice B x.ks.length c2], .agg #[.int .i64 y.k, .int .i64 y.e, .int .i64 y.n, .slice A1 y.d.length c3, .slice B1 y.ks.length c4]] w fun r w' => r = .returned (.bool v) ∧ Below w.heap.size w w' := hv ▸ NEqual_any x y A c B c2 A1 c3 B1 c4 w hT hx hy hs hs2

/-- what lies in memory while the calls are made -/
structure M10 (w : World) (b2 n0 : Nat) (A2 : Option Addr) (c2 : Nat) (B2 : Option Addr) (c3 : Nat) (W : World) : Prop where
  t1 : Blk W (w.heap.size + 1) #[.int .i64 1, .int .i64 0, .int .i64 0, .slice none 0 0, .slice (some ⟨w.heap.size, 0, none⟩) 1 1]
  n1 : NdR W none 0 (some ⟨w.heap.size, 0, none⟩) 1 s10
  t2 : Blk W b2 #[.int .i64 2, .int .i64 7, .int .i64 2, .slice A2 0 c2, .slice B2 2 c3]
  n2 : NdR W A2 c2 B2 c3 l10
  t3 : Blk W (n0 + 1) #[.int .i64 2, .int .i64 1, .int .i64 3, .slice (some ⟨n0, 0, none⟩) 1 1, .slice none 0 0]
  n3 : NdR W (some ⟨n0, 0, none⟩) 1 none 0 b10
  t4 : Blk W (n0 + 1 + 1) #[.int .i64 2, .int .i64 1, .int .i64 3, .slice (some ⟨n0 + 1 + 1 + 1, 0, none⟩) 1 1, .slice none 0 0]
  n4 : NdR W (some ⟨n0 + 1 + 1 + 1, 0, none⟩) 1 none 0 x10
  t5 : Blk W (n0 + 1 + 1 + 1 + 1) #[.int .i64 2, .int .i64 7, .int .i64 2, .slice A2 0 c2, .slice (some ⟨n0 + 1 + 1 + 1 + 1 + 1, 0, none⟩) 2 2]
  n5 : NdR W A2 c2 (some ⟨n0 + 1 + 1 + 1 + 1 + 1, 0, none⟩) 2 o10
  hb : Below w.heap.size w W
theorem M10.on {w : World} {b2 n0 : Nat} {A2 : Option Addr} {c2 : Nat} {B2 : Option Addr} {c3 : Nat} {W W' : World} (h : M10 w b2 n0 A2 c2 B2 c3 W) (hb : Below W.heap.size W W') : M10 w b2 n0 A2 c2 B2 c3 W' :=
  ⟨h.t1.below hb, h.n1.on hb (Nat.le_refl _), h.t2.below hb, h.n2.on hb (Nat.le_refl _), h.t3.below hb, h.n3.on hb (Nat.le_refl _), h.t4.below hb, h.n4.on hb (Nat.le_refl _), h.t5.below hb, h.n5.on hb (Nat.le_refl _), bel_on h.hb hb⟩

theorem abs_code11 {P : Program} {C : Code} {Q : Exit → Act → World → Prop} {a : Act} {V : World} (F : World → Prop) (hF : F V) (h : ∀ W, F W → C.wp P Q a W) : C.wp P Q a V := h V hF

set_option maxHeartbeats 4000000 in
set_option maxRecDepth 100000 in
theorem awake10_any (w : World) (hT : TabOK w) : Calls Tryd.prog 8 #[] w fun e w' => e = .returned (.bool true) ∧ Below w.heap.size w w' := by
  have HT := Lib.hid hT
  clear hT
  have m1 := makeN1
  have m8 := makeB8
  have m4 := makeB4
  go_enter Tryd.func8, Tryd.ntmps8
  go_wp2_with fail
  refine abs_code11 (F := fun W => Blk W (w.heap.size + 1) #[.int .i64 1, .int .i64 0, .int .i64 0, .slice none 0 0, .slice (some ⟨w.heap.size, 0, none⟩) 1 1] ∧ NdR W none 0 (some ⟨w.heap.size, 0, none⟩) 1 s10 ∧ Below w.heap.size w W) ⟨?_, ?_, ?_⟩ ?_
  · exact Blk.new (by simp)
  · exact ((row1_new (nd0_here w 0 (by decide)) 25).node ⟨by decide, by decide⟩ ⟨by decide, by decide⟩ ⟨by decide, by decide⟩ (Ri.nil _ _ _) (fun z hz => by cases hz) (by simp) (by unfold maxLen; omega) (fun _ => rfl) (by simp) (by unfold maxLen; omega) (fun h => by cases h)).on ((Below.refl _ _).alloc (Nat.le_refl _) _) (Nat.le_refl _)
  · exact ((Below.refl _ _).alloc (Nat.le_refl _) _).alloc (by simp) _
  rintro W ⟨hB1, hS, hbw⟩
  have HB1 := Lib.hid hB1
  have HS := Lib.hid hS
  have HW := Lib.hid hbw
  clear hB1 hS hbw
  refine wp_region_n8 (by kernel_rfl) (by kernel_rfl) ?_
  refine n_val (u := ?_) [] (by kernel_rfl) rfl (by kernel_rfl) trivial (fun ρ wc hbc hcn hk => ?_) ?_; rotate_left
  · obtain ⟨hcn, -⟩ := hcn
    go_simp
    rfl
  refine n_new (T := DatZ W.heap.size [0, 0, 0, 0, 0, 0, 0, 0]) [] (by kernel_rfl) rfl (by kernel_rfl) trivial (stable_datz _ _) (fun ρ wc hbc hcn hk => ?_) ?_
  · obtain ⟨hcn, -⟩ := hcn
    exact ⟨.slice (some ⟨wc.heap.size, 0, none⟩) 8 8, wc.alloc (.cells (([0, 0, 0, 0, 0, 0, 0, 0] : List Int).map (Value.int .u8)).toArray 5), by go_simp, ⟨_, _, rfl, (rob_new wc _ _ (by simp)).imp fun W2 h => dat_of h, by decide, by unfold maxLen; omega, fun h => by cases h⟩, (Below.refl _ _).alloc (Nat.le_refl _) _⟩
  refine n_val (u := ?_) [1] (by kernel_rfl) rfl (by kernel_rfl) trivial (fun ρ wc hbc hcn hk => ?_) ?_; rotate_left
  · obtain ⟨hcn, -⟩ := hcn
    simp at hk
    obtain ⟨x1, y1, z1⟩ := HB1.out.drew.below hbc
    go_simp
    rfl
  refine n_new (T := RowZ W.heap.size [s10]) [10] (by kernel_rfl) rfl (by kernel_rfl) trivial (stable_rowz _ _) (fun ρ wc hbc hcn hk => ?_) ?_
  · obtain ⟨hcn, -⟩ := hcn
    simp at hk
    have hs := ((rob_old HS.out).on (w' := wc) ⟨hbc.os, hbc.tape, hbc.output, hbc.size, hbc.block⟩).on ((Below.refl _ _).alloc (Nat.le_refl _) (.cells #[.int .i64 1, .int .i64 0, .int .i64 0, .slice none 0 0, .slice (some ⟨w.heap.size, 0, none⟩) 1 1] 25))
    exact ⟨.slice (some ⟨wc.heap.size, 0, none⟩) 1 1, wc.alloc (.cells #[.int .i64 1, .int .i64 0, .int .i64 0, .slice none 0 0, .slice (some ⟨w.heap.size, 0, none⟩) 1 1] 25), by go_simp, ⟨_, _, rfl, (hs.and (rob_new wc _ _ (by simp))).imp fun W2 h => row1_of h.1 h.2, by decide, by unfold maxLen; omega, fun h => by cases h⟩, (Below.refl _ _).alloc (Nat.le_refl _) _⟩
  refine n_new (T := NdZ W.heap.size f10) [9, 11] (by kernel_rfl) rfl (by kernel_rfl) trivial (stable_ndz _ _) (fun ρ wc hbc hcn hk => ?_) ?_
  · obtain ⟨hcn, -⟩ := hcn
    simp at hk
    obtain ⟨⟨A1, c1, e1, r1, l1, m1', n1⟩, ⟨B2, c2, e2, k2, l2, m2, n2⟩⟩ := hk
    refine ⟨.agg #[.int .i64 1, .int .i64 0, .int .i64 0, .slice A1 8 c1, .slice B2 1 c2], wc, by go_simp, ⟨A1, c1, B2, c2, rfl, (r1.and k2).imp fun W2 h => h.2.node ⟨by decide, by decide⟩ ⟨by decide, by decide⟩ ⟨by decide, by decide⟩ h.1 (by unfold Bts; decide) l1 m1' n1 l2 m2 n2⟩, Below.refl _ _⟩
  refine n_new (T := RowZ W.heap.size [e10, f10]) [8, 12] (by kernel_rfl) rfl (by kernel_rfl) trivial (stable_rowz _ _) (fun ρ wc hbc hcn hk => ?_) ?_
  · obtain ⟨hcn, -⟩ := hcn
    simp at hk
    obtain ⟨e8, A1, c1, B2, c2, e1, h1⟩ := hk
    have hs := h1.on ((Below.refl _ _).alloc (Nat.le_refl _) (.cells #[.int .i64 1, .int .i64 0, .int .i64 0, .slice none 0 0, .slice none 0 0, .int .i64 1, .int .i64 0, .int .i64 0, .slice A1 8 c1, .slice B2 1 c2] 25))
    exact ⟨.slice (some ⟨wc.heap.size, 0, none⟩) 2 2, wc.alloc (.cells #[.int .i64 1, .int .i64 0, .int .i64 0, .slice none 0 0, .slice none 0 0, .int .i64 1, .int .i64 0, .int .i64 0, .slice A1 8 c1, .slice B2 1 c2] 25), by rw [show f10.d.length = 8 from rfl, show f10.ks.length = 1 from rfl, show f10.k = 1 from rfl, show f10.e = 0 from rfl, show f10.n = 0 from rfl] at e1; go_simp, ⟨_, _, rfl, (hs.and (rob_new wc _ _ (by simp))).imp fun W2 h => row2_of (x := e10) (nd0_here W2 1 (by decide)) h.1 h.2, by decide, by unfold maxLen; omega, fun h => by cases h⟩, (Below.refl _ _).alloc (Nat.le_refl _) _⟩
  refine n_new (T := NdZ W.heap.size l10) [13] (by kernel_rfl) rfl (by kernel_rfl) trivial (stable_ndz _ _) (fun ρ wc hbc hcn hk => ?_) ?_
  · obtain ⟨hcn, -⟩ := hcn
    simp at hk
    obtain ⟨B2, c2, e2, k2, l2, m2, n2⟩ := hk
    refine ⟨.agg #[.int .i64 2, .int .i64 7, .int .i64 2, .slice none 0 0, .slice B2 2 c2], wc, by go_simp, ⟨none, 0, B2, c2, rfl, k2.imp fun W2 h => h.node ⟨by decide, by decide⟩ ⟨by decide, by decide⟩ ⟨by decide, by decide⟩ (Ri.nil _ _ _) (fun z hz => by cases hz) (by decide) (by unfold maxLen; omega) (fun _ => rfl) l2 m2 n2⟩, Below.refl _ _⟩
  refine n_new (T := VarN W.heap.size) [] (by kernel_rfl) rfl (by kernel_rfl) trivial (stable_varn _) (fun ρ wc hbc hcn hk => ?_) ?_
  · obtain ⟨hcn, -⟩ := hcn
    exact ⟨.pointer (some ⟨wc.heap.size, 0, none⟩), wc.alloc (.cells #[.int .i64 0, .int .i64 0, .int .i64 0, .slice none 0 0, .slice none 0 0] 25), by go_simp, ⟨_, rfl, hbc.size, Blk.fresh _ _ _⟩, (Below.refl _ _).alloc (Nat.le_refl _) _⟩
  refine a_end_lit 102 rfl (fun ff w7 hb7 hk => ?_)
  have h14 : NdZ W.heap.size l10 (ff 14) w7 := allN_atF hk 14 (by decide) (by decide)
  have h2 : VarN W.heap.size (ff 2) w7 := allN_atF hk 2 (by decide) (by decide)
  simp [AllN] at hk
  simp only [frameL, hk, Nat.zero_add, Nat.reduceAdd]
  have hb7 : Below W.heap.size W w7 := by
    have := keeps_none hb7
    exact ⟨this.os, this.tape, this.output, this.size, this.block⟩
  obtain ⟨A2, c2, B2, c3, e14, n14⟩ := h14
  obtain ⟨b2, e2, hb2, hv2⟩ := h2
  rw [show l10.d.length = 0 from rfl, show l10.ks.length = 2 from rfl, show l10.k = 2 from rfl, show l10.e = 7 from rfl, show l10.n = 2 from rfl] at e14
  rw [e14, e2]
  clear hk e14 e2
  have H1 := Lib.hid (HB1.out.below hb7)
  have HS2 := Lib.hid ((rob_old HS.out).on hb7)
  have HZ2 := Lib.hid (hv2.cell 0)
  have hne : b2 ≠ w.heap.size + 1 := by have := HB1.out.lt; omega
  have hle : w.heap.size ≤ b2 := by have := HB1.out.lt; omega
  have HW2 := Lib.hid (bel_on HW.out hb7)
  have hzW := HB1.out.lt
  have hzW2 := HW.out.size
  have HV2 := Lib.hid hv2
  have HN := Lib.hid n14
  generalize ff 9 = u9
  generalize ff 11 = u11
  generalize ff 12 = u12
  generalize ff 13 = u13
  clear hb7 n14
  rename_i KK hKK
  refine split_store (fun W2 => Blk W2 (w.heap.size + 1) #[.int .i64 1, .int .i64 0, .int .i64 0, .slice none 0 0, .slice (some ⟨w.heap.size, 0, none⟩) 1 1] ∧ NdR W2 none 0 (some ⟨w.heap.size, 0, none⟩) 1 s10 ∧ Blk W2 b2 #[.int .i64 2, .int .i64 7, .int .i64 2, .slice A2 0 c2, .slice B2 2 c3] ∧ NdR W2 A2 c2 B2 c3 l10 ∧ Below w.heap.size w W2) rfl ?_ ?_
  · have e5 : ∀ q, q ≠ b2 → (((((w7.setCell ⟨b2, 0, none⟩ (.int .i64 2)).setCell ⟨b2, 1, none⟩ (.int .i64 7)).setCell ⟨b2, 2, none⟩ (.int .i64 2)).setCell ⟨b2, 3, none⟩ (.slice A2 0 c2)).setCell ⟨b2, 4, none⟩ (.slice B2 2 c3)).heap[q]? = w7.heap[q]? := by
      intro q hq
      rw [Below.heap_setCell _ _ _ _ hq, Below.heap_setCell _ _ _ _ hq, Below.heap_setCell _ _ _ _ hq, Below.heap_setCell _ _ _ _ hq, Below.heap_setCell _ _ _ _ hq]
    have E5 := Lib.hid e5
    clear e5
    obtain ⟨x2, y2, z2⟩ := hv2
    go_wp2
    refine ⟨rfl, rfl, ?_, ?_, ?_, ?_, ?_⟩
    · exact ((((H1.out.other hne _).other hne _).other hne _).other hne _).other hne _
    · exact HS2.out.to hb2 HZ2.out E5.out
    · exact ((((HV2.out.set 0 (by simp) _).set 1 (by simp) _).set 2 (by simp) _).set 3 (by simp) _).set 4 (by simp) _
    · exact HN.out.to hb2 HZ2.out E5.out
    · exact (((((HW2.out.setCell hle _).setCell hle _).setCell hle _).setCell hle _).setCell hle _)
  rintro W2 ⟨B1, N1, B3, N3, hbw⟩
  refine hKK _ _ ?_
  clear hKK KK H1 HS2 HW2 HV2 HN HZ2 HW HS HB1 hv2
  have B1' := B1
  have B3' := B3
  obtain ⟨x1, y1, z1⟩ := B1'
  obtain ⟨x3, y3, z3⟩ := B3'
  have h6 : ∀ o, ((((W2.alloc (.cells #[.int .u8 7] 5)).alloc (.cells #[.int .i64 2, .int .i64 1, .int .i64 3, .slice (some ⟨W2.heap.size, 0, none⟩) 1 1, .slice none 0 0] 25)).alloc (.cells #[.int .i64 2, .int .i64 1, .int .i64 3, .slice (some ⟨W2.heap.size + 1 + 1 + 1, 0, none⟩) 1 1, .slice none 0 0] 25)).alloc (.cells #[.int .u8 8] 5)).cell? ⟨b2, o, none⟩ = (#[.int .i64 2, .int .i64 7, .int .i64 2, .slice A2 0 c2, .slice B2 2 c3] : Array Value)[o]? := ((((B3.alloc _).alloc _).alloc _).alloc _).cell
  go_wp2_with fail
  refine abs_world (F := M10 w b2 W2.heap.size A2 c2 B2 c3) ?_ ?_
  · have hl := N3.open
    have g3 := (Below.refl W2.heap.size W2).alloc (Nat.le_refl _) (.cells #[.int .u8 7] 5)
    have hN0 : b2 < W2.heap.size := B3.lt
    have hN1 : w.heap.size + 1 < W2.heap.size := B1.lt
    refine ⟨?_, ?_, ?_, ?_, ?_, ?_, ?_, ?_, ?_, ?_, ?_⟩
    · exact (((((B1.alloc _).alloc _).alloc _).alloc _).alloc _).alloc _
    · exact N1.on (((((((Below.refl _ _).alloc (Nat.le_refl _) _).alloc (by simp) _).alloc (by simp; omega) _).alloc (by simp; omega) _).alloc (by simp; omega) _).alloc (by simp; omega) _) (Nat.le_refl _)
    · exact (((((B3.alloc _).alloc _).alloc _).alloc _).alloc _).alloc _
    · exact N3.on (((((((Below.refl _ _).alloc (Nat.le_refl _) _).alloc (by simp) _).alloc (by simp; omega) _).alloc (by simp; omega) _).alloc (by simp; omega) _).alloc (by simp; omega) _) (Nat.le_refl _)
    · exact ((((Blk.new (by simp)).alloc _).alloc _).alloc _).alloc _
    · exact (show KsR _ none [] from .inl rfl).node ⟨by decide, by decide⟩ ⟨by decide, by decide⟩ ⟨by decide, by decide⟩ ((((((Ri.lit W2 .u8 [7] _).alloc _).alloc _).alloc _).alloc _).alloc _) (by unfold Bts; decide) (by decide) (by unfold maxLen; omega) (fun h => by cases h) (by decide) (by unfold maxLen; omega) (fun _ => rfl)
    · exact (((Blk.new (by simp)).alloc _).alloc _).alloc _
    · have hr := Ri.lit (((W2.alloc (.cells #[.int .u8 7] 5)).alloc (.cells #[.int .i64 2, .int .i64 1, .int .i64 3, .slice (some ⟨W2.heap.size, 0, none⟩) 1 1, .slice none 0 0] 25)).alloc (.cells #[.int .i64 2, .int .i64 1, .int .i64 3, .slice (some ⟨W2.heap.size + 1 + 1 + 1, 0, none⟩) 1 1, .slice none 0 0] 25)) .u8 [8] 5
      have e3 : ∀ a b c, (((W2.alloc a).alloc b).alloc c).heap.size = W2.heap.size + 1 + 1 + 1 := fun a b c => by simp
      rw [e3] at hr
      exact (show KsR _ none [] from .inl rfl).node ⟨by decide, by decide⟩ ⟨by decide, by decide⟩ ⟨by decide, by decide⟩ ((hr.alloc _).alloc _) (by unfold Bts; decide) (by decide) (by unfold maxLen; omega) (fun h => by cases h) (by decide) (by unfold maxLen; omega) (fun _ => rfl)
    · exact (Blk.new (by simp)).alloc _
    · have hr := row2_new (x := e10) (y := z10) (nd0_here (((((W2.alloc (.cells #[.int .u8 7] 5)).alloc (.cells #[.int .i64 2, .int .i64 1, .int .i64 3, .slice (some ⟨W2.heap.size, 0, none⟩) 1 1, .slice none 0 0] 25)).alloc (.cells #[.int .i64 2, .int .i64 1, .int .i64 3, .slice (some ⟨W2.heap.size + 1 + 1 + 1, 0, none⟩) 1 1, .slice none 0 0] 25)).alloc (.cells #[.int .u8 8] 5)).alloc (.cells #[.int .i64 2, .int .i64 7, .int .i64 2, .slice A2 0 c2, .slice (some ⟨W2.heap.size + 1 + 1 + 1 + 1 + 1, 0, none⟩) 2 2] 25)) 1 (by decide)) (nd0_here _ 0 (by decide)) 25
      have e5 : ∀ a b c d e, (((((W2.alloc a).alloc b).alloc c).alloc d).alloc e).heap.size = W2.heap.size + 1 + 1 + 1 + 1 + 1 := fun a b c d e => by simp
      rw [e5] at hr
      obtain ⟨_, _, _, _, _, h6', h7', h8', _⟩ := hl
      exact hr.node ⟨by decide, by decide⟩ ⟨by decide, by decide⟩ ⟨by decide, by decide⟩ (Ri.nil _ _ _) (fun z hz => by cases hz) (by simp) (by unfold maxLen; omega) h8' (by decide) (by unfold maxLen; omega) (fun h => by cases h)
    · exact ((((((hbw.alloc hbw.size _).alloc (by simp; omega) _).alloc (by simp; omega) _).alloc (by simp; omega) _).alloc (by simp; omega) _).alloc (by simp; omega) _)
  intro W3 M3
  have M := Lib.hid M3
  clear M3 x1 y1 z1 x3 y3 z3 h6 B1 N1 B3 N3 hbw
  refine (NValid_c z10 _ _ _ _ true _ (HT.out.on M.out.hb) (nd0_here _ 0 (by decide)) (by decide) (by decide +kernel)).mono ?_
  rintro r w0 ⟨rfl, hb⟩
  have M1 := Lib.hid (M.out.on hb)
  clear hb M
  have M := M1
  clear M1
  have x1 := M.out.t1.cell
  have x2 := M.out.t2.cell
  have x3 := M.out.t3.cell
  have x4 := M.out.t4.cell
  have x5 := M.out.t5.cell
  go_wp2_with fail
  refine (NValid_c s10 _ _ _ _ true _ (HT.out.on M.out.hb) M.out.n1 (by decide) (by decide +kernel)).mono ?_
  rintro r w1 ⟨rfl, hb⟩
  have M1 := Lib.hid (M.out.on hb)
  clear hb M x1 x2 x3 x4 x5
  have M := M1
  clear M1
  have x1 := M.out.t1.cell
  have x2 := M.out.t2.cell
  have x3 := M.out.t3.cell
  have x4 := M.out.t4.cell
  have x5 := M.out.t5.cell
  go_wp2_with fail
  refine (NValid_c l10 _ _ _ _ true _ (HT.out.on M.out.hb) M.out.n2 (by decide) (by decide +kernel)).mono ?_
  rintro r w2 ⟨rfl, hb⟩
  have M1 := Lib.hid (M.out.on hb)
  clear hb M x1 x2 x3 x4 x5
  have M := M1
  clear M1
  have x1 := M.out.t1.cell
  have x2 := M.out.t2.cell
  have x3 := M.out.t3.cell
  have x4 := M.out.t4.cell
  have x5 := M.out.t5.cell
  go_wp2_with fail
  refine (NValid_c b10 _ _ _ _ true _ (HT.out.on M.out.hb) M.out.n3 (by decide) (by decide +kernel)).mono ?_
  rintro r w3 ⟨rfl, hb⟩
  have M1 := Lib.hid (M.out.on hb)
  clear hb M x1 x2 x3 x4 x5
  have M := M1
  clear M1
  have x1 := M.out.t1.cell
  have x2 := M.out.t2.cell
  have x3 := M.out.t3.cell
  have x4 := M.out.t4.cell
  have x5 := M.out.t5.cell
  go_wp2_with fail
  refine (NValid_c x10 _ _ _ _ false _ (HT.out.on M.out.hb) M.out.n4 (by decide) (by decide +kernel)).mono ?_
  rintro r w4 ⟨rfl, hb⟩
  have M1 := Lib.hid (M.out.on hb)
  clear hb M x1 x2 x3 x4 x5
  have M := M1
  clear M1
  have x1 := M.out.t1.cell
  have x2 := M.out.t2.cell
  have x3 := M.out.t3.cell
  have x4 := M.out.t4.cell
  have x5 := M.out.t5.cell
  go_wp2_with fail
  refine (NValid_c o10 _ _ _ _ false _ (HT.out.on M.out.hb) M.out.n5 (by decide) (by decide +kernel)).mono ?_
  rintro r w5 ⟨rfl, hb⟩
  have M1 := Lib.hid (M.out.on hb)
  clear hb M x1 x2 x3 x4 x5
  have M := M1
  clear M1
  have x1 := M.out.t1.cell
  have x2 := M.out.t2.cell
  have x3 := M.out.t3.cell
  have x4 := M.out.t4.cell
  have x5 := M.out.t5.cell
  go_wp2_with fail
  refine (NValid_c k10 _ _ _ _ false _ (HT.out.on M.out.hb) (nd0_here _ 3 (by decide)) (by decide) (by decide +kernel)).mono ?_
  rintro r w6 ⟨rfl, hb⟩
  have M1 := Lib.hid (M.out.on hb)
  clear hb M x1 x2 x3 x4 x5
  have M := M1
  clear M1
  have x1 := M.out.t1.cell
  have x2 := M.out.t2.cell
  have x3 := M.out.t3.cell
  have x4 := M.out.t4.cell
  have x5 := M.out.t5.cell
  go_wp2_with fail
  refine abs_world (F := fun W4 => NdR W4 (some ⟨w6.heap.size, 0, none⟩) 4 none 0 d10 ∧ M10 w b2 W2.heap.size A2 c2 B2 c3 W4) ⟨?_, ?_⟩ ?_
  · exact (show KsR _ none [] from .inl rfl).node ⟨by decide, by decide⟩ ⟨by decide, by decide⟩ ⟨by decide, by decide⟩ (Ri.lit _ _ _ _) (by unfold Bts; decide) (by decide) (by unfold maxLen; omega) (fun h => by cases h) (by decide) (by unfold maxLen; omega) (fun _ => rfl)
  · exact M.out.on ((Below.refl _ _).alloc (Nat.le_refl _) _)
  rintro W4 ⟨h4, M4⟩
  have M := Lib.hid M4
  clear M4
  refine (NValid_c d10 _ _ _ _ false _ (HT.out.on M.out.hb) h4 (by decide) (by decide +kernel)).mono ?_
  rintro r w7 ⟨rfl, hb⟩
  have M1 := Lib.hid (M.out.on hb)
  clear hb M x1 x2 x3 x4 x5
  have M := M1
  clear M1
  have x1 := M.out.t1.cell
  have x2 := M.out.t2.cell
  have x3 := M.out.t3.cell
  have x4 := M.out.t4.cell
  have x5 := M.out.t5.cell
  go_wp2_with fail
  refine (NDepth_c s10 _ _ _ _ 1 _ (HT.out.on M.out.hb) M.out.n1 (by decide) (by decide +kernel) (by decide +kernel)).mono ?_
  rintro r w8 ⟨rfl, hb⟩
  have M1 := Lib.hid (M.out.on hb)
  clear hb M x1 x2 x3 x4 x5
  have M := M1
  clear M1
  have x1 := M.out.t1.cell
  have x2 := M.out.t2.cell
  have x3 := M.out.t3.cell
  have x4 := M.out.t4.cell
  have x5 := M.out.t5.cell
  go_wp2_with fail
  refine (NObjects_c s10 _ _ _ _ 1 _ (HT.out.on M.out.hb) M.out.n1 (by decide) (by decide +kernel) (by decide +kernel)).mono ?_
  rintro r w9 ⟨rfl, hb⟩
  have M1 := Lib.hid (M.out.on hb)
  clear hb M x1 x2 x3 x4 x5
  have M := M1
  clear M1
  have x1 := M.out.t1.cell
  have x2 := M.out.t2.cell
  have x3 := M.out.t3.cell
  have x4 := M.out.t4.cell
  have x5 := M.out.t5.cell
  go_wp2_with fail
  refine (NDepth_c l10 _ _ _ _ 2 _ (HT.out.on M.out.hb) M.out.n2 (by decide) (by decide +kernel) (by decide +kernel)).mono ?_
  rintro r w10 ⟨rfl, hb⟩
  have M1 := Lib.hid (M.out.on hb)
  clear hb M x1 x2 x3 x4 x5
  have M := M1
  clear M1
  have x1 := M.out.t1.cell
  have x2 := M.out.t2.cell
  have x3 := M.out.t3.cell
  have x4 := M.out.t4.cell
  have x5 := M.out.t5.cell
  go_wp2_with fail
  refine (NObjects_c l10 _ _ _ _ 2 _ (HT.out.on M.out.hb) M.out.n2 (by decide) (by decide +kernel) (by decide +kernel)).mono ?_
  rintro r w11 ⟨rfl, hb⟩
  have M1 := Lib.hid (M.out.on hb)
  clear hb M x1 x2 x3 x4 x5
  have M := M1
  clear M1
  have x1 := M.out.t1.cell
  have x2 := M.out.t2.cell
  have x3 := M.out.t3.cell
  have x4 := M.out.t4.cell
  have x5 := M.out.t5.cell
  go_wp2_with fail
  refine (NDepth_c z10 _ _ _ _ 0 _ (HT.out.on M.out.hb) (nd0_here _ 0 (by decide)) (by decide) (by decide +kernel) (by decide +kernel)).mono ?_
  rintro r w12 ⟨rfl, hb⟩
  have M1 := Lib.hid (M.out.on hb)
  clear hb M x1 x2 x3 x4 x5
  have M := M1
  clear M1
  have x1 := M.out.t1.cell
  have x2 := M.out.t2.cell
  have x3 := M.out.t3.cell
  have x4 := M.out.t4.cell
  have x5 := M.out.t5.cell
  go_wp2_with fail
  refine (NEqual_c l10 l10 _ _ _ _ _ _ _ _ true _ (HT.out.on M.out.hb) M.out.n2 M.out.n2 (by decide) (by decide) (eqN_yes rfl)).mono ?_
  rintro r w13 ⟨rfl, hb⟩
  have M1 := Lib.hid (M.out.on hb)
  clear hb M x1 x2 x3 x4 x5
  have M := M1
  clear M1
  have x1 := M.out.t1.cell
  have x2 := M.out.t2.cell
  have x3 := M.out.t3.cell
  have x4 := M.out.t4.cell
  have x5 := M.out.t5.cell
  go_wp2_with fail
  refine (NEqual_c l10 b10 _ _ _ _ _ _ _ _ false _ (HT.out.on M.out.hb) M.out.n2 M.out.n3 (by decide) (by decide) (eqN_no (by simp [l10, b10, x10]))).mono ?_
  rintro r w14 ⟨rfl, hb⟩
  have M1 := Lib.hid (M.out.on hb)
  clear hb M x1 x2 x3 x4 x5
  have M := M1
  clear M1
  have x1 := M.out.t1.cell
  have x2 := M.out.t2.cell
  have x3 := M.out.t3.cell
  have x4 := M.out.t4.cell
  have x5 := M.out.t5.cell
  go_wp2_with fail
  refine (NEqual_c b10 x10 _ _ _ _ _ _ _ _ false _ (HT.out.on M.out.hb) M.out.n3 M.out.n4 (by decide) (by decide) (eqN_no (by simp [l10, b10, x10]))).mono ?_
  rintro r w15 ⟨rfl, hb⟩
  have M1 := Lib.hid (M.out.on hb)
  clear hb M x1 x2 x3 x4 x5
  have M := M1
  clear M1
  go_wp2
  go_ret
  exact ⟨rfl, M.out.hb⟩
end Go.Proofs.YtedofcagfopoeaaDoor
