/- Package node: what 'all' says of the kids of a node (slices.ContainsFunc and slices.IndexFunc at a literal that captures a predicate). -/
import Derived.Test.YtedofcagfopoeaaDoorNode
namespace Go.Proofs.YtedofcagfopoeaaDoor
open Go.ChangeShapes Go.WideShapes Go.ChangeAt Go.RowKit
set_option linter.unusedVariables false
set_option linter.unusedSimpArgs false

set_option maxRecDepth 100000 in
theorem AllLit_any (g : FuncId) (hg : g = 10 ∨ g = 21) (k e n : Int) (A : Option Addr) (dl c : Nat) (B : Option Addr) (kl c2 bb : Nat) (p : Bool) (w : World) (hbox : w.cell? ⟨bb, 0, none⟩ = some (.func (.func g) #[] #[]))
    (HC : Hid (∀ wc, Below w.heap.size w wc → Calls Tryd.prog g #[.agg #[.int .i64 k, .int .i64 e, .int .i64 n, .slice A dl c, .slice B kl c2]] wc fun r w' => r = .returned (.bool p) ∧ Below wc.heap.size wc w')) :
    Calls Tryd.prog 36 #[.agg #[.int .i64 k, .int .i64 e, .int .i64 n, .slice A dl c, .slice B kl c2], .pointer (some ⟨bb, 0, none⟩)] w fun r w' => r = .returned (.bool (!p)) ∧ Below w.heap.size w w' := by
  have hlt : bb < w.heap.size := World.block_lt_of_cell? w ⟨bb, 0, none⟩ hbox
  rcases hg with rfl | rfl <;>
  ( go_enter Tryd.func36, Tryd.ntmps36
    go_wp2_with fail
    refine (HC.out _ ((Below.refl _ _).alloc (Nat.le_refl _) _)).mono ?_
    rintro r w1 ⟨rfl, hb1⟩
    have HB1 : Hid (Below w.heap.size w w1) := Lib.hid (((Below.refl w.heap.size w).alloc (Nat.le_refl _) _).trans (hb1.mono (by simp)))
    clear hb1
    go_wp2
    go_ret
    exact ⟨rfl, HB1.out⟩)
theorem all_take {P : Nd → Bool} {ks : List Nd} {j : Nat} (hj : j < ks.length) : (ks.take (j + 1)).all P = ((ks.take j).all P && P ks[j]) := by
  rw [List.take_succ_eq_append_getElem hj, List.all_append]
  simp
theorem all_no {P : Nd → Bool} {ks : List Nd} {j : Nat} (hj : j < ks.length) (h : P ks[j] = false) : ks.all P = false := by
  rw [List.all_eq_false]
  exact ⟨ks[j], List.getElem_mem hj, by rw [h]; simp⟩

set_option maxRecDepth 100000 in
theorem IndexFunc_any (g : FuncId) (hg : g = 10 ∨ g = 21) (P : Nd → Bool) (ks : List Nd) (B : Option Addr) (c2 bb : Nat) (w : World) (hks : KsR w B ks) (hl : ks.length ≤ 1099511627776) (hbox : w.cell? ⟨bb, 0, none⟩ = some (.func (.func g) #[] #[]))
    (HC : Hid (∀ j (hj : j < ks.length) A' c' B' c2' wc, Below w.heap.size w wc → NdR wc A' c' B' c2' ks[j] → Calls Tryd.prog g #[.agg #[.int .i64 (ks[j]).k, .int .i64 (ks[j]).e, .int .i64 (ks[j]).n, .slice A' (ks[j]).d.length c', .slice B' (ks[j]).ks.length c2']] wc fun r w' => r = .returned (.bool (P ks[j])) ∧ Below wc.heap.size wc w')) :
    Calls Tryd.prog 39 #[.slice B ks.length c2, .func (.func 36) #[] #[.pointer (some ⟨bb, 0, none⟩)]] w fun r w' => (∃ v : Int, r = .returned (.int .i64 v) ∧ -1 ≤ v ∧ (0 ≤ v ↔ ks.all P = false)) ∧ Below w.heap.size w w' := by
  have hlt : bb < w.heap.size := World.block_lt_of_cell? w ⟨bb, 0, none⟩ hbox
  have HK := Lib.hid hks
  have HBX : Hid (∀ wc, Below w.heap.size w wc → wc.cell? ⟨bb, 0, none⟩ = some (.func (.func g) #[] #[])) := Lib.hid (fun wc h => (h.cell (p := ⟨bb, 0, none⟩) hlt).trans hbox)
  clear hks hbox
  go_enter Tryd.func39, Tryd.ntmps39
  go_wp2
  go_loopw [8] (fun i wr => ∃ j : Nat, j ≤ ks.length ∧ i = .int .i64 j ∧ (ks.take j).all P = true ∧ Below w.heap.size w wr) (fun i _ => ks.length - (intOf i).toNat)
  case atStart => exact ⟨0, by omega, rfl, by simp, Below.refl _ _⟩
  case round =>
    obtain ⟨j, hj, rfl, hal, hbr⟩ := hrel
    have HR := Lib.hid hbr
    have HAL := Lib.hid hal
    clear hbr hal
    by_cases hlt2 : j < ks.length
    · have hj1 : (j : Int) < (ks.length : Int) := by omega
      obtain ⟨b, off, A', c', B', c2', rfl, k0, k1, k2, k3, k4, hsub⟩ := HK.out.atIn HR.out (Nat.le_refl _) hlt2
      have HCJ := Lib.hid (fun wc hb => HC.out j hlt2 A' c' B' c2' wc hb (hsub.on hb (Nat.le_refl _)))
      have HT := Lib.hid (all_take (P := P) hlt2)
      have HN := Lib.hid (all_no (P := P) hlt2)
      clear hsub
      generalize ks[j] = kx at *
      go_wp2_with fail
      refine (AllLit_any g hg _ _ _ _ _ _ _ _ _ bb (P kx) _ (HBX.out _ HR.out) (Lib.hid (fun wc hb => HCJ.out wc (HR.out.trans (hb.mono HR.out.size))))).mono ?_
      rintro r w2 ⟨rfl, hb2⟩
      have HB2 : Hid (Below w.heap.size w w2) := Lib.hid (bel_on HR.out hb2)
      clear hb2 k0 k1 k2 k3 k4
      cases hp : P kx with
      | false =>
        have HF := Lib.hid (HN.out hp)
        clear hp
        go_wp2
        go_ret
        exact ⟨⟨(j : Int), rfl, by omega, ⟨fun _ => HF.out, fun _ => by omega⟩⟩, HB2.out⟩
      | true =>
        have HT2 : Hid ((ks.take (j + 1)).all P = true) := Lib.hid (by rw [HT.out, HAL.out, hp]; rfl)
        clear hp
        go_wp2
        go_roundw
        case rel => exact ⟨j + 1, by omega, by go_num, HT2.out, HB2.out⟩
        case measure => simp [intOf]; omega
    · obtain rfl : j = ks.length := by omega
      have HA : Hid (ks.all P = true) := Lib.hid (by have := HAL.out; rwa [List.take_length] at this)
      go_wp2
      go_ret
      exact ⟨⟨-1, rfl, by omega, ⟨fun h => by omega, fun h => by rw [HA.out] at h; cases h⟩⟩, HR.out⟩

theorem ContainsFunc_any (g : FuncId) (hg : g = 10 ∨ g = 21) (P : Nd → Bool) (ks : List Nd) (B : Option Addr) (c2 bb : Nat) (w : World) (hks : KsR w B ks) (hl : ks.length ≤ 1099511627776) (hbox : w.cell? ⟨bb, 0, none⟩ = some (.func (.func g) #[] #[]))
    (HC : Hid (∀ j (hj : j < ks.length) A' c' B' c2' wc, Below w.heap.size w wc → NdR wc A' c' B' c2' ks[j] → Calls Tryd.prog g #[.agg #[.int .i64 (ks[j]).k, .int .i64 (ks[j]).e, .int .i64 (ks[j]).n, .slice A' (ks[j]).d.length c', .slice B' (ks[j]).ks.length c2']] wc fun r w' => r = .returned (.bool (P ks[j])) ∧ Below wc.heap.size wc w')) :
    Calls Tryd.prog 35 #[.slice B ks.length c2, .func (.func 36) #[] #[.pointer (some ⟨bb, 0, none⟩)]] w fun r w' => r = .returned (.bool (!ks.all P)) ∧ Below w.heap.size w w' := by
  have HI := Lib.hid (IndexFunc_any g hg P ks B c2 bb w hks hl hbox HC)
  clear hks hbox
  go_enter Tryd.func35, Tryd.ntmps35
  go_wp2_with fail
  refine HI.out.mono ?_
  rintro r w1 ⟨⟨v, rfl, hv1, hv2⟩, hb1⟩
  have HB1 := Lib.hid hb1
  have HV := Lib.hid hv2
  clear hb1 hv2
  by_cases h0 : 0 ≤ v
  · have HA := Lib.hid (HV.out.1 h0)
    go_wp2
    go_ret
    exact ⟨by rw [HA.out]; first | rfl | (congr 2; simp; omega), HB1.out⟩
  · have HA : Hid (ks.all P = true) := Lib.hid (by
      cases hx : ks.all P
      · exact absurd (HV.out.2 hx) h0
      · rfl)
    go_wp2
    go_ret
    exact ⟨by rw [HA.out]; first | rfl | (congr 2; simp; omega), HB1.out⟩

/-- all(kids, ok) -/
theorem All_any (g : FuncId) (hg : g = 10 ∨ g = 21) (P : Nd → Bool) (ks : List Nd) (B : Option Addr) (c2 : Nat) (w : World) (hks : KsR w B ks) (hl : ks.length ≤ 1099511627776)
    (HC : Hid (∀ j (hj : j < ks.length) A' c' B' c2' wc, Below w.heap.size w wc → NdR wc A' c' B' c2' ks[j] → Calls Tryd.prog g #[.agg #[.int .i64 (ks[j]).k, .int .i64 (ks[j]).e, .int .i64 (ks[j]).n, .slice A' (ks[j]).d.length c', .slice B' (ks[j]).ks.length c2']] wc fun r w' => r = .returned (.bool (P ks[j])) ∧ Below wc.heap.size wc w')) :
    Calls Tryd.prog 30 #[.slice B ks.length c2, .func (.func g) #[] #[]] w fun r w' => r = .returned (.bool (ks.all P)) ∧ Below w.heap.size w w' := by
  have HK := Lib.hid hks
  clear hks
  have HB0 : Hid (Below w.heap.size w (w.alloc (.cells #[.func (.func g) #[] #[]] 27))) := Lib.hid ((Below.refl _ _).alloc (Nat.le_refl _) _)
  go_enter Tryd.func30, Tryd.ntmps30
  go_wp2_with fail
  refine (ContainsFunc_any g hg P ks B c2 w.heap.size _ (HK.out.on HB0.out (Nat.le_refl _)) hl (by rw [(Blk.fresh w #[.func (.func g) #[] #[]] 27).cell 0]; rfl) (Lib.hid (fun j hj A' c' B' c2' wc hb hx => ?_))).mono ?_
  · exact HC.out j hj A' c' B' c2' wc (HB0.out.trans (hb.mono HB0.out.size)) hx
  rintro r w1 ⟨rfl, hb1⟩
  have HB1 : Hid (Below w.heap.size w w1) := Lib.hid (bel_on HB0.out hb1)
  clear hb1
  go_wp2
  go_ret
  exact ⟨by simp, HB1.out⟩
end Go.Proofs.YtedofcagfopoeaaDoor
