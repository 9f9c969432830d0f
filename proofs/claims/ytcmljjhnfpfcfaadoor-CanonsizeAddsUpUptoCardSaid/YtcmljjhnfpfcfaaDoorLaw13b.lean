/- A law of layer 13: CanonsizeAddsUp. -/
import Derived.Test.YtcmljjhnfpfcfaaDoorLaw13e
import Derived.Test.YtcmljjhnfpfcfaaDoorRef10d
namespace Go.Proofs.YtcmljjhnfpfcfaaDoor
open Go.ChangeShapes Go.WideShapes Go.ChangeAt Go.RowKit
set_option linter.unusedVariables false
set_option linter.unusedSimpArgs false
set_option maxRecDepth 100000
attribute [local simp] AllK KnowsV look Is

theorem trimmed_mem {l : List Nd} (h : trimmedK l = true) : ∀ y ∈ l, trimmedN y = true := by
  intro y hy
  obtain ⟨j, hj, rfl⟩ := List.getElem_of_mem hy
  rcases Bool.eq_false_or_eq_true (trimmedN l[j]) with h1 | h1
  · exact h1
  · rw [trimmedK_no l j hj h1] at h; cases h
theorem trimmed_targ {x : Nd} (h : trimmedN x = true) : ∀ y ∈ targN x, trimmedN y = true := by
  obtain ⟨k, e, n, d, ks⟩ := x
  simp only [trimmedN, Bool.and_eq_true] at h
  have h2 := trimmed_mem h.2
  intro y hy
  rw [targN_mk] at hy
  split at hy
  · obtain ⟨z, hz, hyz⟩ := List.mem_flatMap.1 hy
    have h3 := h2 z hz
    obtain ⟨k', e', n', d', ks'⟩ := z
    simp only [trimmedN, Bool.and_eq_true] at h3
    exact trimmed_mem h3.2 y hyz
  · exact h2 y hy
theorem can_take {x : Nd} (h : validN x = true) (j : Nat) : 0 ≤ canK ((targN x).take j) ∧ canK ((targN x).take j) ≤ canK (targN x) := by
  have h1 : canK (targN x) = canK ((targN x).take j) + canK ((targN x).drop j) := by rw [← canK_append, List.take_append_drop]
  have h5 := canK_pos (l := (targN x).take j) (fun y hy => valid_targ h y (List.mem_of_mem_take hy))
  have h6 := canK_pos (l := (targN x).drop j) (fun y hy => valid_targ h y (List.mem_of_mem_drop hy))
  omega
theorem list2_facts {x y : Nd} (h1 : validN x = true) (h2 : trimmedN x = true) (h3 : validN y = true) (h4 : trimmedN y = true) : validN (.mk 2 6 2 [] [x, y]) = true ∧ trimmedN (.mk 2 6 2 [] [x, y]) = true ∧ canO (.mk 2 6 2 [] [x, y]) = 2 ∧ canN (.mk 2 6 2 [] [x, y]) = 2 + canN x + canN y := by
  refine ⟨?_, ?_, rfl, ?_⟩
  · simp [validN, validK, headB, h1, h3]
  · simp [trimmedN, trimmedK, h2, h4]
  · rw [canN_eq, targN_mk, if_neg (by omega)]
    show 2 + (canN x + (canN y + 0)) = _
    omega
theorem list2_new {w : World} {x y : Nd} {A : Option Addr} {c : Nat} {B : Option Addr} {c2 : Nat} {A1 : Option Addr} {c3 : Nat} {B1 : Option Addr} {c4 : Nat} (hx : NdR w A c B c2 x) (hy : NdR w A1 c3 B1 c4 y) (T : TypeId) :
    NdR (w.alloc (.cells #[.int .i64 x.k, .int .i64 x.e, .int .i64 x.n, .slice A x.d.length c, .slice B x.ks.length c2, .int .i64 y.k, .int .i64 y.e, .int .i64 y.n, .slice A1 y.d.length c3, .slice B1 y.ks.length c4] T)) none 0 (some ⟨w.heap.size, 0, none⟩) 2 (.mk 2 6 2 [] [x, y]) :=
  KsR.node (row2_new hx hy T) ⟨by decide, by decide⟩ ⟨by decide, by decide⟩ ⟨by decide, by decide⟩ (Ri.nil _ _ _) (fun z hz => by cases hz) (by decide) (by unfold maxLen; omega) (fun _ => rfl) (by simp) (by unfold maxLen; omega) (fun h => by cases h)
attribute [local irreducible] validN fewN trimmedN canN canO rightN sizeN targN canK
set_option maxHeartbeats 4000000 in
set_option maxRecDepth 100000 in
theorem Adds13_walk (x y : Nd) (A1 : Option Addr) (c1 : Nat) (B1 : Option Addr) (e1 : Nat) (A2 : Option Addr) (c2 : Nat) (B2 : Option Addr) (e2 : Nat) (w : World) (hT : TabOK w) (hx : NdR w A1 c1 B1 e1 x) (hy : NdR w A2 c2 B2 e2 y) (hsx : sizeN x ≤ 1048576) (hsy : sizeN y ≤ 1048576) :
    Calls Tryd.prog 4 #[.agg #[.int .i64 x.k, .int .i64 x.e, .int .i64 x.n, .slice A1 x.d.length c1, .slice B1 x.ks.length e1], .agg #[.int .i64 y.k, .int .i64 y.e, .int .i64 y.n, .slice A2 y.d.length c2, .slice B2 y.ks.length e2]] w fun e w' => e = .returned (.bool true) ∧ Below w.heap.size w w' := by
  have HT := Lib.hid hT
  have Hp := Lib.hid hx
  have Hq := Lib.hid hy
  have HSX : Hid (sizeN x ≤ 1099511627776) := Lib.hid (by omega)
  have HSY : Hid (sizeN y ≤ 1099511627776) := Lib.hid (by omega)
  clear hT hx hy
  go_enter Tryd.func4, Tryd.ntmps4
  go_wp2_with fail
  refine abs_world (F := fun W => NdR W A1 c1 B1 e1 x ∧ NdR W A2 c2 B2 e2 y ∧ Blk W w.heap.size #[.int .i64 x.k, .int .i64 x.e, .int .i64 x.n, .slice A1 x.d.length c1, .slice B1 x.ks.length e1] ∧ Blk W (w.heap.size + 1) #[.int .i64 y.k, .int .i64 y.e, .int .i64 y.n, .slice A2 y.d.length c2, .slice B2 y.ks.length e2] ∧ Below w.heap.size w W) ⟨?_, ?_, ?_, ?_, ?_⟩ ?_
  · exact (NdR.on (NdR.on Hp.out ((Below.refl _ _).alloc (Nat.le_refl _) _) (Nat.le_refl _)) ((Below.refl _ _).alloc (Nat.le_refl _) _) (Nat.le_refl _))
  · exact (NdR.on (NdR.on Hq.out ((Below.refl _ _).alloc (Nat.le_refl _) _) (Nat.le_refl _)) ((Below.refl _ _).alloc (Nat.le_refl _) _) (Nat.le_refl _))
  · exact (Blk.fresh _ _ _).alloc _
  · exact Blk.new (by simp)
  · exact (((Below.refl w.heap.size w).alloc (by first | exact Nat.le_refl _ | (simp; done) | (simp; omega)) _).alloc (by first | exact Nat.le_refl _ | (simp; done) | (simp; omega)) _)
  clear Hp Hq
  rintro W1 ⟨hp, hq, hl, hg, hb⟩
  have Hp := Lib.hid hp
  have Hq := Lib.hid hq
  have Hl := Lib.hid hl
  have Hg := Lib.hid hg
  have HB := Lib.hid hb
  clear hb hp hq hl hg
  refine (awake13_any _ (HT.out.on HB.out)).mono ?_
  rintro r w2 ⟨rfl, hb⟩
  have fp := Hp.out.on hb (Nat.le_refl _)
  have fq := Hq.out.on hb (Nat.le_refl _)
  have fl := Hl.out.below hb
  have fg := Hg.out.below hb
  have HB0 := Lib.hid (bel_on HB.out hb)
  clear hb Hp Hq Hl Hg HB
  have HB := HB0
  clear HB0
  have Hp := Lib.hid fp
  clear fp
  have Hq := Lib.hid fq
  clear fq
  have Hl := Lib.hid fl
  clear fl
  have Hg := Lib.hid fg
  clear fg
  obtain ⟨xl, yl, zl⟩ := Hl.out
  obtain ⟨xg, yg, zg⟩ := Hg.out
  go_wp2_with fail
  clear xl yl zl xg yg zg
  refine (RefRight13 x A1 c1 B1 e1 _ Hp.out HSX.out).mono ?_
  rintro r w3 ⟨rfl, hb⟩
  have fp := Hp.out.on hb (Nat.le_refl _)
  have fq := Hq.out.on hb (Nat.le_refl _)
  have fl := Hl.out.below hb
  have fg := Hg.out.below hb
  have HB0 := Lib.hid (bel_on HB.out hb)
  clear hb Hp Hq Hl Hg HB
  have HB := HB0
  clear HB0
  have Hp := Lib.hid fp
  clear fp
  have Hq := Lib.hid fq
  clear fq
  have Hl := Lib.hid fl
  clear fl
  have Hg := Lib.hid fg
  clear fg
  obtain ⟨xl, yl, zl⟩ := Hl.out
  obtain ⟨xg, yg, zg⟩ := Hg.out
  cases hri : rightN x with
  | false =>
    clear hri
    go_wp2_with fail
    clear xl yl zl xg yg zg
    refine (awake13_any _ (HT.out.on HB.out)).mono ?_
    rintro r w4 ⟨rfl, hb⟩
    have fp := Hp.out.on hb (Nat.le_refl _)
    have fq := Hq.out.on hb (Nat.le_refl _)
    have fl := Hl.out.below hb
    have fg := Hg.out.below hb
    have HB0 := Lib.hid (bel_on HB.out hb)
    clear hb Hp Hq Hl Hg HB
    have HB := HB0
    clear HB0
    have Hp := Lib.hid fp
    clear fp
    have Hq := Lib.hid fq
    clear fq
    have Hl := Lib.hid fl
    clear fl
    have Hg := Lib.hid fg
    clear fg
    go_wp2
    go_ret
    exact ⟨rfl, HB.out⟩
  | true =>
    go_wp2_with fail
    clear xl yl zl xg yg zg
    refine (RefRight13 y A2 c2 B2 e2 _ Hq.out HSY.out).mono ?_
    rintro r w4 ⟨rfl, hb⟩
    have fp := Hp.out.on hb (Nat.le_refl _)
    have fq := Hq.out.on hb (Nat.le_refl _)
    have fl := Hl.out.below hb
    have fg := Hg.out.below hb
    have HB0 := Lib.hid (bel_on HB.out hb)
    clear hb Hp Hq Hl Hg HB
    have HB := HB0
    clear HB0
    have Hp := Lib.hid fp
    clear fp
    have Hq := Lib.hid fq
    clear fq
    have Hl := Lib.hid fl
    clear fl
    have Hg := Lib.hid fg
    clear fg
    obtain ⟨xl, yl, zl⟩ := Hl.out
    obtain ⟨xg, yg, zg⟩ := Hg.out
    cases hry : rightN y with
    | false =>
      clear hri hry
      go_wp2_with fail
      clear xl yl zl xg yg zg
      refine (awake13_any _ (HT.out.on HB.out)).mono ?_
      rintro r w5 ⟨rfl, hb⟩
      have fp := Hp.out.on hb (Nat.le_refl _)
      have fq := Hq.out.on hb (Nat.le_refl _)
      have fl := Hl.out.below hb
      have fg := Hg.out.below hb
      have HB0 := Lib.hid (bel_on HB.out hb)
      clear hb Hp Hq Hl Hg HB
      have HB := HB0
      clear HB0
      have Hp := Lib.hid fp
      clear fp
      have Hq := Lib.hid fq
      clear fq
      have Hl := Lib.hid fl
      clear fl
      have Hg := Lib.hid fg
      clear fg
      go_wp2
      go_ret
      exact ⟨rfl, HB.out⟩
    | true =>
      obtain ⟨hfx, hvx, hmx⟩ := right_parts hri
      obtain ⟨hfy, hvy, hmy⟩ := right_parts hry
      have HVX := Lib.hid hvx
      have HMX := Lib.hid hmx
      have HVY := Lib.hid hvy
      have HMY := Lib.hid hmy
      have HTG : Hid (∀ t ∈ targN x, validN t = true ∧ trimmedN t = true ∧ sizeN t ≤ 1099511627776) := Lib.hid (fun t ht => ⟨valid_targ hvx t ht, trimmed_targ hmx t ht, by have := targ_lt ht; omega⟩)
      have HTL : Hid (∀ j, 0 ≤ canK ((targN x).take j) ∧ canK ((targN x).take j) ≤ canK (targN x)) := Lib.hid (can_take hvx)
      have HCN : Hid (canN x = canO x + canK (targN x)) := Lib.hid (canN_eq x)
      have hcx := can_size x hvx
      have hcy := can_size y hvy
      have hco := (canO_size hvx).1
      have hck : 0 ≤ canK (targN x) := canK_pos (valid_targ hvx)
      have HZ := Lib.hid (list2_facts hvx hmx hvy hmy)
      have HSZ : Hid (sizeN (.mk 2 6 2 [] [x, y]) ≤ 1099511627776) := Lib.hid (by simp only [sizeN, sizeK, List.length_nil]; omega)
      have hlz := sizeK_length (targN x)
      have hsz := sizeK_targ x
      have hlt0 : (targN x).length ≤ 1099511627776 := by omega
      obtain ⟨o, ho⟩ : ∃ o, canO x = o := ⟨_, rfl⟩
      obtain ⟨s, hs⟩ : ∃ s, canN x = s := ⟨_, rfl⟩
      obtain ⟨u, hu⟩ : ∃ u, canN y = u := ⟨_, rfl⟩
      rw [ho] at hco
      rw [hs] at hcx
      rw [hu] at hcy
      have hcs : s = o + canK (targN x) := by rw [← hs, ← ho]; exact HCN.out
      have HCS := Lib.hid hcs
      have HO := Lib.hid ho
      have HS := Lib.hid hs
      have HU := Lib.hid hu
      have hb1 : 0 ≤ s ∧ s ≤ 1000000000000 := by omega
      have hb2 : 0 ≤ u ∧ u ≤ 1000000000000 := by omega
      have hb3 : 0 ≤ o ∧ o ≤ 1000000000000 := by omega
      have HBD := Lib.hid (And.intro hb1 (And.intro hb2 hb3))
      clear hri hry hfx hfy hvx hvy hmx hmy hcx hcy hco hck ho hs hu hcs HCN hlz hsz hb1 hb2 hb3
      go_wp2_with fail
      clear xl yl zl xg yg zg
      refine (CObject_w x A1 c1 B1 e1 o _ (HT.out.on HB.out) Hp.out HSX.out HVX.out HMX.out HO.out).mono ?_
      rintro r w5 ⟨rfl, hb⟩
      have fp := Hp.out.on hb (Nat.le_refl _)
      have fq := Hq.out.on hb (Nat.le_refl _)
      have fl := Hl.out.below hb
      have fg := Hg.out.below hb
      have HB0 := Lib.hid (bel_on HB.out hb)
      clear hb Hp Hq Hl Hg HB
      have HB := HB0
      clear HB0
      have Hp := Lib.hid fp
      clear fp
      have Hq := Lib.hid fq
      clear fq
      have Hl := Lib.hid fl
      clear fl
      have Hg := Lib.hid fg
      clear fg
      obtain ⟨xl, yl, zl⟩ := Hl.out
      obtain ⟨xg, yg, zg⟩ := Hg.out
      go_wp2_with fail
      clear xl yl zl xg yg zg
      refine (RefTargets_node x A1 c1 B1 e1 _ Hp.out HSX.out).mono ?_
      rintro r w6 ⟨B5, c5, rfl, hks, hl5, hc5, hb⟩
      have fp := Hp.out.on hb (Nat.le_refl _)
      have fq := Hq.out.on hb (Nat.le_refl _)
      have fl := Hl.out.below hb
      have fg := Hg.out.below hb
      have HB0 := Lib.hid (bel_on HB.out hb)
      clear hb Hp Hq Hl Hg HB
      have HB := HB0
      clear HB0
      have Hp := Lib.hid fp
      clear fp
      have Hq := Lib.hid fq
      clear fq
      have Hl := Lib.hid fl
      clear fl
      have Hg := Lib.hid fg
      clear fg
      have HK := Lib.hid hks
      clear hks
      have HTE : Hid (canK ((targN x).take (targN x).length) = canK (targN x)) := Lib.hid (by rw [List.take_length])
      generalize hts : targN x = ts at *
      have HTS := Lib.hid hts
      clear hts
      obtain ⟨xl, yl, zl⟩ := Hl.out
      obtain ⟨xg, yg, zg⟩ := Hg.out
      go_wp2
      clear xl yl zl xg yg zg
      go_loopw [5, 7] (fun a i wr => ∃ j : Nat, j ≤ ts.length ∧ i = .int .i64 j ∧ a = .int .i64 (o + canK (ts.take j)) ∧ Below w6.heap.size w6 wr) (fun _ i _ => ts.length - (intOf i).toNat)
      case atStart => exact ⟨0, by omega, rfl, by simp [canK], Below.refl _ _⟩
      case round =>
        obtain ⟨j, hj, rfl, rfl, hbr⟩ := hrel
        by_cases hlt : j < ts.length
        · obtain ⟨b, off, A', c', B', c2', rfl, k0, k1, k2, k3, k4, hsub⟩ := (HK.out.on hbr (Nat.le_refl _)).at hlt
          have HBR := Lib.hid hbr
          have hle := HTL.out j
          have hle2 := HTL.out (j + 1)
          have hbd := HBD.out
          have hcs := HCS.out
          have HST := Lib.hid (canK_take ts j hlt)
          obtain ⟨g1, g2, g3⟩ := HTG.out ts[j] (List.getElem_mem hlt)
          have HC := Lib.hid (CNode_any ts[j] A' c' B' c2' wr (HT.out.on (bel_on HB.out hbr)) hsub g3 g1 g2)
          have hsum : o + canK (ts.take j) + canN ts[j] = o + canK (ts.take (j + 1)) := by rw [HST.out]; omega
          have HSUM := Lib.hid hsum
          have hnz := (can_size ts[j] g1).1
          have hrange : -9223372036854775808 ≤ o + canK (ts.take j) + canN ts[j] ∧ o + canK (ts.take j) + canN ts[j] ≤ 9223372036854775807 := by omega
          clear hsub hbr hsum g1 g2 g3 hle hle2 hcs hbd hnz
          go_wp2_with fail
          refine HC.out.mono ?_
          rintro r w' ⟨rfl, hb2⟩
          have HB2 := Lib.hid (bel_on HBR.out hb2)
          clear hb2 k0 k1 k2 k3 k4
          go_wp2
          go_roundw
          case rel => exact ⟨j + 1, by omega, by go_num, by rw [HSUM.out], HB2.out⟩
          case measure => simp [intOf]; omega
        · obtain rfl : j = ts.length := by omega
          have HSM : Hid (o + canK (ts.take ts.length) = s) := Lib.hid (by rw [HTE.out, HCS.out])
          have HBR := Lib.hid hbr
          have fp := Hp.out.on hbr (Nat.le_refl _)
          have fq := Hq.out.on hbr (Nat.le_refl _)
          have fl := Hl.out.below hbr
          have fg := Hg.out.below hbr
          have HBn := Lib.hid (bel_on HB.out hbr)
          clear Hp Hq Hl Hg HB hbr
          have Hp := Lib.hid fp
          have Hq := Lib.hid fq
          have Hl := Lib.hid fl
          have Hg := Lib.hid fg
          have HB := HBn
          clear fp fq fl fg HBn
          obtain ⟨xl, yl, zl⟩ := Hl.out
          obtain ⟨xg, yg, zg⟩ := Hg.out
          rw [HSM.out]
          go_wp2_with fail
          refine abs_code10 (F := fun W => NdR W A1 c1 B1 e1 x ∧ NdR W A2 c2 B2 e2 y ∧ Blk W w.heap.size #[.int .i64 x.k, .int .i64 x.e, .int .i64 x.n, .slice A1 x.d.length c1, .slice B1 x.ks.length e1] ∧ Blk W (w.heap.size + 1) #[.int .i64 y.k, .int .i64 y.e, .int .i64 y.n, .slice A2 y.d.length c2, .slice B2 y.ks.length e2] ∧ NdR W none 0 (some ⟨wr.heap.size, 0, none⟩) 2 (.mk 2 6 2 [] [x, y]) ∧ Blk W (wr.heap.size + 1) #[.int .i64 2, .int .i64 6, .int .i64 2, .slice none 0 0, .slice (some ⟨wr.heap.size, 0, none⟩) 2 2] ∧ Below w.heap.size w W) ⟨?_, ?_, ?_, ?_, ?_, ?_, ?_⟩ ?_
          · exact (NdR.on (NdR.on Hp.out ((Below.refl _ _).alloc (Nat.le_refl _) _) (Nat.le_refl _)) ((Below.refl _ _).alloc (Nat.le_refl _) _) (Nat.le_refl _))
          · exact (NdR.on (NdR.on Hq.out ((Below.refl _ _).alloc (Nat.le_refl _) _) (Nat.le_refl _)) ((Below.refl _ _).alloc (Nat.le_refl _) _) (Nat.le_refl _))
          · exact (Hl.out.alloc _).alloc _
          · exact (Hg.out.alloc _).alloc _
          · exact NdR.on (list2_new Hp.out Hq.out _) ((Below.refl _ _).alloc (Nat.le_refl _) _) (Nat.le_refl _)
          · exact Blk.new (by simp)
          · exact ((HB.out.alloc (by first | exact Nat.le_refl _ | (have := HB.out.size; simp; omega) | (have := HB.out.size; omega) | (simp; done) | (simp; omega)) _).alloc (by first | exact Nat.le_refl _ | (have := HB.out.size; simp; omega) | (have := HB.out.size; omega) | (simp; done) | (simp; omega)) _)
          clear Hp Hq HB xl yl zl xg yg zg
          rintro W7 ⟨hp, hq, hl, hg, hz, hi, hb⟩
          have Hp := Lib.hid hp
          have Hq := Lib.hid hq
          have Hl := Lib.hid hl
          have Hg := Lib.hid hg
          have Hz := Lib.hid hz
          have Hi := Lib.hid hi
          have HB := Lib.hid hb
          clear hb hp hq hl hg hz hi
          have HZ3 : Hid (canN (.mk 2 6 2 [] [x, y]) = 2 + s + u) := Lib.hid (by rw [HZ.out.2.2.2, HS.out, HU.out])
          have hbz : wr.heap.size + 1 < W7.heap.size := Hi.out.lt
          obtain ⟨bz, hbze⟩ : ∃ bz, wr.heap.size = bz := ⟨_, rfl⟩
          rw [hbze] at Hz Hi hbz
          rw [hbze]
          clear hbze
          obtain ⟨xl, yl, zl⟩ := Hl.out
          obtain ⟨xg, yg, zg⟩ := Hg.out
          obtain ⟨xi, yi, zi⟩ := Hi.out
          go_wp2_with fail
          clear xl yl zl xg yg zg xi yi zi
          rename_i KK hKK
          refine wp_region_chain (by kernel_rfl) (by kernel_rfl) ?_
          refine chain_val (u := ?_) [2] rfl (by kernel_rfl) trivial (fun ρ wc hbc hcn hk => ?_) ?_; rotate_left
          · obtain ⟨hcn, -⟩ := hcn
            simp at hk
            obtain ⟨xl, yl, zl⟩ := Hl.out.drew.below hbc
            obtain ⟨xg, yg, zg⟩ := Hg.out.drew.below hbc
            obtain ⟨xi, yi, zi⟩ := Hi.out.drew.below hbc
            go_simp
            rfl
          refine chain_call (T := Is ?_) 12 [43] rfl (by kernel_rfl) trivial (stable_is _) (fun ρ wc hbc hcn hk => ?_) ?_; rotate_left
          · obtain ⟨hcn, hfn⟩ := hcn
            simp at hk
            refine ⟨_, by go_simp; rfl, ?_⟩
            refine (CNode_w x A1 c1 B1 e1 s wc (HT.out.on (bel_on (bel_drew HB.out) hbc)) (Hp.out.on (w' := wc) (N := W7.heap.size) ⟨hbc.os, hbc.tape, hbc.output, hbc.size, hbc.block⟩ (Nat.le_refl _)) HSX.out HVX.out HMX.out HS.out).mono ?_
            rintro e w' ⟨rfl, hbq⟩
            refine ⟨_, rfl, ?_, hbq⟩
            unfold Is
            rfl
          refine chain_val (u := ?_) [5] rfl (by kernel_rfl) trivial (fun ρ wc hbc hcn hk => ?_) ?_; rotate_left
          · obtain ⟨hcn, -⟩ := hcn
            simp at hk
            go_simp
            rfl
          refine chain_val (u := ?_) [44, 45] rfl (by kernel_rfl) trivial (fun ρ wc hbc hcn hk => ?_) ?_; rotate_left
          · obtain ⟨hcn, -⟩ := hcn
            simp at hk
            go_simp
            rfl
          refine chain_val (u := ?_) [46] rfl (by kernel_rfl) trivial (fun ρ wc hbc hcn hk => ?_) ?_; rotate_left
          · obtain ⟨hcn, -⟩ := hcn
            simp at hk
            go_simp
            rfl
          refine chain_val (u := ?_) [8] rfl (by kernel_rfl) ⟨47, by decide +kernel, rfl, fun w x hx => by simpa using hx⟩ (fun ρ wc hbc hcn hk => ?_) ?_; rotate_left
          · obtain ⟨hcn, -⟩ := hcn
            simp at hk
            obtain ⟨xl, yl, zl⟩ := Hl.out.drew.below hbc
            obtain ⟨xg, yg, zg⟩ := Hg.out.drew.below hbc
            obtain ⟨xi, yi, zi⟩ := Hi.out.drew.below hbc
            go_simp
            rfl
          refine chain_call (T := Is ?_) 12 [48] rfl (by kernel_rfl) ⟨47, by decide +kernel, rfl, fun w x hx => by simpa using hx⟩ (stable_is _) (fun ρ wc hbc hcn hk => ?_) ?_; rotate_left
          · obtain ⟨hcn, hfn⟩ := hcn
            simp at hk
            refine ⟨_, by go_simp; rfl, ?_⟩
            refine (CNode_w (.mk 2 6 2 [] [x, y]) none 0 (some ⟨bz, 0, none⟩) 2 (2 + s + u) wc (HT.out.on (bel_on (bel_drew HB.out) hbc)) (Hz.out.on (w' := wc) (N := W7.heap.size) ⟨hbc.os, hbc.tape, hbc.output, hbc.size, hbc.block⟩ (Nat.le_refl _)) HSZ.out HZ.out.1 HZ.out.2.1 HZ3.out).mono ?_
            rintro e w' ⟨rfl, hbq⟩
            refine ⟨_, rfl, ?_, hbq⟩
            unfold Is
            rfl
          refine chain_val (u := ?_) [2] rfl (by kernel_rfl) ⟨47, by decide +kernel, rfl, fun w x hx => by simpa using hx⟩ (fun ρ wc hbc hcn hk => ?_) ?_; rotate_left
          · obtain ⟨hcn, -⟩ := hcn
            simp at hk
            obtain ⟨xl, yl, zl⟩ := Hl.out.drew.below hbc
            obtain ⟨xg, yg, zg⟩ := Hg.out.drew.below hbc
            obtain ⟨xi, yi, zi⟩ := Hi.out.drew.below hbc
            go_simp
            rfl
          refine chain_call (T := Is ?_) 12 [50] rfl (by kernel_rfl) ⟨47, by decide +kernel, rfl, fun w x hx => by simpa using hx⟩ (stable_is _) (fun ρ wc hbc hcn hk => ?_) ?_; rotate_left
          · obtain ⟨hcn, hfn⟩ := hcn
            simp at hk
            refine ⟨_, by go_simp; rfl, ?_⟩
            refine (CNode_w x A1 c1 B1 e1 s wc (HT.out.on (bel_on (bel_drew HB.out) hbc)) (Hp.out.on (w' := wc) (N := W7.heap.size) ⟨hbc.os, hbc.tape, hbc.output, hbc.size, hbc.block⟩ (Nat.le_refl _)) HSX.out HVX.out HMX.out HS.out).mono ?_
            rintro e w' ⟨rfl, hbq⟩
            refine ⟨_, rfl, ?_, hbq⟩
            unfold Is
            rfl
          refine chain_val (u := .int .i64 (2 + s)) [51] rfl (by kernel_rfl) ⟨47, by decide +kernel, rfl, fun w x hx => by simpa using hx⟩ (fun ρ wc hbc hcn hk => ?_) ?_
          · obtain ⟨hcn, -⟩ := hcn
            simp at hk
            have h := HBD.out
            go_simp
            rw [IntKind.wrap_i64]
            omega
          refine chain_val (u := ?_) [3] rfl (by kernel_rfl) ⟨47, by decide +kernel, rfl, fun w x hx => by simpa using hx⟩ (fun ρ wc hbc hcn hk => ?_) ?_; rotate_left
          · obtain ⟨hcn, -⟩ := hcn
            simp at hk
            obtain ⟨xl, yl, zl⟩ := Hl.out.drew.below hbc
            obtain ⟨xg, yg, zg⟩ := Hg.out.drew.below hbc
            obtain ⟨xi, yi, zi⟩ := Hi.out.drew.below hbc
            go_simp
            rfl
          refine chain_call (T := Is ?_) 12 [53] rfl (by kernel_rfl) ⟨47, by decide +kernel, rfl, fun w x hx => by simpa using hx⟩ (stable_is _) (fun ρ wc hbc hcn hk => ?_) ?_; rotate_left
          · obtain ⟨hcn, hfn⟩ := hcn
            simp at hk
            refine ⟨_, by go_simp; rfl, ?_⟩
            refine (CNode_w y A2 c2 B2 e2 u wc (HT.out.on (bel_on (bel_drew HB.out) hbc)) (Hq.out.on (w' := wc) (N := W7.heap.size) ⟨hbc.os, hbc.tape, hbc.output, hbc.size, hbc.block⟩ (Nat.le_refl _)) HSY.out HVY.out HMY.out HU.out).mono ?_
            rintro e w' ⟨rfl, hbq⟩
            refine ⟨_, rfl, ?_, hbq⟩
            unfold Is
            rfl
          refine chain_val (u := .int .i64 (2 + s + u)) [52, 54] rfl (by kernel_rfl) ⟨47, by decide +kernel, rfl, fun w x hx => by simpa using hx⟩ (fun ρ wc hbc hcn hk => ?_) ?_
          · obtain ⟨hcn, -⟩ := hcn
            simp at hk
            have h := HBD.out
            go_simp
            rw [IntKind.wrap_i64]
            omega
          refine chain_val (u := ?_) [49, 55] rfl (by kernel_rfl) ⟨47, by decide +kernel, rfl, fun w x hx => by simpa using hx⟩ (fun ρ wc hbc hcn hk => ?_) ?_; rotate_left
          · obtain ⟨hcn, -⟩ := hcn
            simp at hk
            go_simp
            rfl
          refine chain_val (u := ?_) [47, 56] rfl (by kernel_rfl) trivial (fun ρ wc hbc hcn hk => ?_) ?_; rotate_left
          · obtain ⟨hcn, -⟩ := hcn
            simp at hk
            go_simp
            rfl
          refine chain_val (u := ?_) [57] rfl (by kernel_rfl) trivial (fun ρ wc hbc hcn hk => ?_) ?_; rotate_left
          · obtain ⟨hcn, -⟩ := hcn
            simp at hk
            go_simp
            rfl
          refine chain_val (u := ?_) [8] rfl (by kernel_rfl) ⟨58, by decide +kernel, rfl, fun w x hx => by simpa using hx⟩ (fun ρ wc hbc hcn hk => ?_) ?_; rotate_left
          · obtain ⟨hcn, -⟩ := hcn
            simp at hk
            obtain ⟨xl, yl, zl⟩ := Hl.out.drew.below hbc
            obtain ⟨xg, yg, zg⟩ := Hg.out.drew.below hbc
            obtain ⟨xi, yi, zi⟩ := Hi.out.drew.below hbc
            go_simp
            rfl
          refine chain_call (T := Is ?_) 10 [59] rfl (by kernel_rfl) ⟨58, by decide +kernel, rfl, fun w x hx => by simpa using hx⟩ (stable_is _) (fun ρ wc hbc hcn hk => ?_) ?_; rotate_left
          · obtain ⟨hcn, hfn⟩ := hcn
            simp at hk
            refine ⟨_, by go_simp; rfl, ?_⟩
            refine (CObject_w (.mk 2 6 2 [] [x, y]) none 0 (some ⟨bz, 0, none⟩) 2 2 wc (HT.out.on (bel_on (bel_drew HB.out) hbc)) (Hz.out.on (w' := wc) (N := W7.heap.size) ⟨hbc.os, hbc.tape, hbc.output, hbc.size, hbc.block⟩ (Nat.le_refl _)) HSZ.out HZ.out.1 HZ.out.2.1 HZ.out.2.2.1).mono ?_
            rintro e w' ⟨rfl, hbq⟩
            refine ⟨_, rfl, ?_, hbq⟩
            unfold Is
            rfl
          refine chain_val (u := ?_) [60] rfl (by kernel_rfl) ⟨58, by decide +kernel, rfl, fun w x hx => by simpa using hx⟩ (fun ρ wc hbc hcn hk => ?_) ?_; rotate_left
          · obtain ⟨hcn, -⟩ := hcn
            simp at hk
            go_simp
            rfl
          refine chain_val (u := ?_) [58, 61] rfl (by kernel_rfl) trivial (fun ρ wc hbc hcn hk => ?_) ?_; rotate_left
          · obtain ⟨hcn, -⟩ := hcn
            simp at hk
            go_simp
            rfl
          refine chain_val (u := ?_) [62] rfl (by kernel_rfl) trivial (fun ρ wc hbc hcn hk => ?_) ?_; rotate_left
          · obtain ⟨hcn, -⟩ := hcn
            simp at hk
            go_simp
            rfl
          refine chain_end_lit 63 rfl (fun ff w7 hb7 hk => ?_)
          refine hKK _ _ ?_
          simp [AllN] at hk
          simp only [frameL, hk, Nat.zero_add, Nat.reduceAdd]
          have hb7' : Below W7.heap.size W7 w7 := ⟨hb7.os, hb7.tape, hb7.output, hb7.size, hb7.block⟩
          have HB7 := Lib.hid (bel_on HB.out hb7')
          clear hb7 hk hb7'
          go_wp2
          go_ret
          exact ⟨rfl, HB7.out⟩
end Go.Proofs.YtcmljjhnfpfcfaaDoor
