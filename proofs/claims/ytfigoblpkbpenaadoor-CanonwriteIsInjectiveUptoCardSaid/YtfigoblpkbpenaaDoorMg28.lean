/- The texts WriB, TrimA (what is wanted of them), one after the other. -/
import Derived.Test.YtfigoblpkbpenaaDoorMg1
import Derived.Test.YtfigoblpkbpenaaDoorMg2
import Derived.Test.YtfigoblpkbpenaaDoorMg3
import Derived.Test.YtfigoblpkbpenaaDoorMg4
import Derived.Test.YtfigoblpkbpenaaDoorMg5
import Derived.Test.YtfigoblpkbpenaaDoorMg6
import Derived.Test.YtfigoblpkbpenaaDoorMg7
import Derived.Test.YtfigoblpkbpenaaDoorMg8
import Derived.Test.YtfigoblpkbpenaaDoorMg9
import Derived.Test.YtfigoblpkbpenaaDoorMg10
import Derived.Test.YtfigoblpkbpenaaDoorMg12
import Derived.Test.YtfigoblpkbpenaaDoorMg13
import Derived.Test.YtfigoblpkbpenaaDoorMg17
import Derived.Test.YtfigoblpkbpenaaDoorMg18
import Derived.Test.YtfigoblpkbpenaaDoorMg19
import Derived.Test.YtfigoblpkbpenaaDoorMg26
import Derived.Test.YtfigoblpkbpenaaDoorMg27
import Derived.Laws.CopyOwn
import Derived.Lib.SliceRun
/- Package canonwrite: bytes written as words. -/
namespace Go.Proofs.YtfigoblpkbpenaaDoor
open Go.ChangeShapes Go.WideShapes Go.ChangeAt Go.RowKit
set_option linter.unusedVariables false
set_option linter.unusedSimpArgs false
set_option maxRecDepth 100000

/-- the next eight bytes, zeros behind -/
def eight (b : List Int) : List Int := b.take 8 ++ List.replicate (8 - b.length) 0
theorem eight_length (b : List Int) : (eight b).length = 8 := by unfold eight; rw [List.length_append, List.length_take, List.length_replicate]; omega
theorem eight_bts {b : List Int} (h : Bts b) : Bts (eight b) := by
  intro z hz
  rcases List.mem_append.1 hz with hz | hz
  · exact h z (List.mem_of_mem_take hz)
  · rw [List.eq_of_mem_replicate hz]; omega
theorem zat_app0 (b : List Int) (n i : Nat) : zat (b ++ List.replicate n 0) i = zat b i := by
  by_cases h : i < b.length
  · exact zat_append_left _ _ _ h
  · rw [zat_append_right _ _ _ (by omega), zat_replicate, zat_out (by omega)]
theorem zat_eight (b : List Int) (i : Nat) (h : i < 8) : zat (eight b) i = zat b i := by
  unfold eight
  rw [zat_app0, zat_take _ _ _ h]
theorem padW_step (b : List Int) (j : Nat) (h : 8 * j < b.length) : (padW b ((b.length + 7) / 8)).take (j + 1) = (padW b ((b.length + 7) / 8)).take j ++ [wordAt (eight (b.drop (8 * j))) 0] := by
  have hl : (padW b ((b.length + 7) / 8)).length = (b.length + 7) / 8 := padW_length (by omega)
  rw [List.take_succ_eq_append_getElem (by omega)]
  have e : (padW b ((b.length + 7) / 8))[j]'(by omega) = zat (padW b ((b.length + 7) / 8)) j := by
    simp [zat, List.getD_eq_getElem?_getD, show j < (padW b ((b.length + 7) / 8)).length by omega]
  rw [e]
  congr 2
  unfold padW
  rw [wordsOf_zat _ _ (by rw [List.length_append, List.length_replicate]; omega)]
  unfold wordAt
  refine leF_congr 8 (fun i hi => ?_)
  rw [zat_app0, Nat.mul_zero, Nat.zero_add, zat_eight _ _ hi, zat_drop]
theorem eight_splice (b : List Int) (k : Nat) (hk : k = Nat.min b.length 8) : Go.splice ((List.replicate 8 (0 : Int)).map (Value.int .u8)) 0 ((b.take k).map (Value.int .u8)) = (eight b).map (Value.int .u8) := by
  unfold eight Go.splice
  have e1 : (b.take k).length = k := by rw [List.length_take, hk]; exact Nat.min_eq_left (Nat.min_le_left _ _)
  rw [List.length_map, e1, List.take_zero, List.nil_append, List.map_append]
  have e2 : b.take k = b.take 8 := by
    by_cases h : b.length ≤ 8
    · have : k = b.length := by rw [hk]; exact Nat.min_eq_left h
      rw [this, List.take_length, List.take_of_length_le h]
    · have : k = 8 := by rw [hk]; exact Nat.min_eq_right (by omega)
      rw [this]
  rw [e2]
  congr 1
  rw [List.map_replicate, List.map_replicate, List.drop_replicate]
  congr 1
  have : k = b.length ∧ b.length ≤ 8 ∨ k = 8 ∧ 8 < b.length := by
    by_cases h : b.length ≤ 8
    · exact .inl ⟨by rw [hk]; exact Nat.min_eq_left h, h⟩
    · exact .inr ⟨by rw [hk]; exact Nat.min_eq_right (by omega), by omega⟩
  omega
theorem copy_src15 {w : World} {k : IntKind} {A : Option Addr} {zs : List Int} {dp : Option Addr} {g n : Nat} (h : Ri w k A zs) (hd : dp = some ⟨g, 0, none⟩) : 0 < ((zs.take n).map (Value.int k)).length → dp = some ⟨g, 0, none⟩ ∧ ∃ ad, A = some ad ∧ ∀ j v, ((zs.take n).map (Value.int k))[j]? = some v → w.cell? (ad.add j) = some v := by
  intro h0
  refine ⟨hd, ?_⟩
  rcases (h.take n) with h1 | ⟨b, off, rfl, hc⟩
  · rw [h1] at h0; simp at h0
  · refine ⟨_, rfl, fun j v hj => ?_⟩
    have hlt : j < (zs.take n).length := by
      have := (List.getElem?_eq_some_iff.1 hj).1
      rwa [List.length_map] at this
    rw [add_plain, hc j hlt]
    rw [List.getElem?_map, List.getElem?_eq_getElem hlt] at hj
    simp at hj
    subst hj
    simp [zat, List.getD_eq_getElem?_getD, List.getElem?_eq_getElem hlt]
theorem Ri.heap {w : World} {g : Nat} {k : IntKind} {zs : List Int} {T : TypeId} (h : w.heap[g]? = some (.cells (zs.map (Value.int k)).toArray T (0, 0))) : Ri w k (some ⟨g, 0, none⟩) zs := by
  refine .inr ⟨g, 0, rfl, fun j hj => ?_⟩
  simp [World.cell?, h, zat, List.getD_eq_getElem?_getD, hj]

/-- a loop's rest of the bytes -/
def RestB (w0 : World) (b : List Int) (j : Nat) (v : Value) : Prop := ∃ A' c', v = .slice A' (b.length - 8 * j) c' ∧ b.length - 8 * j ≤ c' ∧ c' ≤ maxLen ∧ (A' = none → c' = 0) ∧ Ri w0 .u8 A' (b.drop (8 * j))
theorem restB_cut {w0 : World} {b : List Int} {j K : Nat} {A' : Option Addr} {c' : Nat} (hc : b.length - 8 * j ≤ c') (hm : c' ≤ maxLen) (hn : A' = none → c' = 0) (hr : Ri w0 .u8 A' (b.drop (8 * j))) (hK : K = 8 ∨ K = b.length - 8 * j) (h8 : K ≤ 8) (hl : K ≤ b.length - 8 * j) (h0 : 0 < K) :
    RestB w0 b (j + 1) (.slice (Option.map (fun x => x.add K) A') (b.length - 8 * j - K) (c' - K)) := by
  have e : b.length - 8 * j - K = b.length - 8 * (j + 1) := by omega
  rw [e]
  refine ⟨_, _, rfl, by omega, by omega, fun h => ?_, ?_⟩
  · cases A' with
    | none => have := hn rfl; omega
    | some a => cases h
  · by_cases h : b.length ≤ 8 * (j + 1)
    · rw [List.drop_eq_nil_of_le h]; exact .inl rfl
    · have hK8 : K = 8 := by omega
      subst hK8
      have e2 : b.drop (8 * (j + 1)) = (b.drop (8 * j)).drop 8 := by rw [List.drop_drop]; congr 1
      rw [e2]
      rcases hr with h1 | ⟨g, off, rfl, h1⟩
      · have := congrArg List.length h1
        rw [List.length_drop] at this
        simp at this
        omega
      · have := Ri.drop (w := w0) (k := .u8) (n := 8) (.inr ⟨g, off, rfl, h1⟩) rfl
        simp only [Option.map_some, add_plain]
        exact this
theorem restB_full {w0 : World} {b : List Int} {j K : Nat} {A' : Option Addr} (hc : b.length - 8 * j ≤ K) (h8 : K ≤ 8) :
    RestB w0 b (j + 1) (.slice A' (b.length - 8 * j - K) 0) := by
  have e : b.length - 8 * j - K = b.length - 8 * (j + 1) := by omega
  rw [e]
  refine ⟨_, _, rfl, by omega, by unfold maxLen; omega, fun _ => rfl, ?_⟩
  rw [List.drop_eq_nil_of_le (by omega)]
  exact .inl rfl

set_option maxHeartbeats 4000000 in
theorem Wdata_any (w0 : World) (wb q cap : Nat) (hwb : w0.heap.size ≤ wb) (hne : wb ≠ q) (hcap : cap ≤ 1099511627776) (A : Option Addr) (c : Nat) (b cur : List Int) (w : World) (hr : Ri w0 .u8 A b) (hby : Bts b) (hnl : A = none → c = 0) (hc : b.length ≤ c) (hcm : c ≤ maxLen)
    (hroom : cur.length + (b.length + 7) / 8 ≤ cap) (h : Wr w wb q cap w0.heap.size cur) (hb : Below w0.heap.size w0 w) :
    Calls Tryd.prog 50 #[.pointer (some ⟨wb, 0, none⟩), .slice A b.length c] w fun r w' => r = .returned (.tuple #[]) ∧ Keeps (KS wb q) w w' ∧ Wr w' wb q cap w0.heap.size (cur ++ padW b ((b.length + 7) / 8)) := by
  have HBY := Lib.hid hby
  have HB := Lib.hid hb
  have HQ := Lib.hid h.q.1
  have HWB := Lib.hid hwb
  have HNE := Lib.hid hne
  have HPL : Hid ((padW b ((b.length + 7) / 8)).length = (b.length + 7) / 8) := Lib.hid (padW_length (by omega))
  have HST := Lib.hid (padW_step b)
  have HSZ := Lib.hid hb.size
  have HW0 : Hid (Wr w wb q cap w0.heap.size (cur ++ (padW b ((b.length + 7) / 8)).take 0)) := Lib.hid (by simpa using h)
  have HR0 : Hid (RestB w0 b 0 (.slice A b.length c)) := Lib.hid ⟨A, c, rfl, hc, hcm, hnl, hr⟩
  have HEND : Hid ((padW b ((b.length + 7) / 8)).take ((b.length + 7) / 8) = padW b ((b.length + 7) / 8)) := Lib.hid (by rw [← HPL.out]; rw [HPL.out]; exact List.take_of_length_le (by rw [HPL.out]; exact Nat.le_refl _))
  have HRM : Hid (cur.length + (b.length + 7) / 8 ≤ cap) := Lib.hid hroom
  have HBL : Hid (b.length ≤ 9223372036854775807) := Lib.hid (by unfold maxLen at hcm; omega)
  generalize padW b ((b.length + 7) / 8) = pw at *
  clear hr hby hnl h hb hwb hne hroom
  go_enter Tryd.func50, Tryd.ntmps50
  go_wp2
  go_loopw [1] (fun v wr => ∃ j : Nat, 8 * j ≤ b.length + 7 ∧ RestB w0 b j v ∧ Wr wr wb q cap w0.heap.size (cur ++ pw.take j) ∧ Keeps (KS wb q) w wr) (fun v _ => match v with | .slice _ l _ => l | _ => 0)
  case atStart => exact ⟨0, by omega, HR0.out, HW0.out, Keeps.refl _ _⟩
  case round =>
    clear HW0 HR0
    obtain ⟨j, hj, ⟨A', c', rfl, hc', hm', hn', hr'⟩, hw, hk⟩ := hrel
    have HR := Lib.hid hr'
    have HN := Lib.hid hn'
    have HK := Lib.hid hk
    have hCL : (cur ++ pw.take j).length = cur.length + Nat.min j ((b.length + 7) / 8) := by rw [List.length_append, List.length_take, HPL.out]
    by_cases hlt : 8 * j < b.length
    · have hjn : Nat.min j ((b.length + 7) / 8) = j := Nat.min_eq_left (by omega)
      have HCL : Hid ((cur ++ pw.take j).length = cur.length + j) := Lib.hid (by rw [hCL, hjn])
      have HS : Hid ((cur ++ pw.take j) ++ [wordAt (eight (b.drop (8 * j))) 0] = cur ++ pw.take (j + 1)) := Lib.hid (by rw [List.append_assoc, HST.out j hlt])
      have hgt : ((b.length - 8 * j : Nat) : Int) > 0 := by omega
      have hbel : Below w0.heap.size w0 wr := HB.out.trans (ks_below hk HSZ.out HWB.out HQ.out)
      have HRW : Hid (Ri (wr.alloc (.cells #[.int .u8 0, .int .u8 0, .int .u8 0, .int .u8 0, .int .u8 0, .int .u8 0, .int .u8 0, .int .u8 0] 68)) .u8 A' (b.drop (8 * j))) := Lib.hid ((hr'.below hbel (Nat.le_refl _)).alloc _)
      have HW1 := Lib.hid (hw.alloc (.cells #[.int .u8 0, .int .u8 0, .int .u8 0, .int .u8 0, .int .u8 0, .int .u8 0, .int .u8 0, .int .u8 0] 68))
      have HD : Hid ((b.drop (8 * j)).length = b.length - 8 * j) := Lib.hid (List.length_drop ..)
      clear hk hr' hn' hCL hjn hbel
      obtain ⟨K, hK⟩ : ∃ K, K = Nat.min (b.length - 8 * j) 8 := ⟨_, rfl⟩
      have hK1 : K ≤ b.length - 8 * j := by rw [hK]; exact Nat.min_le_left _ _
      have hK2 : K ≤ 8 := by rw [hK]; exact Nat.min_le_right _ _
      have hK3 : K = 8 ∨ K = b.length - 8 * j := by
        by_cases h : b.length - 8 * j ≤ 8
        · exact .inr (by rw [hK]; exact Nat.min_eq_left h)
        · exact .inl (by rw [hK]; exact Nat.min_eq_right (by omega))
      have hK0 : 0 < K := by omega
      have HKM : Hid (K = Nat.min (b.length - 8 * j) 8) := Lib.hid hK
      clear hK
      obtain ⟨cs, hcs⟩ : ∃ cs, cs = ((b.drop (8 * j)).take K).map (Value.int .u8) := ⟨_, rfl⟩
      have hcl : cs.length = K := by rw [hcs, List.length_map, List.length_take, HD.out]; omega
      have HCS := Lib.hid hcs
      clear hcs
      have HCC := Lib.hid hcl
      have HSP : Hid (Go.splice ((List.replicate 8 (0 : Int)).map (Value.int .u8)) 0 cs = (eight (b.drop (8 * j))).map (Value.int .u8)) := Lib.hid (by rw [HCS.out]; exact eight_splice _ K (by rw [HD.out]; exact HKM.out))
      have HSRC := Lib.hid (copy_src15 (n := K) (dp := some ⟨wr.heap.size, 0, none⟩) HRW.out rfl)
      rw [← HCS.out] at HSRC
      have HRC := Lib.hid (restB_cut hc' hm' HN.out HR.out hK3 hK2 hK1 hK0)
      have HRF : Hid (K = c' → RestB w0 b (j + 1) (.slice A' (b.length - 8 * j - K) 0)) := Lib.hid (fun h => restB_full (by omega) hK2)
      have H1C : Hid (∀ v ∈ cs, v.oneCell' = true) := Lib.hid (by
        rw [HCS.out]
        intro v hv
        obtain ⟨z, -, rfl⟩ := List.mem_map.1 hv
        rfl)
      obtain ⟨W1, hW1⟩ : ∃ W1, W1 = wr.alloc (.cells #[.int .u8 0, .int .u8 0, .int .u8 0, .int .u8 0, .int .u8 0, .int .u8 0, .int .u8 0, .int .u8 0] 68) := ⟨_, rfl⟩
      have HH1 : Hid ((wr.alloc (.cells #[.int .u8 0, .int .u8 0, .int .u8 0, .int .u8 0, .int .u8 0, .int .u8 0, .int .u8 0, .int .u8 0] 68)).heap[wr.heap.size]? = some (.cells ((List.replicate 8 (0 : Int)).map (Value.int .u8)).toArray 68 (0, 0))) := Lib.hid (heap_alloc_new _ _)
      have HK1 := Lib.hid (ks_alloc HK.out (.cells #[.int .u8 0, .int .u8 0, .int .u8 0, .int .u8 0, .int .u8 0, .int .u8 0, .int .u8 0, .int .u8 0] 68))
      have HB1 : Hid (Below wr.heap.size wr (wr.alloc (.cells #[.int .u8 0, .int .u8 0, .int .u8 0, .int .u8 0, .int .u8 0, .int .u8 0, .int .u8 0, .int .u8 0] 68))) := Lib.hid ((Below.refl _ _).alloc (Nat.le_refl _) _)
      have HW0 := Lib.hid hw
      have HGET : Hid (∀ w2, Ri w2 .u8 (some ⟨wr.heap.size, 0, none⟩) (eight (b.drop (8 * j))) → Calls Tryd.prog 56 #[.slice (some ⟨wr.heap.size, 0, none⟩) 8 8, .int .i64 0] w2 fun e w' => e = .returned (.tuple #[.int .u64 (wordAt (eight (b.drop (8 * j))) 0), .bool true]) ∧ w2 = w') := Lib.hid (fun w2 h2 => by
        have h8 := eight_length (b.drop (8 * j))
        have hg := Get_any (some ⟨wr.heap.size, 0, none⟩) 8 (eight (b.drop (8 * j))) 0 w2 h2 (eight_bts (fun z hz => HBY.out z (List.mem_of_mem_drop hz))) (by omega) (by omega) (by omega) (by omega) (by omega)
        have hh : hasW (eight (b.drop (8 * j))) 0 = true := by unfold hasW; simp; omega
        have hgw : getW (eight (b.drop (8 * j))) 0 = wordAt (eight (b.drop (8 * j))) 0 := by unfold getW; rw [if_pos hh]; rfl
        rw [h8, hh, hgw] at hg
        exact hg)
      clear hw
      generalize wordAt (eight (b.drop (8 * j))) 0 = y at *
      generalize eight (b.drop (8 * j)) = e8 at *
      generalize cur ++ pw.take j = cu at *
      go_wp2_with (refine wpList_copy_splice rfl (.tmp 11) (.tmp 12) 22 22 rfl 5 rfl rfl _ _ _ _ _ _ rfl rfl wr.heap.size 0 _ _ HH1.out cs (by rw [HCC.out]; exact HKM.out) HSRC.out (by rw [HCC.out, List.length_map, List.length_replicate]; omega) H1C.out wr.heap.size wr HB1.out (Nat.le_refl _) ?_; intro w2 HG2 hB2; rw [HCC.out]; have HB2 := Lib.hid hB2; clear hB2)
      all_goals first
        | (have HRB := Lib.hid (HRF.out (by omega)))
        | (have HRB := HRC)
      all_goals
        have HW2 := Lib.hid (HW0.out.below HB2.out)
        have HRI : Hid (Ri w2 .u8 (some ⟨wr.heap.size, 0, none⟩) e8) := Lib.hid (Ri.heap (by rw [← HSP.out]; exact HG2.out))
        have HK2 := Lib.hid (ks_on HK.out HB2.out)
        clear HG2 HB2 HW0 HK1 HB1 HH1 HSRC HRF HRC
        refine (HGET.out _ HRI.out).mono ?_
        rintro r w3 ⟨rfl, rfl⟩
        clear HGET HRI
        obtain ⟨x2, y2, z2⟩ := HW2.out.blk
        go_wp2_with (at_builtin; refine wpList_wr1 rfl (.tmp 24) (.tmp 26) rfl HW2.out HNE.out rfl rfl (by rw [HCL.out]; have := HRM.out; omega) ?_; intro w4 hg4 hb4 hk4; have HG4 := Lib.hid hg4; have HB4 := Lib.hid hb4; have HK4 := Lib.hid hk4; obtain ⟨x4, y4, z4⟩ := hb4; clear hg4 hk4 x2 y2 z2)
        go_roundw
        case rel => exact ⟨j + 1, by omega, HRB.out, by rw [← HS.out]; exact Wr.grow HG4.out HB4.out HNE.out (by simp), ks_set (HK2.out.trans HK4.out) (.inl (.inl rfl)) _⟩
        case measure => simp; omega
    · have hjn : (b.length + 7) / 8 ≤ j := by omega
      have HW1 : Hid (Wr wr wb q cap w0.heap.size (cur ++ pw)) := Lib.hid (by
        have e : pw.take j = pw := List.take_of_length_le (by rw [HPL.out]; exact hjn)
        rw [e] at hw
        exact hw)
      have h0 : b.length - 8 * j = 0 := by omega
      clear hw hk hr' hn' hCL
      rw [h0]
      go_wp2
      go_end0
      exact ⟨rfl, HK.out, HW1.out⟩
end Go.Proofs.YtfigoblpkbpenaaDoor

/- Package trim: cut at its two predicates, and with it Words, Pointers and Uniform. -/
namespace Go.Proofs.YtfigoblpkbpenaaDoor
open Go.ChangeShapes Go.WideShapes Go.ChangeAt Go.RowKit
set_option linter.unusedVariables false
set_option linter.unusedSimpArgs false
set_option maxRecDepth 100000

set_option maxRecDepth 100000 in
theorem trimUniform_any (x : Nd) (A : Option Addr) (c : Nat) (B : Option Addr) (c2 : Nat) (w : World) (hx : NdR w A c B c2 x) (hs : sizeN x ≤ 1099511627776) :
    Calls Tryd.prog 45 #[.agg #[.int .i64 x.k, .int .i64 x.e, .int .i64 x.n, .slice A x.d.length c, .slice B x.ks.length c2]] w fun r w' => r = .returned (.tuple #[.int .i64 (uniD x.ks x.ks.length), .int .i64 (uniP x.ks x.ks.length)]) ∧ Below w.heap.size w w' := by
  obtain ⟨k, e, n, d, ks⟩ := x
  simp only [Nd.k, Nd.e, Nd.n, Nd.d, Nd.ks]
  have HK := Lib.hid hx.kids
  have hso : sizeN (.mk k e n d ks) = 1 + d.length + sizeK ks := by simp only [sizeN]
  rw [hso] at hs
  have hkl := sizeK_length ks
  have hlen : ks.length ≤ 1099511627776 := by omega
  have HSZ : Hid (∀ (j : Nat) (hj : j < ks.length), (ks[j]).d.length ≤ 1099511627776 ∧ (ks[j]).ks.length ≤ 1099511627776) := Lib.hid (fun j hj => by
    have h1 := sizeN_kid (List.getElem_mem hj)
    generalize ks[j] = y at *
    obtain ⟨k', e', n', d', ks'⟩ := y
    simp only [sizeN] at h1
    have := sizeK_length ks'
    simp only [Nd.d, Nd.ks]
    omega)
  have HB0 := Lib.hid (fun o => (Below.refl w.heap.size w).alloc (Nat.le_refl _) o)
  clear hx hso hs hkl
  go_enter Tryd.func45, Tryd.ntmps45
  go_wp2
  go_loopw [4, 5, 11] (fun p q i wr => ∃ j : Nat, j ≤ ks.length ∧ i = .int .i64 j ∧ p = .int .i64 (uniD ks j) ∧ q = .int .i64 (uniP ks j) ∧ uniD ks j ≤ 1099511627776 ∧ uniP ks j ≤ 1099511627776 ∧ Below w.heap.size w wr) (fun _ _ i _ => ks.length - (intOf i).toNat)
  case atStart => exact ⟨0, by omega, rfl, rfl, rfl, by simp [uniD], by simp [uniP], HB0.out _⟩
  case round =>
    obtain ⟨j, hj, rfl, rfl, rfl, hd1, hp1, hbr⟩ := hrel
    have HR := Lib.hid hbr
    clear hbr
    by_cases hlt : j < ks.length
    · have hj1 : (j : Int) < (ks.length : Int) := by omega
      obtain ⟨b, off, A', c', B', c2', rfl, k0, k1, k2, k3, k4, hsub⟩ := HK.out.atIn HR.out (Nat.le_refl _) hlt
      have HD := Lib.hid (uniD_succ hlt)
      have HP := Lib.hid (uniP_succ hlt)
      obtain ⟨hz1, hz2⟩ := HSZ.out j hlt
      clear hsub
      generalize ks[j] = kx at *
      obtain ⟨kk, ke, kn, kd, kks⟩ := kx
      simp only [Nd.k, Nd.e, Nd.n, Nd.d, Nd.ks] at k0 k1 k2 k3 k4 HD HP hz1 hz2
      have HB1 := Lib.hid (fun o => HR.out.alloc HR.out.size o)
      generalize uniD ks j = u at *
      generalize uniP ks j = v at *
      go_wp2
      go_roundw
      case rel => exact ⟨j + 1, by omega, by go_num, by rw [HD.out]; go_num, by rw [HP.out]; go_num, by rw [HD.out]; omega, by rw [HP.out]; omega, HB1.out _⟩
      case measure => simp [intOf]; omega
    · obtain rfl : j = ks.length := by omega
      go_wp2
      go_ret2
      exact ⟨rfl, HR.out⟩
end Go.Proofs.YtfigoblpkbpenaaDoor
