/- Package frame: Serialize. -/
import Derived.Test.YtmnhodbppadpdaaFrame3
import Derived.StillTailTactics
namespace Go.Proofs.Ytmnhodbppadpdaa
open Go.ChangeShapes Go.WideShapes Go.ChangeAt Go.RowKit
set_option linter.unusedVariables false
set_option linter.unusedSimpArgs false

def okS (ls : List (List Int)) : Bool := decide (1 ≤ ls.length ∧ ls.length ≤ 512)
def serR (ls : List (List Int)) : List Int := if okS ls then serL ls else []
def errS (ls : List (List Int)) : Int := if okS ls then 0 else 1

theorem wrap_u64_small {v : Int} (h0 : 0 ≤ v) (h1 : v < 4294967296) : IntKind.u64.wrap v = v := by rw [IntKind.wrap_u64]; omega

theorem setEntry_any (base g n cap : Nat) (zs : List Int) (i v : Int) (k : Nat) (w : World) (hn : n = zs.length) (hg : Got w base 43 .u64 (.slice (some ⟨g, 0, none⟩) n cap) zs) (hz : Wds zs) (hi : i = (k : Int)) (hk : k / 2 < zs.length) (hk2 : k ≤ 100000) (hl : zs.length ≤ 100000)
    (hv : 0 ≤ v) (hv2 : v < 4294967296) :
    Calls Try.prog 34 #[.slice (some ⟨g, 0, none⟩) n cap, .int .i64 i, .int .i64 v] w fun e w' => e = .returned (.tuple #[]) ∧
      Got w' base 43 .u64 (.slice (some ⟨g, 0, none⟩) n cap) (zs.set (k / 2) (ins (zat zs (k / 2)) ((k : Int) % 2 * 32) 32 v)) ∧ Below base w w' := by
  subst hn
  subst hi
  have hbase := hg.base_le
  have hcell := hg.cell (k / 2) hk
  have hfree := hg.free (k / 2)
  have hx := hz.at (k / 2)
  have HG := Lib.hid hg
  have HV := Lib.hid (wrap_u64_small hv hv2)
  have hq : ((k : Int) / 2) = ((k / 2 : Nat) : Int) := by omega
  have hq2 : ((k / 2 : Nat) : Int) < (zs.length : Int) := by omega
  clear hg hz
  generalize hX : zat zs (k / 2) = x at *
  have HX := Lib.hid hX
  clear hX
  generalize hJ : k / 2 = j at *
  have HQ := Lib.hid hq
  go_enter Try.func34, Try.ntmps34
  go_wp2
  go_still_tail 10, (by kernel_rfl)
  still_call ((entryAt_any _ _ (by omega) (by omega)).mono fun e w' h => ⟨h.1, h.2.symm⟩)
  repeat still_step
  still_call ((Insert_any _ _ _ _ _ (by omega) (by omega) (by omega) hx.1 hx.2 (by rw [IntKind.wrap_u64]; omega) (by rw [IntKind.wrap_u64]; omega)).mono fun e w' h => ⟨h.1, h.2.symm⟩)
  repeat still_step
  refine wpStill_nil ?_
  change wpList _ _ _ _ _ w.drew
  go_wp2
  go_end0
  refine ⟨rfl, ?_, ?_⟩
  · exact HG.out.put j (ins x ((k : Int) % 2 * 32) 32 v)
  · exact bel_drewN ((Below.refl base w).setCell hbase _) 1

theorem setEnt_wds {zs : List Int} (hz : Wds zs) (k : Nat) (v : Int) : Wds (zs.set (k / 2) (ins (zat zs (k / 2)) ((k : Int) % 2 * 32) 32 v)) := by
  intro z hzm
  rcases List.mem_or_eq_of_mem_set hzm with h | h
  · exact hz z h
  · subst h
    exact ins_bd _ _ _ _ (by omega) (by omega) (by omega) (hz.at _).2

/-- the words of the table of a message -/
theorem table_any (A : Option Addr) (c : Nat) (ls : List (List Int)) (w : World) (hs : Sg w A ls) (h1 : 1 ≤ ls.length) (h2 : ls.length ≤ 512) (hf : ∀ j, (seg ls j).length ≤ 536870911) :
    Calls Try.prog 24 #[.slice A ls.length c] w fun e w' => ∃ v zs, e = .returned v ∧ Got w' w.heap.size 43 .u64 v zs ∧ Wds zs ∧ bytesOf zs = headT ls ∧ zs.length = ls.length / 2 + 1 ∧ Below w.heap.size w w' := by
  obtain ⟨i0, hi, hz0, hz1, hz2⟩ := info_parts int64_info
  have HS := Lib.hid hs
  have HF := Lib.hid hf
  clear hs hf
  go_enter Try.func24, Try.ntmps24
  go_wp2_with fail
  refine (tableWords_any _ _ (by omega) (by omega)).mono ?_
  rintro e w' ⟨rfl, rfl⟩
  have HN : Hid ((ls.length : Int) / 2 + 1 = ((ls.length / 2 + 1 : Nat) : Int)) := Lib.hid (by omega)
  rw [HN.out]
  have HP0 := Lib.hid (partT_zero ls)
  have HPS : Hid (∀ k, k < ls.length → splice (partT ls k) (4 * (k + 1)) (put4 (seg ls k).length) = partT ls (k + 1)) := Lib.hid (partT_step ls)
  have HPE := Lib.hid (partT_end ls)
  generalize hM : ls.length / 2 + 1 = m at *
  have HM := Lib.hid hM
  have hm1 : 1 ≤ m := by omega
  have hm2 : m ≤ 257 := by omega
  have hm3 : ∀ k, k ≤ ls.length → k / 2 < m := by intro k hk; omega
  have HM3 := Lib.hid hm3
  clear hM hm3
  go_wp2_with (at_make; refine wpList_make_full _ rfl _ _ 41 rfl w.heap.size 43 i0 (.int .u64 0) 1 Try.underlying41 hi hz0 hz1 .i64 .i64 _ _ m rfl rfl (by omega) (by omega) (by rw [hz2]; omega) (by unfold maxLen; omega) (Nat.le_refl _) ?_; intro w0 hown0 hgrow0)
  have hb0 : Below w.heap.size w w0 := (Below.refl _ _).grown hgrow0 (Nat.le_refl _) (by simp)
  have hg0 := got_made hown0
  go_wp2_with fail
  refine (setEntry_any w.heap.size w.heap.size m m (List.replicate m 0) 0 ((ls.length : Int) - 1) 0 w0 (by simp) hg0 (wds_zeros m) rfl (by simp; omega) (by omega) (by simp; omega) (by omega) (by omega)).mono ?_
  rintro e w1 ⟨rfl, hg1, hb1⟩
  have HB1 := Lib.hid (hb0.trans hb1)
  obtain ⟨zs1, HZ1⟩ : ∃ zs, Hid (Got w1 w.heap.size 43 .u64 (.slice (some ⟨w.heap.size, 0, none⟩) m m) zs ∧ Wds zs ∧ zs.length = m ∧ bytesOf zs = partT ls 0) := ⟨_, Lib.hid ⟨hg1, setEnt_wds (wds_zeros m) 0 _, by simp, by
    rw [bytesOf_setEnt (wds_zeros m) 0 _ (by simp; omega) (by omega) (by omega), bytesOf_zeros]
    exact HP0.out⟩⟩
  clear hg0 hown0 hgrow0 hb0 hb1 hg1
  go_wp2
  go_loopw [17] (fun i wr => ∃ k zs, k ≤ ls.length ∧ i = .int .i64 (k : Nat) ∧ Got wr w.heap.size 43 .u64 (.slice (some ⟨w.heap.size, 0, none⟩) m m) zs ∧ Wds zs ∧ zs.length = m ∧ bytesOf zs = partT ls k ∧ Below w.heap.size w wr) (fun i _ => ls.length - (intOf i).toNat)
  case atStart => exact ⟨0, zs1, by omega, rfl, HZ1.out.1, HZ1.out.2.1, HZ1.out.2.2.1, HZ1.out.2.2.2, HB1.out⟩
  case round =>
    obtain ⟨k, zs, hk, rfl, hgk, hwk, hlk, hpk, hbk⟩ := hrel
    have HBK := Lib.hid hbk
    have HWK := Lib.hid hwk
    have HPK := Lib.hid hpk
    have HLK := Lib.hid hlk
    have HGK := Lib.hid hgk
    clear HZ1 HB1 hgk hwk hpk hlk
    by_cases hlt : k < ls.length
    · have hsg := HS.out.below hbk (Nat.le_refl _)
      obtain ⟨b, off, A', c', rfl, hcell, -, -, hc1, hc2⟩ := hsg.one hlt
      have hfk := HF.out k
      have hk1 : (k : Int) < (ls.length : Int) := by omega
      have h3 := HM3.out (k + 1) (by omega)
      have HE := Lib.hid (setEntry_any w.heap.size w.heap.size m m zs ((k : Int) + 1) ((seg ls k).length : Int) (k + 1) wr HLK.out.symm HGK.out HWK.out (by omega) (by rw [HLK.out]; exact h3) (by omega) (by rw [HLK.out]; omega) (by omega) (by omega))
      have HNX : Hid (bytesOf (zs.set ((k + 1) / 2) (ins (zat zs ((k + 1) / 2)) (((k + 1 : Nat) : Int) % 2 * 32) 32 ((seg ls k).length : Int))) = partT ls (k + 1)) := Lib.hid (by
        rw [bytesOf_setEnt HWK.out (k + 1) _ (by rw [HLK.out]; exact h3) (by omega) (by omega), HPK.out]
        exact HPS.out k hlt)
      clear hsg hbk h3
      go_wp2_with fail
      refine HE.out.mono ?_
      rintro e w2 ⟨rfl, hg2, hb2⟩
      go_wp2
      go_roundw
      case rel => exact ⟨k + 1, _, by omega, by go_num, hg2, setEnt_wds HWK.out (k + 1) _, by rw [List.length_set]; exact HLK.out, HNX.out, HBK.out.trans hb2⟩
      case measure => simp [intOf]; omega
    · obtain rfl : k = ls.length := by omega
      clear hbk
      go_wp2
      go_ret
      exact ⟨_, zs, rfl, HGK.out, HWK.out, by rw [HPK.out]; exact HPE.out, by rw [HLK.out]; exact HM.out.symm, HBK.out⟩

section
attribute [local irreducible] okS headT serL
set_option maxRecDepth 100000

theorem isMessage_any (A : Option Addr) (c : Nat) (ls : List (List Int)) (w : World) (hs : Sg w A ls) (hf : ∀ j, (seg ls j).length ≤ 536870911) (hm : ls.length ≤ 140737488355328) :
    Calls Try.prog 23 #[.slice A ls.length c] w fun e w' => e = .returned (.bool (okS ls)) ∧ w = w' := by
  have HS := Lib.hid hs
  have HF := Lib.hid hf
  clear hs hf
  by_cases h1 : ls.length = 0
  · have HD : Hid (okS ls = false) := Lib.hid (by unfold okS; rw [decide_eq_false_iff_not]; omega)
    have t1 : ((ls.length : Int) == 0) = true := by rw [beq_iff_eq]; omega
    clear h1
    go_enter Try.func23, Try.ntmps23
    go_wp2
    go_ret
    exact ⟨by rw [HD.out]; rfl, rfl⟩
  have t1 : ((ls.length : Int) == 0) = false := by rw [beq_eq_false_iff_ne]; omega
  by_cases h2 : 512 < ls.length
  · have HD : Hid (okS ls = false) := Lib.hid (by unfold okS; rw [decide_eq_false_iff_not]; omega)
    have t2 : decide ((512 : Int) < (ls.length : Int)) = true := decide_eq_true (by omega)
    clear h1
    go_enter Try.func23, Try.ntmps23
    go_wp2
    go_ret
    exact ⟨by rw [HD.out]; rfl, rfl⟩
  have HD : Hid (okS ls = true) := Lib.hid (by unfold okS; exact decide_eq_true (by omega))
  have t2 : decide ((512 : Int) < (ls.length : Int)) = false := by rw [decide_eq_false_iff_not]; omega
  clear h1
  go_enter Try.func23, Try.ntmps23
  go_wp2
  go_loop [15] (fun i => ∃ k : Nat, k ≤ ls.length ∧ i = .int .i64 k) (fun i => ls.length - (intOf i).toNat)
  case atStart => exact ⟨0, by omega, rfl⟩
  case round =>
    obtain ⟨k, hk, rfl⟩ := hrel
    by_cases hlt : k < ls.length
    · obtain ⟨b, off, A', c', rfl, hcell, -, -, hc1, hc2⟩ := HS.out.one hlt
      have hfk := HF.out k
      have hk1 : (k : Int) < (ls.length : Int) := by omega
      have t3 : decide ((536870911 : Int) < ((seg ls k).length : Int)) = false := by rw [decide_eq_false_iff_not]; omega
      go_wp2
      go_round
      case rel => exact ⟨k + 1, by omega, by go_num⟩
      case measure => simp [intOf]; omega
    · obtain rfl : k = ls.length := by omega
      go_wp2
      go_ret
      exact ⟨by rw [HD.out]; rfl, rfl⟩

theorem FSer_any (A : Option Addr) (c : Nat) (ls : List (List Int)) (w : World) (hs : Sg w A ls) (hw : Wd2 ls) (hf : ∀ j, (seg ls j).length ≤ 536870911) (hnil : A = none → c = 0) (hc : ls.length ≤ c) (hcm : c ≤ 9223372036854775807) (hm : ls.length ≤ 140737488355328) :
    Calls Try.prog 12 #[.slice A ls.length c] w fun e w' => ∃ v, e = .returned (.tuple #[v, .int .i64 (errS ls)]) ∧ Got w' w.heap.size 5 .u8 v (serR ls) ∧ Below w.heap.size w w' := by
  obtain ⟨i0, hi, hz0, hz1, hz2⟩ := info_parts int64_info
  have HS := Lib.hid hs
  have HW := Lib.hid hw
  have HI := Lib.hid (isMessage_any A c ls w hs hf hm)
  cases h : okS ls with
  | false =>
    rw [h] at HI
    have HE : Hid (errS ls = 1) := Lib.hid (by unfold errS; rw [if_neg (by rw [h]; exact Bool.false_ne_true)])
    have HR : Hid (serR ls = []) := Lib.hid (by unfold serR; rw [if_neg (by rw [h]; exact Bool.false_ne_true)])
    clear hs hw hf h
    go_enter Try.func12, Try.ntmps12
    go_wp2_with fail
    refine HI.out.mono ?_
    rintro e w' ⟨rfl, rfl⟩
    go_wp2
    go_ret2
    exact ⟨_, by rw [HE.out]; rfl, by rw [HR.out]; exact Got.empty _ _ _ _, Below.refl _ _⟩
  | true =>
    rw [h] at HI
    have HE : Hid (errS ls = 0) := Lib.hid (by unfold errS; rw [if_pos h])
    have HR : Hid (serR ls = serL ls) := Lib.hid (by unfold serR; rw [if_pos h])
    have hr : 1 ≤ ls.length ∧ ls.length ≤ 512 := by unfold okS at h; exact of_decide_eq_true h
    obtain ⟨hr1, hr2⟩ := hr
    have HT := Lib.hid (table_any A c ls w hs hr1 hr2 hf)
    have HSZ : Hid (∀ k, k ≤ ls.length → ((ls.take k).flatten.length : Int) ≤ 536870911 * k) := Lib.hid (fun k hk => by
      rw [flat_length]
      exact sizeI_le hf k hk)
    have HSER : Hid (∀ zs, bytesOf zs = headT ls → bytesOf (zs ++ ls.flatten) = serL ls) := Lib.hid (fun zs hz => by
      rw [bytesOf_append, hz, bodyL_flat, serL_eq])
    have HFW := Lib.hid (flat_wds hw)
    clear hs hw hf h
    go_enter Try.func12, Try.ntmps12
    go_wp2_with fail
    refine HI.out.mono ?_
    rintro e w' ⟨rfl, rfl⟩
    go_wp2_with fail
    refine HT.out.mono ?_
    rintro e w1 ⟨v1, zs, rfl, hg1, hz1w, hzb, hzl, hb1⟩
    have HG1 := Lib.hid hg1
    have HB1 := Lib.hid hb1
    have HZW := Lib.hid hz1w
    have HZB := Lib.hid (HSER.out zs hzb)
    have HZL : Hid (zs.length ≤ 257) := Lib.hid (by omega)
    clear HI HT hg1 hb1 hz1w hzb hzl
    go_wp2
    go_loopw [4, 14] (fun v i wr => ∃ k : Nat, k ≤ ls.length ∧ i = .int .i64 k ∧ Got wr w.heap.size 43 .u64 v (zs ++ (ls.take k).flatten) ∧ Below w.heap.size w wr) (fun _ i _ => ls.length - (intOf i).toNat)
    case atStart => exact ⟨0, by omega, rfl, by simpa using HG1.out, HB1.out⟩
    case round =>
      obtain ⟨k, hk, rfl, hgk, hbk⟩ := hrel
      have HG := Lib.hid hgk
      have HB := Lib.hid hbk
      have hszk := hbk.size
      clear HG1 HB1 hgk
      by_cases hlt : k < ls.length
      · have hsg := HS.out.below hbk (Nat.le_refl _)
        obtain ⟨b, off, A', c', rfl, hcell, hri, hn', hc1, hc2⟩ := hsg.one hlt
        have hk1 : (k : Int) < (ls.length : Int) := by omega
        have HRI := Lib.hid hri
        have HN' := Lib.hid hn'
        have HFS := Lib.hid (flat_succ ls k hlt)
        have HL : Hid ((zs ++ (ls.take k).flatten).length + (seg ls k).length ≤ 274877906944 + 257) := Lib.hid (by
          have h1 := HSZ.out (k + 1) (by omega)
          rw [HFS.out, List.length_append] at h1
          have h2 := HZL.out
          rw [List.length_append]
          omega)
        clear hsg hbk hri hn'
        go_wp2_with (at_builtin; refine wpList_appN rfl (.tmp 18) (.tmp 19) 41 rfl Try.underlying41 hi hz0 hz1 hz2 rfl HG.out rfl HRI.out HN'.out (by have := HL.out; unfold maxLen; omega) (by have := HL.out; omega) (by omega) ?_; intro v2 w2 hg2 hb2)
        go_roundw
        case rel => exact ⟨k + 1, by omega, by go_num, by rw [HFS.out, ← List.append_assoc]; exact hg2, HB.out.trans hb2⟩
        case measure => simp [intOf]; omega
      · obtain rfl : k = ls.length := by omega
        have hg := HG.out
        rw [List.take_length] at hg
        obtain ⟨A2, c2, rfl, -, -, hr2', -⟩ := hg.full
        have HG2 := Lib.hid hg
        have HWA : Hid (Wds (zs ++ ls.flatten)) := Lib.hid (fun z hz => by
          rcases List.mem_append.1 hz with h | h
          · exact HZW.out z h
          · exact HFW.out z h)
        have HL : Hid ((zs ++ ls.flatten).length ≤ 17592186044416) := Lib.hid (by
          have h1 := HSZ.out ls.length (Nat.le_refl _)
          rw [List.take_length] at h1
          have h2 := HZL.out
          rw [List.length_append]
          omega)
        have HY := Lib.hid (Bytes_any A2 c2 (zs ++ ls.flatten) wr hr2' HWA.out HL.out)
        clear hg hr2' hbk HG
        generalize hZZ : zs ++ ls.flatten = zz at *
        have HZZ := Lib.hid hZZ
        clear hZZ
        go_wp2_with fail
        refine HY.out.mono ?_
        rintro e w3 ⟨v3, rfl, hg3, hb3⟩
        go_wp2
        go_ret2
        exact ⟨v3, by rw [HE.out]; rfl, by rw [HR.out, ← HZB.out]; exact hg3.mono hszk, HB.out.trans (hb3.mono hszk)⟩
end
end Go.Proofs.Ytmnhodbppadpdaa
