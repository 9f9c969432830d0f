/- What the small functions of package frame do, each by a contract: a malformed table ends in the panic that Parse recovers. -/
import Derived.Test.YtmnhodbppadpdaaRef04
import Derived.Test.YtmnhodbppadpdaaFrameNum3
import Derived.Recover
import Derived.WalkLawsBesides
namespace Go.Proofs.Ytmnhodbppadpdaa
open Go.ChangeShapes Go.WideShapes Go.ChangeAt Go.RowKit
set_option linter.unusedVariables false
set_option linter.unusedSimpArgs false

theorem tableWords_any (n : Int) (w : World) (h1 : 0 ≤ n) (h2 : n ≤ 1000000) : Calls Try.prog 29 #[.int .i64 n] w fun e w' => e = .returned (.int .i64 (n / 2 + 1)) ∧ w = w' := by
  go_enter Try.func29, Try.ntmps29
  go_wp2
  go_ret
  exact ⟨rfl, rfl⟩

theorem FTable_any (n : Int) (w : World) (h1 : 1 ≤ n) (h2 : n ≤ 512) : Calls Try.prog 16 #[.int .i64 n] w fun e w' => e = .returned (.int .i64 (tbl n)) ∧ w = w' := by
  have HT : Hid (tbl n = (n / 2 + 1) * 8) := Lib.hid (by unfold tbl; omega)
  go_enter Try.func16, Try.ntmps16
  go_wp2_with (go_at_call 29; refine (tableWords_any _ _ (by omega) (by omega)).mono ?_; rintro e w' ⟨rfl, rfl⟩)
  go_ret
  exact ⟨by rw [HT.out]; rfl, rfl⟩

theorem entryAt_any (n : Int) (w : World) (h1 : 0 ≤ n) (h2 : n ≤ 1000000) : Calls Try.prog 38 #[.int .i64 n] w fun e w' => e = .returned (.int .i64 (n % 2 * 32)) ∧ w = w' := by
  go_enter Try.func38, Try.ntmps38
  go_wp2
  go_ret
  exact ⟨rfl, rfl⟩

/-- what a malformed table raises -/
def malV : Value := .iface 45 (.agg #[])
def malE : Ending := .panicked [{ v := malV, recovered := false }]

theorem require_yes (w : World) : Calls Try.prog 31 #[.bool true] w fun e w' => e = .returned (.tuple #[]) ∧ w = w' := by
  go_enter Try.func31, Try.ntmps31
  go_wp2
  go_end0
  exact ⟨rfl, rfl⟩

theorem require_no (w : World) : Calls Try.prog 31 #[.bool false] w fun e w' => e = malE ∧ w = w' := by
  go_enter Try.func31, Try.ntmps31
  go_wp2
  exact ⟨rfl, rfl, rfl⟩

theorem readEntry_yes (A : Option Addr) (c : Nat) (b : List Int) (k : Nat) (lim : Int) (w : World) (hr : Ri w .u8 A b) (hb : Bts b) (hm : b.length ≤ 140737488355328) (hc : b.length ≤ c) (hc2 : c ≤ 9223372036854775807) (hk : k ≤ 100000)
    (h0 : 0 ≤ lim) (h1 : lim < 18446744073709551616) (hy : rdB b k lim = true) :
    Calls Try.prog 30 #[.slice A b.length c, .int .i64 k, .int .u64 lim] w fun e w' => e = .returned (.int .i64 (ent b k)) ∧ w = w' := by
  obtain ⟨y1, y2⟩ := rdB_yes hy
  have hq : ((k : Int) / 2) = ((k / 2 : Nat) : Int) := by omega
  have hH : hasW b ((k / 2 : Nat) : Int) = true := by unfold hasW; simp; omega
  have HH := Lib.hid hH
  have HG : Hid (getW b ((k / 2 : Nat) : Int) = wordAt b (k / 2)) := Lib.hid (by unfold getW; rw [hH, Int.toNat_natCast]; rfl)
  have hx := wordAt_bd hb (k / 2)
  have HF := Lib.hid (fld_ent hb k)
  have he := ent_bd hb k
  have HW := Lib.hid (Get_any A c b ((k / 2 : Nat) : Int) w hr hb hm hc hc2 (by omega) (by omega))
  have HQ := Lib.hid hq
  clear hr hb hH hq hy y1
  generalize wordAt b (k / 2) = x at *
  generalize ent b k = z at *
  go_enter Try.func30, Try.ntmps30
  go_wp2_with fail
  rw [HQ.out]
  refine HW.out.mono ?_
  rintro e w' ⟨rfl, rfl⟩
  rw [HH.out, HG.out]
  go_wp2_with fail
  refine (require_yes _).mono ?_
  rintro e w' ⟨rfl, rfl⟩
  go_wp2_with fail
  refine (entryAt_any _ _ (by omega) (by omega)).mono ?_
  rintro e w' ⟨rfl, rfl⟩
  go_wp2_with fail
  refine (Field_any _ _ _ _ (by omega) (by omega) (by omega) hx.1 hx.2).mono ?_
  rintro e w' ⟨rfl, rfl⟩
  rw [HF.out]
  have t1 : decide (z ≤ lim) = true := decide_eq_true y2
  go_wp2_with fail
  refine (require_yes _).mono ?_
  rintro e w' ⟨rfl, rfl⟩
  go_wp2
  go_ret
  exact ⟨rfl, rfl⟩

theorem readEntry_no (A : Option Addr) (c : Nat) (b : List Int) (k : Nat) (lim : Int) (w : World) (hr : Ri w .u8 A b) (hb : Bts b) (hm : b.length ≤ 140737488355328) (hc : b.length ≤ c) (hc2 : c ≤ 9223372036854775807) (hk : k ≤ 100000)
    (h0 : 0 ≤ lim) (h1 : lim < 18446744073709551616) (hy : rdB b k lim = false) :
    Calls Try.prog 30 #[.slice A b.length c, .int .i64 k, .int .u64 lim] w fun e w' => e = malE ∧ w = w' := by
  have hn := rdB_no hy
  have hq : ((k : Int) / 2) = ((k / 2 : Nat) : Int) := by omega
  have HW := Lib.hid (Get_any A c b ((k / 2 : Nat) : Int) w hr hb hm hc hc2 (by omega) (by omega))
  have HQ := Lib.hid hq
  by_cases hl : 8 * (k / 2) + 8 ≤ b.length
  · have hgt : ¬ ent b k ≤ lim := fun h => hn ⟨hl, h⟩
    have hH : hasW b ((k / 2 : Nat) : Int) = true := by unfold hasW; simp; omega
    have HH := Lib.hid hH
    have HG : Hid (getW b ((k / 2 : Nat) : Int) = wordAt b (k / 2)) := Lib.hid (by unfold getW; rw [hH, Int.toNat_natCast]; rfl)
    have hx := wordAt_bd hb (k / 2)
    have HF := Lib.hid (fld_ent hb k)
    have he := ent_bd hb k
    clear hr hb hH hq hy hl hn
    generalize wordAt b (k / 2) = x at *
    generalize ent b k = z at *
    go_enter Try.func30, Try.ntmps30
    go_wp2_with fail
    rw [HQ.out]
    refine HW.out.mono ?_
    rintro e w' ⟨rfl, rfl⟩
    rw [HH.out, HG.out]
    go_wp2_with fail
    refine (require_yes _).mono ?_
    rintro e w' ⟨rfl, rfl⟩
    go_wp2_with fail
    refine (entryAt_any _ _ (by omega) (by omega)).mono ?_
    rintro e w' ⟨rfl, rfl⟩
    go_wp2_with fail
    refine (Field_any _ _ _ _ (by omega) (by omega) (by omega) hx.1 hx.2).mono ?_
    rintro e w' ⟨rfl, rfl⟩
    rw [HF.out]
    have t1 : decide (z ≤ lim) = false := by rw [decide_eq_false_iff_not]; omega
    go_wp2_with fail
    refine (require_no _).mono ?_
    rintro e w' ⟨rfl, rfl⟩
    unfold malE
    go_wp2
    exact ⟨rfl, rfl, rfl⟩
  · have hH : hasW b ((k / 2 : Nat) : Int) = false := by unfold hasW; simp; omega
    have HH := Lib.hid hH
    clear hr hb hH hq hy hl hn
    go_enter Try.func30, Try.ntmps30
    go_wp2_with fail
    rw [HQ.out]
    refine HW.out.mono ?_
    rintro e w' ⟨rfl, rfl⟩
    rw [HH.out]
    go_wp2_with fail
    refine (require_no _).mono ?_
    rintro e w' ⟨rfl, rfl⟩
    unfold malE
    go_wp2
    exact ⟨rfl, rfl, rfl⟩

theorem readEntry_yi (A : Option Addr) (c : Nat) (b : List Int) (i z : Int) (k : Nat) (lim : Int) (w : World) (hr : Ri w .u8 A b) (hb : Bts b) (hm : b.length ≤ 140737488355328) (hc : b.length ≤ c) (hc2 : c ≤ 9223372036854775807) (hk : k ≤ 100000)
    (h0 : 0 ≤ lim) (h1 : lim < 18446744073709551616) (hy : rdB b k lim = true) (hi : i = k) (hz : ent b k = z) :
    Calls Try.prog 30 #[.slice A b.length c, .int .i64 i, .int .u64 lim] w fun e w' => e = .returned (.int .i64 z) ∧ w = w' := by
  subst hi; subst hz
  exact readEntry_yes A c b k lim w hr hb hm hc hc2 hk h0 h1 hy
theorem readEntry_ni (A : Option Addr) (c : Nat) (b : List Int) (i : Int) (k : Nat) (lim : Int) (w : World) (hr : Ri w .u8 A b) (hb : Bts b) (hm : b.length ≤ 140737488355328) (hc : b.length ≤ c) (hc2 : c ≤ 9223372036854775807) (hk : k ≤ 100000)
    (h0 : 0 ≤ lim) (h1 : lim < 18446744073709551616) (hy : rdB b k lim = false) (hi : i = k) :
    Calls Try.prog 30 #[.slice A b.length c, .int .i64 i, .int .u64 lim] w fun e w' => e = malE ∧ w = w' := by
  subst hi
  exact readEntry_no A c b k lim w hr hb hm hc hc2 hk h0 h1 hy

theorem int_info : (Try.prog.info? 3).map (fun i => (i.zero, i.size, i.bytes)) = some (some (.int .i64 0), 1, 8) := by kernel_rfl

section
attribute [local irreducible] cntN sizesF rdB tabP ent

theorem readTable_any (A : Option Addr) (c : Nat) (b : List Int) (w : World) (hr : Ri w .u8 A b) (hb : Bts b) (hm : b.length ≤ 140737488355328) (hc : b.length ≤ c) (hc2 : c ≤ 9223372036854775807) :
    Calls Try.prog 19 #[.slice A b.length c] w fun e w' => Below w.heap.size w w' ∧ ((tabP b ∧ ∃ v, e = .returned v ∧ Got w' w.heap.size 3 .i64 v (sizesF b)) ∨ (¬ tabP b ∧ e = malE)) := by
  obtain ⟨i0, hi, hz0, hz1, hz2⟩ := info_parts int_info
  have Hr := Lib.hid hr
  have Hb := Lib.hid hb
  clear hr hb
  cases h0 : rdB b 0 511 with
  | false =>
    have HN : Hid (¬ tabP b) := Lib.hid (by unfold tabP; rintro ⟨h, _⟩; rw [h0] at h; cases h)
    have HE := Lib.hid (readEntry_ni A c b 0 0 511 w Hr.out Hb.out hm hc hc2 (by omega) (by omega) (by omega) h0 rfl)
    clear h0
    go_enter Try.func19, Try.ntmps19
    go_wp2_with fail
    refine HE.out.mono ?_
    rintro e w' ⟨rfl, rfl⟩
    unfold malE
    go_wp2
    exact ⟨rfl, Below.refl _ _, .inr ⟨HN.out, rfl⟩⟩
  | true =>
    have hn512 : cntN b ≤ 512 := by have h1 := cntN_eq Hb.out; have h2 := rdB_yes h0; omega
    have hn1 : 1 ≤ cntN b := by have h1 := cntN_eq Hb.out; have h2 := ent_bd Hb.out 0; omega
    have HE := Lib.hid (readEntry_yi A c b 0 ((cntN b : Int) - 1) 0 511 w Hr.out Hb.out hm hc hc2 (by omega) (by omega) (by omega) h0 rfl (by have h1 := cntN_eq Hb.out; omega))
    have H0 := Lib.hid h0
    clear h0
    have HSL : Hid ((sizesF b).length = cntN b) := Lib.hid (sizesF_length b)
    have HSZ : Hid (∀ k, k < cntN b → zat (sizesF b) k = ent b (k + 1)) := Lib.hid (sizesF_zat b)
    go_enter Try.func19, Try.ntmps19
    go_wp2_with fail
    refine HE.out.mono ?_
    rintro e w' ⟨rfl, rfl⟩
    clear HE
    go_wp2_with (at_make; refine wpList_make_full _ rfl _ _ 47 rfl w.heap.size 3 i0 (.int .i64 0) 1 Try.underlying47 hi hz0 hz1 .i64 .i64 _ _ (cntN b) rfl rfl (by omega) (by omega) (by rw [hz2]; omega) (by unfold maxLen; omega) (Nat.le_refl _) ?_; intro w0 hown0 hgrow0)
    have hb0 : Below w.heap.size w w0 := (Below.refl _ _).grown hgrow0 (Nat.le_refl _) (by simp)
    have hg0 := got_made hown0
    have hlz : cntN b = (List.replicate (cntN b) (0 : Int)).length := by simp
    go_loopw [11] (fun i wr => ∃ k : Nat, k ≤ cntN b ∧ i = .int .i64 k ∧ Got wr w.heap.size 3 .i64 (.slice (some ⟨w.heap.size, 0, none⟩) (cntN b) (cntN b)) (splice (List.replicate (cntN b) 0) 0 ((sizesF b).take k)) ∧ (∀ j, j < k → rdB b (j + 1) 536870911 = true) ∧ Below w.heap.size w wr) (fun i _ => cntN b - (intOf i).toNat)
    case atStart => exact ⟨0, by omega, rfl, by rw [List.take_zero, splice_nil]; exact hg0, by intro j hj; omega, hb0⟩
    case round =>
      obtain ⟨k, hk, rfl, hgk, hst, hbk⟩ := hrel
      have HST := Lib.hid hst
      clear hg0 hb0 hown0 hgrow0 hst
      by_cases hlt : k < cntN b
      · have hlk : 0 + ((sizesF b).take k).length ≤ (List.replicate (cntN b) (0 : Int)).length := by rw [List.length_take, HSL.out]; simp; omega
        have HL := Lib.hid (splice_length hlk)
        have hn2 : cntN b = (splice (List.replicate (cntN b) 0) 0 ((sizesF b).take k)).length := by rw [HL.out, ← hlz]
        have hgk' := hgk.cast (congrArg (fun n => Value.slice (some ⟨w.heap.size, 0, none⟩) n (cntN b)) hn2) rfl
        have hcell := hgk'.cell k (by rw [← hn2]; exact hlt)
        have hfree := hgk'.free k
        have HG := Lib.hid hgk'
        have HB := Lib.hid hbk
        have HN := Lib.hid hn2
        have HZ := Lib.hid hlz
        have HRK := Lib.hid (Hr.out.below hbk (Nat.le_refl _))
        clear hgk hgk' hn2 hlz hlk hbk
        have hl : (k : Int) < ((cntN b : Nat) : Int) := by omega
        cases hrd : rdB b (k + 1) 536870911 with
        | false =>
          have HNO : Hid (¬ tabP b) := Lib.hid (by unfold tabP; rintro ⟨_, h, _⟩; rw [h k hlt] at hrd; cases hrd)
          have HE := Lib.hid (readEntry_ni A c b ((k : Int) + 1) (k + 1) 536870911 wr HRK.out Hb.out hm hc hc2 (by omega) (by omega) (by omega) hrd (by omega))
          clear hrd
          go_wp2_with fail
          refine HE.out.mono ?_
          rintro e w' ⟨rfl, rfl⟩
          unfold malE
          go_wp2
          exact ⟨rfl, HB.out, .inr ⟨HNO.out, rfl⟩⟩
        | true =>
          have HE := Lib.hid (readEntry_yi A c b ((k : Int) + 1) (zat (sizesF b) k) (k + 1) 536870911 wr HRK.out Hb.out hm hc hc2 (by omega) (by omega) (by omega) hrd (by omega) (HSZ.out k hlt).symm)
          have HRD := Lib.hid hrd
          clear hrd
          have HSP : Hid ((splice (List.replicate (cntN b) 0) 0 ((sizesF b).take k)).set k (zat (sizesF b) k) = splice (List.replicate (cntN b) 0) 0 ((sizesF b).take (k + 1))) := Lib.hid (by
            have := splice_step (zs := List.replicate (cntN b) 0) (ys := sizesF b) (o := 0) (k := k) (by rw [HSL.out]; simp) (by rw [HSL.out]; exact hlt)
            rw [Nat.zero_add] at this
            exact this)
          go_wp2_with fail
          refine HE.out.mono ?_
          rintro e w' ⟨rfl, rfl⟩
          go_wp2
          go_roundw
          case rel =>
            refine ⟨k + 1, by omega, by go_num, ?_, fun j hj => ?_, HB.out.setCell (Nat.le_refl _) _⟩
            · exact (HG.out.put k (zat (sizesF b) k)).cast (by rw [← HN.out]) HSP.out
            · by_cases e : j = k
              · subst e; exact HRD.out
              · exact HST.out j (by omega)
          case measure => simp [intOf]; omega
      · obtain rfl : k = cntN b := by omega
        have HG : Hid (Got wr w.heap.size 3 .i64 (.slice (some ⟨w.heap.size, 0, none⟩) (cntN b) (cntN b)) (sizesF b)) := Lib.hid (by
          have := hgk
          rw [List.take_of_length_le (by rw [HSL.out]; omega), splice_all (by rw [HSL.out]; simp)] at this
          exact this)
        have HB := Lib.hid hbk
        have HRK := Lib.hid (Hr.out.below hbk (Nat.le_refl _))
        clear hgk hbk hlz
        by_cases hp : cntN b % 2 = 0
        · have t1 : (((cntN b : Nat) : Int) % 2 == 0) = true := by rw [beq_iff_eq]; omega
          cases hrd : rdB b (cntN b + 1) 0 with
          | false =>
            have HNO : Hid (¬ tabP b) := Lib.hid (by unfold tabP; rintro ⟨_, _, h⟩; rw [h hp] at hrd; cases hrd)
            have HE := Lib.hid (readEntry_ni A c b (((cntN b : Nat) : Int) + 1) (cntN b + 1) 0 wr HRK.out Hb.out hm hc hc2 (by omega) (by omega) (by omega) hrd (by omega))
            clear hrd hp
            go_wp2_with fail
            refine HE.out.mono ?_
            rintro e w' ⟨rfl, rfl⟩
            unfold malE
            go_wp2
            exact ⟨rfl, HB.out, .inr ⟨HNO.out, rfl⟩⟩
          | true =>
            have HYES : Hid (tabP b) := Lib.hid (by unfold tabP; exact ⟨H0.out, HST.out, fun _ => hrd⟩)
            have HE := Lib.hid (readEntry_yi A c b (((cntN b : Nat) : Int) + 1) (ent b (cntN b + 1)) (cntN b + 1) 0 wr HRK.out Hb.out hm hc hc2 (by omega) (by omega) (by omega) hrd (by omega) rfl)
            clear hrd hp
            go_wp2_with fail
            refine HE.out.mono ?_
            rintro e w' ⟨rfl, rfl⟩
            go_wp2
            go_ret
            exact ⟨HB.out, .inl ⟨HYES.out, _, rfl, HG.out⟩⟩
        · have t1 : (((cntN b : Nat) : Int) % 2 == 0) = false := by rw [beq_eq_false_iff_ne]; omega
          have HYES : Hid (tabP b) := Lib.hid (by unfold tabP; exact ⟨H0.out, HST.out, fun h => absurd h hp⟩)
          clear hp
          go_wp2
          go_ret
          exact ⟨HB.out, .inl ⟨HYES.out, _, rfl, HG.out⟩⟩
end
end Go.Proofs.Ytmnhodbppadpdaa
