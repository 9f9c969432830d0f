/- The law of layer 7 that far pointers are followed. -/
import Derived.Test.YtgicohajmnoedaaFolNum
import Derived.Test.YtgicohajmnoedaaMsgMix
import Derived.Test.YtgicohajmnoedaaRegion
namespace Go.Proofs.Ytgicohajmnoedaa
open Go.ChangeShapes Go.WideShapes Go.ChangeAt Go.RowKit
set_option linter.unusedVariables false
set_option linter.unusedSimpArgs false
attribute [local simp] AllK KnowsV look Is
def GotF (base : Nat) (l : List Int) : Fact := fun v w => Got w base 23 .u64 v l
theorem stable_got (base : Nat) (l : List Int) : stable (GotF base l) := fun v w w' h hb => Got.below h hb (Nat.le_refl _)
theorem allN_at {P : Nat → Prop} : ∀ {n s : Nat}, AllN P n s → ∀ j, s ≤ j → j < s + n → P j
  | 0, _, _, _, _, h => by omega
  | n + 1, s, h, j, h1, h2 => by
    by_cases e : s = j
    · subst e; exact h.1
    · exact allN_at h.2 j (by omega) (by omega)
theorem blk_drw {w : World} {b : Nat} {cs : Array Value} (h : ∀ o, w.cell? ⟨b, o, none⟩ = cs[o]?) : ∀ o, w.drew.cell? ⟨b, o, none⟩ = cs[o]? := h
attribute [local irreducible] followF fewB hasB wordV msgP padL7 farW encE

theorem wordFar (pa sg : Int) (db : Bool) (w : World) (h1 : 0 ≤ pa) (h2 : pa < 536870912) (h3 : 0 ≤ sg) (h4 : sg < 4294967296) :
    Calls Try.prog 15 #[.agg #[.int .i64 2, .int .i64 0, .int .i64 0, .int .i64 0, .int .i64 0, .int .i64 0, .bool db, .int .i64 pa, .int .u32 sg, .int .u32 0]] w fun e w' => e = .returned (.int .u64 (farW db pa sg)) ∧ Below w.heap.size w w' := by
  rw [← encE_far db pa sg h1 h2 h3 h4]
  exact word7_any 2 0 0 0 0 0 pa sg 0 db w h3 h4 (by decide)

theorem FFollow_at (A : Option Addr) (c n : Nat) (ls : List (List Int)) (s a x y z e0 : Int) (w : World) (hn : n = ls.length) (hs : Sg w A ls) (hw : Wd2 ls) (hm : ls.length ≤ 140737488355328) (hf : ∀ j, (seg ls j).length ≤ 140737488355328)
    (hs0 : -9223372036854775808 ≤ s) (hs1 : s ≤ 9223372036854775807) (ha0 : -9223372036854775808 ≤ a) (ha1 : a ≤ 9223372036854775807) (hq : followF ls s a = ⟨x, y, z, e0⟩) :
    Calls Try.prog 9 #[.slice A n c, .int .i64 s, .int .i64 a] w fun e w' => e = .returned (.tuple #[.int .u64 x, .int .i64 y, .int .i64 z, .int .i64 e0]) ∧ Below w.heap.size w w' := by
  subst hn
  exact FFollow_is A c ls s a x y z e0 w hs hw hm hf hs0 hs1 ha0 ha1 hq

set_option maxHeartbeats 4000000 in
set_option maxRecDepth 100000 in
theorem Followed_main (A : Option Addr) (c : Nat) (ls : List (List Int)) (x sg q tag to bs : Int) (w : World) (hA : Sg w A ls) (hw : Wd2 ls) (hnil : A = none → c = 0) (hlc : ls.length ≤ c) (hcm : c ≤ 9223372036854775807)
    (x0 : 0 ≤ x) (x1 : x < 18446744073709551616) (q0 : 0 ≤ q) (q1 : q < 65536) (t0 : 0 ≤ tag) (t1 : tag < 18446744073709551616) (to0 : 0 ≤ to) (to1 : to < 4294967296) (bs0 : 0 ≤ bs) (bs1 : bs < 4294967296)
    (hf : fewB ls = true) (hl1 : 1 ≤ ls.length) (hx : (x % 4 == 2) = false) :
    Calls Try.prog 4 #[.slice A ls.length c, .int .u64 x, .int .u8 sg, .int .u16 q, .int .u64 tag, .int .u32 to, .int .u32 bs] w fun e w' => e = .returned (.bool true) ∧ Below w.heap.size w w' := by
  have hfit := few_fits hf
  have hl20 : ls.length ≤ 20 := hfit.2
  have HFIT := Lib.hid hfit.1
  have HFEW := Lib.hid hf
  have HX := Lib.hid hx
  have l0 : ((ls.length : Int) == 0) = false := by rw [beq_eq_false_iff_ne]; omega
  clear hfit hf hx
  go_enter Try.func4, Try.ntmps4
  go_wp2_with fail
  refine (awake_any _).mono ?_
  rintro e w1 ⟨rfl, hw1⟩
  have HS1 := Lib.hid (hA.below hw1 (Nat.le_refl _))
  have HB1 := Lib.hid hw1
  have hz1 := hw1.size
  clear hw1
  go_wp2_with fail
  refine (Few_any A c ls _ HS1.out (by omega)).mono ?_
  rintro e w' ⟨rfl, rfl⟩
  rw [HFEW.out]
  go_wp2_with fail
  refine (IsFar_is x false _ x0 x1 HX.out).mono ?_
  rintro e w' ⟨rfl, rfl⟩
  obtain ⟨pp, hpp⟩ := Int.eq_ofNat_of_zero_le (show 0 ≤ q % 3 by omega)
  have hp3 : pp < 3 := by omega
  have HPP := Lib.hid hpp
  clear hpp
  have HN : Hid ((1 : Int) + (ls.length : Int) = (ls.length : Int) + 1) := Lib.hid (Int.add_comm _ _)
  go_wp2_with fail
  rw [HPP.out, HN.out]
  refine (wordFar (pp : Int) ((ls.length : Int) + 1) false _ (by omega) (by omega) (by omega) (by omega)).mono ?_
  rintro e w2 ⟨rfl, hb2⟩
  have HB2 := Lib.hid (HB1.out.trans (hb2.mono hz1))
  have hz2 := hb2.size
  clear hb2 HB1
  go_wp2_with fail
  rw [HN.out]
  refine (wordFar 3 ((ls.length : Int) + 1) true _ (by omega) (by omega) (by omega) (by omega)).mono ?_
  rintro e w3 ⟨rfl, hb3⟩
  have HB3 := Lib.hid (HB2.out.trans (hb3.mono (by omega)))
  have hz3 := hb3.size
  clear hb3 HB2
  have hw3 : w.heap.size ≤ w3.heap.size := by omega
  have HR1 : Hid (SegOK (w3.alloc (.cells #[.int .u64 (farW false pp ((ls.length : Int) + 1)), .int .u64 (farW true 3 ((ls.length : Int) + 1))] 23)) w.heap.size (.slice (some ⟨w3.heap.size, 0, none⟩) 2 2) [farW false pp ((ls.length : Int) + 1), farW true 3 ((ls.length : Int) + 1)]) :=
    Lib.hid (.inl (Got.lit w3 [farW false pp ((ls.length : Int) + 1), farW true 3 ((ls.length : Int) + 1)] hw3 2 rfl (by decide)))
  have HB3' := Lib.hid (HB3.out.alloc hw3 (.cells #[.int .u64 (farW false pp ((ls.length : Int) + 1)), .int .u64 (farW true 3 ((ls.length : Int) + 1))] 23))
  have HA := Lib.hid hA
  clear hA
  go_wp2_with (first
    | (at_builtin; refine wpList_app1S rfl (.tmp 47) (.tmp 64) 22 rfl Try.underlying22 rfl (OwnS.empty _ w.heap.size) HR1.out (w3.heap.size + 1) (by simp) rfl (by simp) (by first | omega | (simp; done) | (simp; omega)) ?_; intro v4 w4 hg4 hb4 _; have HG4 := Lib.hid hg4; have HB4 := Lib.hid (HB3'.out.trans hb4); have hz4 := HB4.out.size; clear hg4 hb4)
    | (at_builtin; refine wpList_appM (W := w) rfl (.tmp 66) (.tmp 67) 22 rfl Try.underlying22 rfl HG4.out rfl HA.out (Nat.le_refl _) HB4.out (by omega) (by simp; omega) (by omega) ?_; intro v5 w5 hg5 hb5 _; have HG5 := Lib.hid hg5; have HB5 := Lib.hid (HB4.out.trans hb5); have hz5 := HB5.out.size; clear hg5 hb5))
  obtain ⟨⟨k, o, d, p, el, cc, db, pa, sg2, lo⟩, hP⟩ : ∃ P, decP tag = P := ⟨_, rfl⟩
  have HP := Lib.hid hP
  refine (RefDecode_any tag _ t0 t1).mono ?_
  rintro e w6 ⟨rfl, hb6⟩
  rw [hP]
  clear hP
  have HG6 := Lib.hid (HG5.out.below hb6 (Nat.le_refl _))
  have HB6 := Lib.hid (HB5.out.trans (hb6.mono (by omega)))
  have hz6 := hb6.size
  have hw6 : w.heap.size ≤ w6.heap.size := by omega
  clear hb6 HG4 HG5 HB4 HB5 HB3 HB3' HR1
  have hs0 : 0 ≤ sg2 ∧ sg2 < 4294967296 ∧ 0 ≤ lo := by
    have hv := decP_vld tag t0 t1
    rw [HP.out] at hv
    unfold Vld at hv
    simp only at hv
    rcases hv with h | h | h | h
    · omega
    · omega
    · omega
    · omega
  obtain ⟨hs0, hs1, hl0⟩ := hs0
  have XD := Lib.hid (blk_new w6 #[.int .i64 k, .int .i64 0, .int .i64 d, .int .i64 p, .int .i64 el, .int .i64 cc, .bool db, .int .i64 pa, .int .u32 sg2, .int .u32 lo] 39)
  simp only
  go_wp2_with fail
  rename_i KK hKK
  refine wp_region_chain (by kernel_rfl) (by kernel_rfl) ?_
  refine chain_val (u := ?_) [5] rfl (by kernel_rfl) trivial (fun ρ wc hbc hcn hk => ?_) ?_; rotate_left
  · obtain ⟨hcn, -⟩ := hcn
    simp at hk
    go_simp
    rfl
  refine chain_val (u := .int .u32 (to % 2147483648)) [72] rfl (by kernel_rfl) trivial (fun ρ wc hbc hcn hk => ?_) ?_
  · obtain ⟨hcn, -⟩ := hcn
    simp at hk
    go_simp
    exact Int.tmod_eq_emod_of_nonneg to0
  refine chain_val (u := ?_) [6] rfl (by kernel_rfl) trivial (fun ρ wc hbc hcn hk => ?_) ?_; rotate_left
  · obtain ⟨hcn, -⟩ := hcn
    simp at hk
    go_simp
    rfl
  refine chain_val (u := .int .u32 (bs % 536870912)) [74] rfl (by kernel_rfl) trivial (fun ρ wc hbc hcn hk => ?_) ?_
  · obtain ⟨hcn, -⟩ := hcn
    simp at hk
    go_simp
    exact Int.tmod_eq_emod_of_nonneg bs0
  refine chain_val (u := .int .i64 (bs % 536870912)) [75] rfl (by kernel_rfl) trivial (fun ρ wc hbc hcn hk => ?_) ?_
  · obtain ⟨hcn, -⟩ := hcn
    simp at hk
    go_simp
    rw [IntKind.wrap_i64]
    omega
  refine chain_val (u := ?_) [73, 76] rfl (by kernel_rfl) trivial (fun ρ wc hbc hcn hk => ?_) ?_; rotate_left
  · obtain ⟨hcn, -⟩ := hcn
    simp at hk
    go_simp
    rfl
  refine chain_call (T := Is (.int .u64 (farW false (bs % 536870912) (to % 2147483648)))) 15 [77] rfl (by kernel_rfl) trivial (stable_is _) (fun ρ wc hbc hcn hk => ?_) ?_
  · obtain ⟨hcn, hfn⟩ := hcn
    simp at hk
    refine ⟨_, by go_simp; rfl, ?_⟩
    refine (wordFar (bs % 536870912) (to % 2147483648) false _ (by omega) (by omega) (by omega) (by omega)).mono ?_
    rintro e w' ⟨rfl, hbq⟩
    refine ⟨_, rfl, ?_, hbq⟩
    unfold Is
    rfl
  refine chain_val (u := ?_) [16] rfl (by kernel_rfl) trivial (fun ρ wc hbc hcn hk => ?_) ?_; rotate_left
  · obtain ⟨hcn, -⟩ := hcn
    simp at hk
    have hxx := blk_below (blk_drw XD.out) hbc (by simp)
    go_simp
    rfl
  refine chain_call (T := Is (.int .u64 (encE ⟨k, 0, d, p, el, cc, db, pa, sg2, lo⟩))) 15 [79] rfl (by kernel_rfl) trivial (stable_is _) (fun ρ wc hbc hcn hk => ?_) ?_
  · obtain ⟨hcn, hfn⟩ := hcn
    simp at hk
    refine ⟨_, by go_simp; rfl, ?_⟩
    refine (word7_any k 0 d p el cc pa sg2 lo db _ hs0 hs1 hl0).mono ?_
    rintro e w' ⟨rfl, hbq⟩
    refine ⟨_, rfl, ?_, hbq⟩
    unfold Is
    rfl
  refine chain_new (T := GotF (w6.heap.size + 1) [0, 0, 0, farW false (bs % 536870912) (to % 2147483648), encE ⟨k, 0, d, p, el, cc, db, pa, sg2, lo⟩]) [78, 80] rfl (by kernel_rfl) trivial (stable_got _ _) (fun ρ wc hbc hcn hk => ?_) ?_
  · obtain ⟨hcn, hfn⟩ := hcn
    simp at hk
    have hsz := hbc.size
    try simp at hsz
    refine ⟨.slice (some ⟨wc.heap.size, 0, none⟩) 5 5, wc.alloc (.cells #[.int .u64 0, .int .u64 0, .int .u64 0, .int .u64 (farW false (bs % 536870912) (to % 2147483648)), .int .u64 (encE ⟨k, 0, d, p, el, cc, db, pa, sg2, lo⟩)] 23), by go_simp, ?_, (Below.refl _ _).alloc (Nat.le_refl _) _⟩
    exact Got.lit wc [0, 0, 0, farW false (bs % 536870912) (to % 2147483648), encE ⟨k, 0, d, p, el, cc, db, pa, sg2, lo⟩] (by omega) 5 rfl (by decide)
  refine chain_new (T := GotF (w6.heap.size + 1) [0, 0, 0, farW false (bs % 536870912) (to % 2147483648), encE ⟨k, 0, d, p, el, cc, db, pa, sg2, lo⟩]) [81] rfl (by kernel_rfl) trivial (stable_got _ _) (fun ρ wc hbc hcn hk => ?_) ?_
  · obtain ⟨hcn, hfn⟩ := hcn
    simp at hk
    exact ⟨_, wc, by go_simp, hk, Below.refl _ _⟩
  refine chain_end_lit 186 rfl (fun ff w7 hb7 hk => ?_)
  refine hKK _ _ ?_
  clear hKK KK
  have h17 := allN_at hk 17 (by omega) (by omega)
  simp at hk
  simp [KnowsV, look] at h17
  simp [AllN] at hk
  simp only [frameL, hk]
  have HB7 : Hid (Below w.heap.size w w7) := Lib.hid ((bel_drew (HB6.out.alloc hw6 (.cells #[.int .i64 k, .int .i64 0, .int .i64 d, .int .i64 p, .int .i64 el, .int .i64 cc, .bool db, .int .i64 pa, .int .u32 sg2, .int .u32 lo] 39))).trans (hb7.mono (by simp; omega)))
  have HB67 : Hid (Below w6.heap.size w6 w7) := Lib.hid ((bel_drew ((Below.refl w6.heap.size w6).alloc (Nat.le_refl _) (.cells #[.int .i64 k, .int .i64 0, .int .i64 d, .int .i64 p, .int .i64 el, .int .i64 cc, .bool db, .int .i64 pa, .int .u32 sg2, .int .u32 lo] 39))).trans (hb7.mono (by simp)))
  have XD7 := Lib.hid (blk_below (blk_drw XD.out) hb7 (by simp))
  have hz7 := hb7.size
  try simp at hz7
  clear hb7 hk HB6 XD
  generalize ff 17 = v17 at *
  have h17' : Got w7 (w6.heap.size + 1) 23 .u64 v17 [0, 0, 0, farW false (bs % 536870912) (to % 2147483648), encE ⟨k, 0, d, p, el, cc, db, pa, sg2, lo⟩] := h17
  obtain ⟨A17, c17, rfl, hq1, hq2, -, -⟩ := h17'.full
  obtain ⟨g, rfl, hgb, hgl, -⟩ := h17'.addr (by simp)
  have hcell := h17'.cell pp (by simp; omega)
  have hfree := h17'.free pp
  have HG17 := Lib.hid h17'
  have hq3 : q % 3 = (pp : Int) := HPP.out
  clear h17 h17'
  have HG8 : Hid (OwnS (w7.setCell ⟨g, pp, none⟩ (.int .u64 x)) w.heap.size v5 ([] ++ [[farW false pp ((ls.length : Int) + 1), farW true 3 ((ls.length : Int) + 1)]] ++ ls)) := Lib.hid (by
    have hbx : Below w6.heap.size w6 (w7.setCell ⟨g, pp, none⟩ (.int .u64 x)) := HB67.out.setCell (by show w6.heap.size ≤ g; omega) _
    exact HG6.out.below hbx (Nat.le_refl _))
  have HS8 : Hid (SegOK (w7.setCell ⟨g, pp, none⟩ (.int .u64 x)) w.heap.size (.slice (some ⟨g, 0, none⟩) 5 c17) (padL7 x (farW false (bs % 536870912) (to % 2147483648)) (encE ⟨k, 0, d, p, el, cc, db, pa, sg2, lo⟩) pp)) := Lib.hid (.inl (by
    have h1 := (HG17.out.put pp x).mono (show w.heap.size ≤ w6.heap.size + 1 by omega)
    unfold padL7
    exact h1))
  have HB8 : Hid (Below w.heap.size w (w7.setCell ⟨g, pp, none⟩ (.int .u64 x))) := Lib.hid (HB7.out.setCell (by show w.heap.size ≤ g; omega) _)
  have XD8 : Hid (∀ o, (w7.setCell ⟨g, pp, none⟩ (.int .u64 x)).cell? ⟨w6.heap.size, o, none⟩ = (#[.int .i64 k, .int .i64 0, .int .i64 d, .int .i64 p, .int .i64 el, .int .i64 cc, .bool db, .int .i64 pa, .int .u32 sg2, .int .u32 lo] : Array Value)[o]?) :=
    Lib.hid (fun o => (World.cell?_setCell_other w7 ⟨g, pp, none⟩ ⟨w6.heap.size, o, none⟩ _ (by intro e; injection e with e1; omega)).trans (XD7.out o))
  clear XD7
  have hapart : v5.ownBlock ≠ some w6.heap.size := fun e => by have := (HG6.out.lt _ e).2; omega
  have HAP := Lib.hid hapart
  clear hapart HG6 HB67 HB7
  go_wp2_with (at_builtin; refine wpList_app1S rfl (.tmp 87) (.tmp 89) 22 rfl Try.underlying22 rfl HG8.out HS8.out w7.heap.size (by simp) rfl (by simp; omega) (by simp; omega) ?_; intro v9 w9 hg9 hb9 hk9; have HG9 := Lib.hid hg9; have HB9 := Lib.hid (HB8.out.trans hb9); have hz9 := HB9.out.size; have HK9 := Lib.hid hk9; obtain ⟨A9, c9, rfl, hq91, hq92, hsg9⟩ := hg9.slice; have HS9 := Lib.hid hsg9; clear hg9 hb9 hk9 hsg9)
  have hvd : Vld ⟨k, 0, d, p, el, cc, db, pa, sg2, lo⟩ := by
    have hv := decP_vld tag t0 t1
    rw [HP.out] at hv
    exact vld_zero hv
  have HTD := Lib.hid (decP_encE hvd)
  have btd := encE_bd ⟨k, 0, d, p, el, cc, db, pa, sg2, lo⟩
  have bt1 := farW_bd false (bs % 536870912) (to % 2147483648) (by omega) (by omega) (by omega) (by omega)
  have HW7 := Lib.hid (word7_any k 0 d p el cc pa sg2 lo db)
  have XD9 : Hid (∀ o, w9.cell? ⟨w6.heap.size, o, none⟩ = (#[.int .i64 k, .int .i64 0, .int .i64 d, .int .i64 p, .int .i64 el, .int .i64 cc, .bool db, .int .i64 pa, .int .u32 sg2, .int .u32 lo] : Array Value)[o]?) :=
    Lib.hid (fun o => (World.cell?_of_block (w := w7.setCell ⟨g, pp, none⟩ (.int .u64 x)) (a := ⟨w6.heap.size, o, none⟩) (HK9.out w6.heap.size (by simp; omega) HAP.out)).trans (XD8.out o))
  have hlt9 : w6.heap.size < w9.heap.size := World.block_lt_of_cell? w9 ⟨w6.heap.size, 0, none⟩ (XD9.out 0)
  generalize hTD : encE ⟨k, 0, d, p, el, cc, db, pa, sg2, lo⟩ = TD at *
  generalize hT1 : farW false (bs % 536870912) (to % 2147483648) = T1 at *
  have HT1 := Lib.hid hT1
  clear hTD hT1
  have HM9 : Hid (Sg w9 A9 (msgP ls x T1 TD pp)) := Lib.hid (by unfold msgP; exact HS9.out)
  have HMW := Lib.hid (msgP_wd hw x T1 TD pp (by omega) hp3 ⟨x0, x1⟩ bt1 btd)
  have HMS := Lib.hid (msgP_seg HFIT.out x T1 TD pp)
  have HML : Hid (ls.length + 1 + 1 = (msgP ls x T1 TD pp).length) := Lib.hid (by rw [msgP_length])
  have hx2 : x % 4 ≠ 2 := by have := HX.out; simpa using this
  have HF1 := Lib.hid (fol_one ls x T1 TD pp hp3 hx2 (by omega))
  have HF2 := Lib.hid (fol_pad ls x T1 TD pp hp3 hx2)
  have HF3 := Lib.hid (fol_two ls x TD pp (to % 2147483648) (bs % 536870912) hp3 (by omega) btd.1 (by omega) (by omega))
  rw [HT1.out, HTD.out] at HF3
  have hML : (msgP ls x T1 TD pp).length ≤ 140737488355328 := by rw [msgP_length]; omega
  have HMLL := Lib.hid hML
  clear hML HS9 HG9 HK9 HAP XD8 HS8 HG8 HG17 hcell hfree hx2 HS1
  refine (FFollow_at A9 c9 (ls.length + 1 + 1) (msgP ls x T1 TD pp) 0 0 x ((ls.length : Int) + 1) ((pp : Int) + 1) 0 _ HML.out HM9.out HMW.out HMLL.out HMS.out (by omega) (by omega) (by omega) (by omega) HF1.out).mono ?_
  rintro e w10 ⟨rfl, hb10⟩
  have HM10 := Lib.hid (HM9.out.below hb10 (Nat.le_refl _))
  have HB10 := Lib.hid (HB9.out.trans (hb10.mono hz9))
  have XD10 := Lib.hid (blk_below XD9.out hb10 hlt9)
  have hz10 := hb10.size
  clear hb10 HM9 HB9 XD9 HF1
  go_wp2_with fail
  rw [HN.out, HPP.out]
  refine (FFollow_at A9 c9 (ls.length + 1 + 1) (msgP ls x T1 TD pp) ((ls.length : Int) + 1) (pp : Int) x ((ls.length : Int) + 1) ((pp : Int) + 1) 0 _ HML.out HM10.out HMW.out HMLL.out HMS.out (by omega) (by omega) (by omega) (by omega) HF2.out).mono ?_
  rintro e w11 ⟨rfl, hb11⟩
  have HM11 := Lib.hid (HM10.out.below hb11 (Nat.le_refl _))
  have HB11 := Lib.hid (HB10.out.trans (hb11.mono (by omega)))
  have XD11 := Lib.hid (blk_below XD10.out hb11 (by omega))
  have hz11 := hb11.size
  clear hb11 HM10 HB10 XD10 HF2
  have tA : ((ls.length : Int) + 1 != 1 + (ls.length : Int)) = false := by rw [bne_eq_false_iff_eq]; omega
  by_cases hk : 1 < k
  · have HF3' : Hid (followF (msgP ls x T1 TD pp) 0 1 = ⟨0, 0, 0, 3⟩) := Lib.hid (by rw [HF3.out, if_pos (.inl hk)]; rfl)
    have tK : decide (1 < k) = true := decide_eq_true hk
    go_wp2_with fail
    refine (FFollow_at A9 c9 (ls.length + 1 + 1) (msgP ls x T1 TD pp) 0 1 0 0 0 3 _ HML.out HM11.out HMW.out HMLL.out HMS.out (by omega) (by omega) (by omega) (by omega) HF3'.out).mono ?_
    rintro e w12 ⟨rfl, hb12⟩
    have HB12 := Lib.hid (HB11.out.trans (hb12.mono (by omega)))
    have xd := blk_below XD11.out hb12 (by omega)
    clear hb12
    go_wp2
    go_ret
    exact ⟨rfl, HB12.out⟩
  · have tK : decide (1 < k) = false := by rw [decide_eq_false_iff_not]; exact hk
    have HF3' : Hid (followF (msgP ls x T1 TD pp) 0 1 = ⟨TD, to % 2147483648, bs % 536870912, 0⟩) := Lib.hid (by rw [HF3.out, if_neg (by rintro (h | h); exact hk h; exact h rfl)])
    go_wp2_with fail
    refine (FFollow_at A9 c9 (ls.length + 1 + 1) (msgP ls x T1 TD pp) 0 1 TD (to % 2147483648) (bs % 536870912) 0 _ HML.out HM11.out HMW.out HMLL.out HMS.out (by omega) (by omega) (by omega) (by omega) HF3'.out).mono ?_
    rintro e w12 ⟨rfl, hb12⟩
    have HB12 := Lib.hid (HB11.out.trans (hb12.mono (by omega)))
    have xd := blk_below XD11.out hb12 (by omega)
    have hz12 := hb12.size
    clear hb12
    go_wp2_with fail
    refine (HW7.out _ hs0 hs1 hl0).mono ?_
    rintro e w13 ⟨rfl, hb13⟩
    have HB13 := Lib.hid (HB12.out.trans (hb13.mono (by omega)))
    clear hb13
    go_wp2
    go_ret
    exact ⟨rfl, HB13.out⟩

set_option maxHeartbeats 4000000 in
set_option maxRecDepth 100000 in
theorem Followed7_walk (A : Option Addr) (c : Nat) (ls : List (List Int)) (x sg q tag to bs : Int) (w : World) (hA : Sg w A ls) (hw : Wd2 ls) (hnil : A = none → c = 0) (hlm : ls.length ≤ 9223372036854775807) (hlc : ls.length ≤ c) (hcm : c ≤ 9223372036854775807)
    (x0 : 0 ≤ x) (x1 : x < 18446744073709551616) (q0 : 0 ≤ q) (q1 : q < 65536) (t0 : 0 ≤ tag) (t1 : tag < 18446744073709551616) (to0 : 0 ≤ to) (to1 : to < 4294967296) (bs0 : 0 ≤ bs) (bs1 : bs < 4294967296) :
    Calls Try.prog 4 #[.slice A ls.length c, .int .u64 x, .int .u8 sg, .int .u16 q, .int .u64 tag, .int .u32 to, .int .u32 bs] w fun e w' => e = .returned (.bool true) ∧ Below w.heap.size w w' := by
  cases hf : fewB ls with
  | false =>
    have HF := Lib.hid hf
    clear hf
    go_enter Try.func4, Try.ntmps4
    go_wp2_with fail
    refine (awake_any _).mono ?_
    rintro e w1 ⟨rfl, hw1⟩
    have HS1 := Lib.hid (hA.below hw1 (Nat.le_refl _))
    go_wp2_with fail
    refine (Few_any A c ls _ HS1.out hlm).mono ?_
    rintro e w' ⟨rfl, rfl⟩
    rw [HF.out]
    go_wp2_with fail
    refine (awake_any _).mono ?_
    rintro e w2 ⟨rfl, hw2⟩
    go_wp2
    go_ret
    exact ⟨rfl, bel_on hw1 hw2⟩
  | true =>
    have hl20 := (few_fits hf).2
    by_cases hl1 : ls.length = 0
    · have HF := Lib.hid hf
      have l0 : ((ls.length : Int) == 0) = true := by rw [beq_iff_eq]; omega
      clear hf hl1
      go_enter Try.func4, Try.ntmps4
      go_wp2_with fail
      refine (awake_any _).mono ?_
      rintro e w1 ⟨rfl, hw1⟩
      have HS1 := Lib.hid (hA.below hw1 (Nat.le_refl _))
      go_wp2_with fail
      refine (Few_any A c ls _ HS1.out hlm).mono ?_
      rintro e w' ⟨rfl, rfl⟩
      rw [HF.out]
      go_wp2_with fail
      refine (awake_any _).mono ?_
      rintro e w2 ⟨rfl, hw2⟩
      go_wp2
      go_ret
      exact ⟨rfl, bel_on hw1 hw2⟩
    · cases hx : (x % 4 == 2) with
      | false => exact Followed_main A c ls x sg q tag to bs w hA hw hnil hlc hcm x0 x1 q0 q1 t0 t1 to0 to1 bs0 bs1 hf (by omega) hx
      | true =>
        have HF := Lib.hid hf
        have HX := Lib.hid hx
        have l0 : ((ls.length : Int) == 0) = false := by rw [beq_eq_false_iff_ne]; omega
        clear hf hl1 hx
        go_enter Try.func4, Try.ntmps4
        go_wp2_with fail
        refine (awake_any _).mono ?_
        rintro e w1 ⟨rfl, hw1⟩
        have HS1 := Lib.hid (hA.below hw1 (Nat.le_refl _))
        go_wp2_with fail
        refine (Few_any A c ls _ HS1.out hlm).mono ?_
        rintro e w' ⟨rfl, rfl⟩
        rw [HF.out]
        go_wp2_with fail
        refine (IsFar_is x true _ x0 x1 HX.out).mono ?_
        rintro e w' ⟨rfl, rfl⟩
        go_wp2_with fail
        refine (awake_any _).mono ?_
        rintro e w2 ⟨rfl, hw2⟩
        go_wp2
        go_ret
        exact ⟨rfl, bel_on hw1 hw2⟩
end Go.Proofs.Ytgicohajmnoedaa
