/- What the functions of package listsize do, each by a contract (by the code at a4747f4). -/
import Derived.Test.YtkipmljmolaobaaDoorRef06
import Derived.Test.YtkipmljmolaobaaDoorTab
import Derived.Lib.SliceRun
namespace Go.Proofs.YtkipmljmolaobaaDoor
open Go.ChangeShapes Go.WideShapes Go.ChangeAt Go.RowKit
set_option linter.unusedVariables false
set_option linter.unusedSimpArgs false

theorem elemZ_bits (k : Nat) (h : k ≤ 7) : elemZ.getD k 0 = bitsI k := by
  rcases (by omega : k = 0 ∨ k = 1 ∨ k = 2 ∨ k = 3 ∨ k = 4 ∨ k = 5 ∨ k = 6 ∨ k = 7) with h | h | h | h | h | h | h | h <;> subst h <;> rfl

theorem LBits_any (e : Int) (w : World) (hT : TabOK w) (h0 : 0 ≤ e) (h7 : e ≤ 7) : Calls Tryd.prog 9 #[.int .i64 e] w fun r w' => r = .returned (.int .i64 (bitsI e)) ∧ w = w' := by
  obtain ⟨k, rfl⟩ := Int.eq_ofNat_of_zero_le h0
  have hk : k ≤ 7 := by omega
  have hc := hT k (by omega)
  rw [elemZ_bits k hk] at hc
  have HT := Lib.hid hT
  generalize bitsI k = x at *
  clear hT
  go_enter Tryd.func9, Tryd.ntmps9
  go_wp2
  go_ret
  exact ⟨rfl, rfl⟩

theorem totalBits_any (e c : Int) (w : World) (hT : TabOK w) (h0 : 0 ≤ e) (h7 : e ≤ 7) (hc : 0 ≤ c) (h1 : c ≤ 536870911) : Calls Tryd.prog 20 #[.int .i64 e, .int .i64 c] w fun r w' => r = .returned (.int .i64 (bitsI e * c)) ∧ w = w' := by
  have HB := Lib.hid (LBits_any e w hT h0 h7)
  obtain ⟨m0, m1⟩ := bitsI_mul e c hc
  clear hT
  generalize bitsI e = x at *
  go_enter Tryd.func20, Tryd.ntmps20
  go_wp2_with fail
  refine HB.out.mono ?_
  rintro e w' ⟨rfl, rfl⟩
  go_wp2
  go_ret
  exact ⟨rfl, rfl⟩

theorem units_any (e c s : Int) (w : World) (hT : TabOK w) (h0 : 0 ≤ e) (h7 : e ≤ 7) (hc : 0 ≤ c) (h1 : c ≤ 536870911) (hs : s = 8 ∨ s = 64) : Calls Tryd.prog 18 #[.int .i64 e, .int .i64 c, .int .i64 s] w fun r w' => r = .returned (.int .i64 ((bitsI e * c + s - 1) / s)) ∧ w = w' := by
  have HB := Lib.hid (totalBits_any e c w hT h0 h7 hc h1)
  obtain ⟨m0, m1⟩ := bitsI_mul e c hc
  clear hT
  generalize bitsI e * c = x at *
  rcases hs with rfl | rfl
  all_goals
    go_enter Tryd.func18, Tryd.ntmps18
    go_wp2_with fail
    refine HB.out.mono ?_
    rintro e w' ⟨rfl, rfl⟩
    go_wp2
    go_ret
    exact ⟨rfl, rfl⟩

theorem LWords_any (e c : Int) (w : World) (hT : TabOK w) (h0 : 0 ≤ e) (h7 : e ≤ 7) (hc : 0 ≤ c) (h1 : c ≤ 536870911) : Calls Tryd.prog 11 #[.int .i64 e, .int .i64 c] w fun r w' => r = .returned (.int .i64 (wordsI e c)) ∧ w = w' := by
  by_cases he : e = 7
  · subst he
    have HW : Hid (wordsI 7 c = 1 + c) := Lib.hid (by unfold wordsI; rw [if_pos rfl]; omega)
    clear hT
    go_enter Tryd.func11, Tryd.ntmps11
    go_wp2
    go_ret
    exact ⟨by rw [HW.out]; rfl, rfl⟩
  · have HW : Hid (wordsI e c = (bitsI e * c + 64 - 1) / 64) := Lib.hid (by unfold wordsI; rw [if_neg he]; omega)
    have HB := Lib.hid (units_any e c 64 w hT h0 h7 hc h1 (.inr rfl))
    have he2 : (e == 7) = false := beq_eq_false_iff_ne.2 he
    clear hT he
    rw [← HW.out] at HB
    generalize wordsI e c = x at *
    go_enter Tryd.func11, Tryd.ntmps11
    go_wp2_with fail
    refine HB.out.mono ?_
    rintro e w' ⟨rfl, rfl⟩
    go_wp2
    go_ret
    exact ⟨rfl, rfl⟩

theorem LBytes_any (e c : Int) (w : World) (hT : TabOK w) (h0 : 0 ≤ e) (h5 : e ≤ 5) (hc : 0 ≤ c) (h1 : c ≤ 536870911) : Calls Tryd.prog 13 #[.int .i64 e, .int .i64 c] w fun r w' => r = .returned (.int .i64 (bytesI e c)) ∧ w = w' := by
  have HW : Hid (bytesI e c = (bitsI e * c + 8 - 1) / 8) := Lib.hid (by unfold bytesI; omega)
  have HB := Lib.hid (units_any e c 8 w hT h0 (by omega) hc h1 (.inl rfl))
  clear hT
  rw [← HW.out] at HB
  generalize bytesI e c = x at *
  go_enter Tryd.func13, Tryd.ntmps13
  go_wp2_with fail
  refine HB.out.mono ?_
  rintro e w' ⟨rfl, rfl⟩
  go_wp2
  go_ret
  exact ⟨rfl, rfl⟩

/-! ## Trim -/
set_option maxRecDepth 100000 in
theorem mask8_fin : ∀ q : Fin 8, ∀ z : Fin 256, bits .and .u8 (z.val : Int) ((2 ^ q.val - 1) % 256) = (z.val : Int) % p2 q.val := by decide +kernel
theorem mask8 (q : Nat) (h : q < 8) (z : Int) (h0 : 0 ≤ z) (h1 : z < 256) : bits .and .u8 z ((2 ^ q - 1) % 256) = z % p2 q := by
  have := mask8_fin ⟨q, h⟩ ⟨z.toNat, by omega⟩
  simpa [Int.toNat_of_nonneg h0] using this

theorem bytesClone_any (A : Option Addr) (cap : Nat) (b : List Int) (w : World) (hr : Ri w .u8 A b) (hm : b.length ≤ 140737488355328) (hnil : A = none → cap = 0) (hc : b.length ≤ cap) (n : Nat) (hn : n = b.length) :
    Calls Tryd.prog 19 #[.slice A n cap] w fun e w' => ∃ r, e = .returned r ∧ Got w' w.heap.size 5 .u8 r b ∧ Below w.heap.size w w' := by
  obtain ⟨i0, hi, hz0, hz1, hz2⟩ := info_parts int8_info
  have q := fun (w : World) (a : Option Addr) (n c n' c' : Nat) => Lib.run_eql_slice_nil (P := Tryd.prog) w _ _ a n c n' c' Tryd.underlying22
  cases A with
  | none =>
    have hz := hnil rfl
    have h0 : b = [] := List.eq_nil_of_length_eq_zero (by omega)
    subst h0
    subst hz
    subst hn
    go_enter Tryd.func19, Tryd.ntmps19
    go_wp2
    go_ret
    exact ⟨_, rfl, Got.empty _ _ _ _, Below.refl _ _⟩
  | some a =>
    have HA1 := Lib.hid (hr.alloc (.cells #[] 5))
    have HN := Lib.hid hn
    have hnb : n ≤ 140737488355328 := by omega
    clear hn hr
    go_enter Tryd.func19, Tryd.ntmps19
    go_wp2_with (at_builtin; refine wpList_appNn n rfl (.tmp 5) (.tmp 6) 22 rfl Tryd.underlying22 hi hz0 hz1 hz2 HN.out rfl (Got.empty_made w 5 .u8 (base := w.heap.size) (Nat.le_refl _)) rfl HA1.out (fun h => by cases h) (by unfold maxLen; simp; omega) (by simp; omega) (by simp) ?_; intro v2 w2 hg2 hb2)
    go_ret
    exact ⟨_, rfl, hg2, ((Below.refl _ _).alloc (Nat.le_refl _) _).trans hb2⟩

theorem trimL_plain {b : List Int} {e c : Int} {n : Nat} (hn : bytesI e c = n) (hnb : n ≤ b.length) (he : 0 ≤ e) (he5 : e ≤ 5) (hc : 0 ≤ c) (hu : bitsI e * c % 8 = 0) : trimL b e c = b.take n := by
  apply ext_zat
  · rw [trimL_length, hn, List.length_take]; omega
  · intro i hi
    rw [trimL_length, hn] at hi
    have hi2 : i < n := by omega
    rw [trimL_zat _ _ _ _ (by rw [hn]; omega), zat_take _ _ _ hi2]
    unfold trimAt
    rw [if_neg]
    rintro ⟨rfl, h⟩
    unfold bytesI at hn
    have h4 : bitsI 1 = 1 := rfl
    rw [h4] at hn hu
    omega
theorem trimL_last {b : List Int} {e c : Int} {n : Nat} {q : Nat} (hn : bytesI e c = n) (hnb : n ≤ b.length) (he : 0 ≤ e) (he5 : e ≤ 5) (hc : 0 ≤ c) (hu : bitsI e * c % 8 = q) (hq : 0 < q) :
    1 ≤ n ∧ q < 8 ∧ trimL b e c = (b.take n).set (n - 1) (zat b (n - 1) % p2 q) := by
  have h1 : e = 1 := by
    rcases (by omega : e = 0 ∨ e = 1 ∨ e = 2 ∨ e = 3 ∨ e = 4 ∨ e = 5) with h | h | h | h | h | h <;> subst h
    · rw [show bitsI 0 = 0 from rfl] at hu; omega
    · rfl
    · rw [show bitsI 2 = 8 from rfl] at hu; omega
    · rw [show bitsI 3 = 16 from rfl] at hu; omega
    · rw [show bitsI 4 = 32 from rfl] at hu; omega
    · rw [show bitsI 5 = 64 from rfl] at hu; omega
  subst h1
  have hn' := hn
  unfold bytesI at hn'
  have h4 : bitsI 1 = 1 := rfl
  rw [h4] at hn' hu
  refine ⟨by omega, by omega, ?_⟩
  apply ext_zat
  · rw [trimL_length, hn, List.length_set, List.length_take]; omega
  · intro i hi
    rw [trimL_length, hn] at hi
    have hi2 : i < n := by omega
    rw [trimL_zat _ _ _ _ (by rw [hn]; omega)]
    unfold trimAt
    by_cases hl : i = n - 1
    · subst hl
      rw [if_pos ⟨rfl, by omega⟩, show c - 8 * ((n - 1 : Nat) : Int) = q by omega]
      simp [zat, List.getD_eq_getElem?_getD, List.getElem?_set, show n - 1 < n by omega, show n - 1 < b.length by omega, show n - 1 < min n b.length by omega]
    · rw [if_neg (by rintro ⟨-, h⟩; omega)]
      simp [zat, List.getD_eq_getElem?_getD, List.getElem?_set, show n - 1 ≠ i by omega, hi2]

attribute [local irreducible] p2

set_option maxRecDepth 100000 in
theorem LTrim_any (A : Option Addr) (cp : Nat) (b : List Int) (e c : Int) (w : World) (hT : TabOK w) (hr : Ri w .u8 A b) (hb : Bts b) (hnil : A = none → cp = 0) (hm : b.length ≤ 1000000) (hc : b.length ≤ cp) (hcm : cp ≤ 9223372036854775807) (he0 : 0 ≤ e) (he5 : e ≤ 5) (h0 : 0 ≤ c) (h1 : c ≤ 536870911) (hl : bytesI e c ≤ b.length) :
    Calls Tryd.prog 16 #[.int .i64 e, .int .i64 c, .slice A b.length cp] w fun r w' => ∃ v, r = .returned v ∧ Got w' w.heap.size 5 .u8 v (trimL b e c) ∧ Below w.heap.size w w' := by
  obtain ⟨m0, m1⟩ := bitsI_mul e c h0
  have hB : 0 ≤ bytesI e c := by unfold bytesI; omega
  obtain ⟨n, hn⟩ := Int.eq_ofNat_of_zero_le hB
  have hnb : n ≤ b.length := by omega
  have hnb2 : (n : Int) ≤ (b.length : Int) := by omega
  have HB := Lib.hid (LBytes_any e c w hT he0 he5 h0 h1)
  have HTB := Lib.hid (fun w' (h : TabOK w') => totalBits_any e c w' h he0 (by omega) h0 h1)
  rw [hn] at HB
  have HT := Lib.hid hT
  have HTK : Hid (n = (b.take n).length) := Lib.hid (by rw [List.length_take]; omega)
  have HCL := Lib.hid (bytesClone_any A cp (b.take n) w (hr.take n) (by rw [List.length_take]; omega) hnil (by rw [List.length_take]; omega) n HTK.out)
  obtain ⟨q, hq⟩ : ∃ q : Nat, bitsI e * c % 8 = q := ⟨(bitsI e * c % 8).toNat, by omega⟩
  have HQ := Lib.hid hq
  have HP := Lib.hid (fun h : q = 0 => trimL_plain hn hnb he0 he5 h0 (by rw [hq, h]; rfl))
  have HLAST := Lib.hid (fun h : 0 < q => trimL_last hn hnb he0 he5 h0 hq h)
  have Hb := Lib.hid hb
  have hcase : (∃ g, A = some g) ∨ (A = none ∧ cp = 0 ∧ n = 0) := by
    cases A with
    | none => have := hnil rfl; exact .inr ⟨rfl, this, by omega⟩
    | some g => exact .inl ⟨g, rfl⟩
  have hq8 : q < 8 := by omega
  clear hT hr hb hl hn hB hq hnil
  generalize trimL b e c = T at *
  generalize bitsI e * c = x at *
  rcases hcase with ⟨g, rfl⟩ | ⟨rfl, rfl, rfl⟩
  · have hz : q = 0 ∨ 0 < q := by omega
    rcases hz with hz | hz
    · have HR := Lib.hid (HP.out hz)
      have tq : (0 : Int) < x % 8 ↔ False := by rw [HQ.out]; simp; omega
      clear hz HP HLAST
      go_enter Tryd.func16, Tryd.ntmps16
      go_wp2_with fail
      refine HB.out.mono ?_
      rintro e w' ⟨rfl, rfl⟩
      go_wp2_with fail
      refine HCL.out.mono ?_
      rintro e w1 ⟨v, rfl, hg, hb1⟩
      have HW1 := Lib.hid hb1
      clear hb1
      go_wp2_with fail
      refine (HTB.out _ (HT.out.on HW1.out)).mono ?_
      rintro e w' ⟨rfl, rfl⟩
      go_wp2
      go_ret
      exact ⟨_, rfl, hg.cast rfl HR.out.symm, HW1.out⟩
    · obtain ⟨hn1, -, hR⟩ := HLAST.out hz
      obtain ⟨m, rfl⟩ : ∃ m, n = m + 1 := ⟨n - 1, by omega⟩
      rw [Nat.add_sub_cancel] at hR
      have HR := Lib.hid hR
      have tq : 0 < x % 8 := by rw [HQ.out]; omega
      have tq0 : 0 ≤ x % 8 := by omega
      have tq1 : x % 8 < 8 := by omega
      have HZ := Lib.hid hz
      clear hz HP HLAST hR
      go_enter Tryd.func16, Tryd.ntmps16
      go_wp2_with fail
      refine HB.out.mono ?_
      rintro e w' ⟨rfl, rfl⟩
      go_wp2_with fail
      refine HCL.out.mono ?_
      rintro e w1 ⟨v, rfl, hg, hb1⟩
      have HW1 := Lib.hid hb1
      clear hb1
      have hlen : (b.take (m + 1)).length = m + 1 := HTK.out.symm
      obtain ⟨A2, c2, rfl, hc2, hm2, _⟩ := hg.slice
      obtain ⟨g2, rfl, hg0, hg1, _⟩ := hg.addr (by omega)
      have hcell := hg.cell m (by omega)
      have hfree := hg.free m
      rw [zat_take _ _ _ (by omega)] at hcell
      have hzm := Hb.out.at m
      have hzm0 := hzm.1
      have hzm1 := hzm.2
      have HG := Lib.hid (fun y => hg.put m y)
      clear hg hzm
      rw [hlen] at hc2 ⊢
      clear hlen
      go_wp2_with fail
      refine (HTB.out _ (HT.out.on HW1.out)).mono ?_
      rintro e w' ⟨rfl, rfl⟩
      go_wp2
      go_ret
      refine ⟨_, rfl, ?_, HW1.out.setCell hg0 _⟩
      rw [HR.out, HQ.out, Int.toNat_natCast, mask8 q hq8 _ hzm0 hzm1]
      exact (HG.out _).cast (by rw [← HTK.out]; rfl) rfl
  · have hz : q = 0 := by
      rcases (by omega : q = 0 ∨ 0 < q) with h | h
      · exact h
      · have := (HLAST.out h).1; omega
    have HR := Lib.hid (HP.out hz)
    have tq : (0 : Int) < x % 8 ↔ False := by rw [HQ.out]; simp; omega
    clear hz HP HLAST
    go_enter Tryd.func16, Tryd.ntmps16
    go_wp2_with fail
    refine HB.out.mono ?_
    rintro e w' ⟨rfl, rfl⟩
    go_wp2_with fail
    refine HCL.out.mono ?_
    rintro e w1 ⟨v, rfl, hg, hb1⟩
    have HW1 := Lib.hid hb1
    clear hb1
    go_wp2_with fail
    refine (HTB.out _ (HT.out.on HW1.out)).mono ?_
    rintro e w' ⟨rfl, rfl⟩
    go_wp2
    go_ret
    exact ⟨_, rfl, hg.cast rfl HR.out.symm, HW1.out⟩
end Go.Proofs.YtkipmljmolaobaaDoor
