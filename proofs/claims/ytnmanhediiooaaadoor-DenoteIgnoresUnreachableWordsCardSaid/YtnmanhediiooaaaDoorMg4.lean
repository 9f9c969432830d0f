/- The texts List, Res1, Res2, Res3, Resolve, DenC, TrimA, TrimB, TrimC, DenD, DenE, DenF, DenG (what is wanted of them), one after the other. -/
import Derived.Test.YtnmanhediiooaaaDoorMg3
import Derived.Lib.SliceRun
import Derived.BigQuiet
import Derived.Laws.EntriesVeiled
/- What the functions of package listsize do, each by a contract (by the code at a4747f4). -/
namespace Go.Proofs.YtnmanhediiooaaaDoor
open Go.ChangeShapes Go.WideShapes Go.ChangeAt Go.RowKit
set_option linter.unusedVariables false
set_option linter.unusedSimpArgs false
set_option maxRecDepth 100000

theorem elemZ_bits (k : Nat) (h : k ≤ 7) : elemZ.getD k 0 = bitsI k := by
  rcases (by omega : k = 0 ∨ k = 1 ∨ k = 2 ∨ k = 3 ∨ k = 4 ∨ k = 5 ∨ k = 6 ∨ k = 7) with h | h | h | h | h | h | h | h <;> subst h <;> rfl

theorem LBits_any (e : Int) (w : World) (hT : TabOK w) (h0 : 0 ≤ e) (h7 : e ≤ 7) : Calls Tryd.prog 91 #[.int .i64 e] w fun r w' => r = .returned (.int .i64 (bitsI e)) ∧ w = w' := by
  obtain ⟨k, rfl⟩ := Int.eq_ofNat_of_zero_le h0
  have hk : k ≤ 7 := by omega
  have hc := hT k (by omega)
  rw [elemZ_bits k hk] at hc
  have HT := Lib.hid hT
  generalize bitsI k = x at *
  clear hT
  go_enter Tryd.func91, Tryd.ntmps91
  go_wp2
  go_ret
  exact ⟨rfl, rfl⟩

theorem totalBits_any (e c : Int) (w : World) (hT : TabOK w) (h0 : 0 ≤ e) (h7 : e ≤ 7) (hc : 0 ≤ c) (h1 : c ≤ 536870911) : Calls Tryd.prog 81 #[.int .i64 e, .int .i64 c] w fun r w' => r = .returned (.int .i64 (bitsI e * c)) ∧ w = w' := by
  have HB := Lib.hid (LBits_any e w hT h0 h7)
  obtain ⟨m0, m1⟩ := bitsI_mul e c hc
  clear hT
  generalize bitsI e = x at *
  go_enter Tryd.func81, Tryd.ntmps81
  go_wp2_with fail
  refine HB.out.mono ?_
  rintro e w' ⟨rfl, rfl⟩
  go_wp2
  go_ret
  exact ⟨rfl, rfl⟩

theorem units_any (e c s : Int) (w : World) (hT : TabOK w) (h0 : 0 ≤ e) (h7 : e ≤ 7) (hc : 0 ≤ c) (h1 : c ≤ 536870911) (hs : s = 8 ∨ s = 64) : Calls Tryd.prog 82 #[.int .i64 e, .int .i64 c, .int .i64 s] w fun r w' => r = .returned (.int .i64 ((bitsI e * c + s - 1) / s)) ∧ w = w' := by
  have HB := Lib.hid (totalBits_any e c w hT h0 h7 hc h1)
  obtain ⟨m0, m1⟩ := bitsI_mul e c hc
  clear hT
  generalize bitsI e * c = x at *
  rcases hs with rfl | rfl
  all_goals
    go_enter Tryd.func82, Tryd.ntmps82
    go_wp2_with fail
    refine HB.out.mono ?_
    rintro e w' ⟨rfl, rfl⟩
    go_wp2
    go_ret
    exact ⟨rfl, rfl⟩

theorem LWords_any (e c : Int) (w : World) (hT : TabOK w) (h0 : 0 ≤ e) (h7 : e ≤ 7) (hc : 0 ≤ c) (h1 : c ≤ 536870911) : Calls Tryd.prog 66 #[.int .i64 e, .int .i64 c] w fun r w' => r = .returned (.int .i64 (wordsI e c)) ∧ w = w' := by
  by_cases he : e = 7
  · subst he
    have HW : Hid (wordsI 7 c = 1 + c) := Lib.hid (by unfold wordsI; rw [if_pos rfl]; omega)
    clear hT
    go_enter Tryd.func66, Tryd.ntmps66
    go_wp2
    go_ret
    exact ⟨by rw [HW.out]; rfl, rfl⟩
  · have HW : Hid (wordsI e c = (bitsI e * c + 64 - 1) / 64) := Lib.hid (by unfold wordsI; rw [if_neg he]; omega)
    have HB := Lib.hid (units_any e c 64 w hT h0 h7 hc h1 (.inr rfl))
    have he2 : (e == 7) = false := beq_eq_false_iff_ne.2 he
    clear hT he
    rw [← HW.out] at HB
    generalize wordsI e c = x at *
    go_enter Tryd.func66, Tryd.ntmps66
    go_wp2_with fail
    refine HB.out.mono ?_
    rintro e w' ⟨rfl, rfl⟩
    go_wp2
    go_ret
    exact ⟨rfl, rfl⟩

theorem LBytes_any (e c : Int) (w : World) (hT : TabOK w) (h0 : 0 ≤ e) (h5 : e ≤ 5) (hc : 0 ≤ c) (h1 : c ≤ 536870911) : Calls Tryd.prog 80 #[.int .i64 e, .int .i64 c] w fun r w' => r = .returned (.int .i64 (bytesI e c)) ∧ w = w' := by
  have HW : Hid (bytesI e c = (bitsI e * c + 8 - 1) / 8) := Lib.hid (by unfold bytesI; omega)
  have HB := Lib.hid (units_any e c 8 w hT h0 (by omega) hc h1 (.inl rfl))
  clear hT
  rw [← HW.out] at HB
  generalize bytesI e c = x at *
  go_enter Tryd.func80, Tryd.ntmps80
  go_wp2_with fail
  refine HB.out.mono ?_
  rintro e w' ⟨rfl, rfl⟩
  go_wp2
  go_ret
  exact ⟨rfl, rfl⟩

/-! ## Trim -/
set_option maxRecDepth 100000 in
theorem mask8_fin : ∀ q : Fin 8, ∀ z : Fin 256, bits .and .u8 (z.val : Int) ((2 ^ q.val - 1) % 256) = (z.val : Int) % p2 q.val := by decide +kernel
theorem mask8 (q : Nat) (h : q < 8) (z : Int) (h0 : 0 ≤ z) (h1 : z < 256) : bits .and .u8 z ((2 ^ q - 1) % 256) = z % p2 q := by
  have := mask8_fin ⟨q, h⟩ ⟨z.toNat, by omega⟩
  simpa [Int.toNat_of_nonneg h0] using this

theorem trimL_plain {b : List Int} {e c : Int} {n : Nat} (hn : bytesI e c = n) (hnb : n ≤ b.length) (he : 0 ≤ e) (he5 : e ≤ 5) (hc : 0 ≤ c) (hu : bitsI e * c % 8 = 0) : trimL b e c = b.take n := by
  apply ext_zat
  · rw [trimL_length, hn, List.length_take]; omega
  · intro i hi
    rw [trimL_length, hn] at hi
    have hi2 : i < n := by omega
    rw [trimL_zat _ _ _ _ (by rw [hn]; omega), zat_take _ _ _ hi2]
    unfold trimAt
    rw [if_neg]
    rintro ⟨rfl, h⟩
    unfold bytesI at hn
    have h4 : bitsI 1 = 1 := rfl
    rw [h4] at hn hu
    omega
theorem trimL_last {b : List Int} {e c : Int} {n : Nat} {q : Nat} (hn : bytesI e c = n) (hnb : n ≤ b.length) (he : 0 ≤ e) (he5 : e ≤ 5) (hc : 0 ≤ c) (hu : bitsI e * c % 8 = q) (hq : 0 < q) :
    1 ≤ n ∧ q < 8 ∧ trimL b e c = (b.take n).set (n - 1) (zat b (n - 1) % p2 q) := by
  have h1 : e = 1 := by
    rcases (by omega : e = 0 ∨ e = 1 ∨ e = 2 ∨ e = 3 ∨ e = 4 ∨ e = 5) with h | h | h | h | h | h <;> subst h
    · rw [show bitsI 0 = 0 from rfl] at hu; omega
    · rfl
    · rw [show bitsI 2 = 8 from rfl] at hu; omega
    · rw [show bitsI 3 = 16 from rfl] at hu; omega
    · rw [show bitsI 4 = 32 from rfl] at hu; omega
    · rw [show bitsI 5 = 64 from rfl] at hu; omega
  subst h1
  have hn' := hn
  unfold bytesI at hn'
  have h4 : bitsI 1 = 1 := rfl
  rw [h4] at hn' hu
  refine ⟨by omega, by omega, ?_⟩
  apply ext_zat
  · rw [trimL_length, hn, List.length_set, List.length_take]; omega
  · intro i hi
    rw [trimL_length, hn] at hi
    have hi2 : i < n := by omega
    rw [trimL_zat _ _ _ _ (by rw [hn]; omega)]
    unfold trimAt
    by_cases hl : i = n - 1
    · subst hl
      rw [if_pos ⟨rfl, by omega⟩, show c - 8 * ((n - 1 : Nat) : Int) = q by omega]
      simp [zat, List.getD_eq_getElem?_getD, List.getElem?_set, show n - 1 < n by omega, show n - 1 < b.length by omega, show n - 1 < min n b.length by omega]
    · rw [if_neg (by rintro ⟨-, h⟩; omega)]
      simp [zat, List.getD_eq_getElem?_getD, List.getElem?_set, show n - 1 ≠ i by omega, hi2]

attribute [local irreducible] p2

set_option maxRecDepth 100000 in
theorem LTrim_any (A : Option Addr) (cp : Nat) (b : List Int) (e c : Int) (w : World) (hT : TabOK w) (hr : Ri w .u8 A b) (hb : Bts b) (hnil : A = none → cp = 0) (hm : b.length ≤ 1099511627776) (hc : b.length ≤ cp) (hcm : cp ≤ 9223372036854775807) (he0 : 0 ≤ e) (he5 : e ≤ 5) (h0 : 0 ≤ c) (h1 : c ≤ 536870911) (hl : bytesI e c ≤ b.length) :
    Calls Tryd.prog 65 #[.int .i64 e, .int .i64 c, .slice A b.length cp] w fun r w' => ∃ v, r = .returned v ∧ Got w' w.heap.size 5 .u8 v (trimL b e c) ∧ Below w.heap.size w w' := by
  obtain ⟨m0, m1⟩ := bitsI_mul e c h0
  have hB : 0 ≤ bytesI e c := by unfold bytesI; omega
  obtain ⟨n, hn⟩ := Int.eq_ofNat_of_zero_le hB
  have hnb : n ≤ b.length := by omega
  have hnb2 : (n : Int) ≤ (b.length : Int) := by omega
  have HB := Lib.hid (LBytes_any e c w hT he0 he5 h0 h1)
  have HTB := Lib.hid (fun w' (h : TabOK w') => totalBits_any e c w' h he0 (by omega) h0 h1)
  rw [hn] at HB
  have HT := Lib.hid hT
  have HTK : Hid (n = (b.take n).length) := Lib.hid (by rw [List.length_take]; omega)
  have HCL := Lib.hid (bytesClone_any A cp (b.take n) w (hr.take n) (by rw [List.length_take]; omega) hnil (by rw [List.length_take]; omega) n HTK.out)
  obtain ⟨q, hq⟩ : ∃ q : Nat, bitsI e * c % 8 = q := ⟨(bitsI e * c % 8).toNat, by omega⟩
  have HQ := Lib.hid hq
  have HP := Lib.hid (fun h : q = 0 => trimL_plain hn hnb he0 he5 h0 (by rw [hq, h]; rfl))
  have HLAST := Lib.hid (fun h : 0 < q => trimL_last hn hnb he0 he5 h0 hq h)
  have Hb := Lib.hid hb
  have hcase : (∃ g, A = some g) ∨ (A = none ∧ cp = 0 ∧ n = 0) := by
    cases A with
    | none => have := hnil rfl; exact .inr ⟨rfl, this, by omega⟩
    | some g => exact .inl ⟨g, rfl⟩
  have hq8 : q < 8 := by omega
  clear hT hr hb hl hn hB hq hnil
  generalize trimL b e c = T at *
  generalize bitsI e * c = x at *
  rcases hcase with ⟨g, rfl⟩ | ⟨rfl, rfl, rfl⟩
  · have hz : q = 0 ∨ 0 < q := by omega
    rcases hz with hz | hz
    · have HR := Lib.hid (HP.out hz)
      have tq : (0 : Int) < x % 8 ↔ False := by rw [HQ.out]; simp; omega
      clear hz HP HLAST
      go_enter Tryd.func65, Tryd.ntmps65
      go_wp2_with fail
      refine HB.out.mono ?_
      rintro e w' ⟨rfl, rfl⟩
      go_wp2_with fail
      refine HCL.out.mono ?_
      rintro e w1 ⟨v, rfl, hg, hb1⟩
      have HW1 := Lib.hid hb1
      clear hb1
      go_wp2_with fail
      refine (HTB.out _ (HT.out.on HW1.out)).mono ?_
      rintro e w' ⟨rfl, rfl⟩
      go_wp2
      go_ret
      exact ⟨_, rfl, hg.cast rfl HR.out.symm, HW1.out⟩
    · obtain ⟨hn1, -, hR⟩ := HLAST.out hz
      obtain ⟨m, rfl⟩ : ∃ m, n = m + 1 := ⟨n - 1, by omega⟩
      rw [Nat.add_sub_cancel] at hR
      have HR := Lib.hid hR
      have tq : 0 < x % 8 := by rw [HQ.out]; omega
      have tq0 : 0 ≤ x % 8 := by omega
      have tq1 : x % 8 < 8 := by omega
      have HZ := Lib.hid hz
      clear hz HP HLAST hR
      go_enter Tryd.func65, Tryd.ntmps65
      go_wp2_with fail
      refine HB.out.mono ?_
      rintro e w' ⟨rfl, rfl⟩
      go_wp2_with fail
      refine HCL.out.mono ?_
      rintro e w1 ⟨v, rfl, hg, hb1⟩
      have HW1 := Lib.hid hb1
      clear hb1
      have hlen : (b.take (m + 1)).length = m + 1 := HTK.out.symm
      obtain ⟨A2, c2, rfl, hc2, hm2, _⟩ := hg.slice
      obtain ⟨g2, rfl, hg0, hg1, _⟩ := hg.addr (by omega)
      have hcell := hg.cell m (by omega)
      have hfree := hg.free m
      rw [zat_take _ _ _ (by omega)] at hcell
      have hzm := Hb.out.at m
      have hzm0 := hzm.1
      have hzm1 := hzm.2
      have HG := Lib.hid (fun y => hg.put m y)
      clear hg hzm
      rw [hlen] at hc2 ⊢
      clear hlen
      go_wp2_with fail
      refine (HTB.out _ (HT.out.on HW1.out)).mono ?_
      rintro e w' ⟨rfl, rfl⟩
      go_wp2
      go_ret
      refine ⟨_, rfl, ?_, HW1.out.setCell hg0 _⟩
      rw [HR.out, HQ.out, Int.toNat_natCast, mask8 q hq8 _ hzm0 hzm1]
      exact (HG.out _).cast (by rw [← HTK.out]; rfl) rfl
  · have hz : q = 0 := by
      rcases (by omega : q = 0 ∨ 0 < q) with h | h
      · exact h
      · have := (HLAST.out h).1; omega
    have HR := Lib.hid (HP.out hz)
    have tq : (0 : Int) < x % 8 ↔ False := by rw [HQ.out]; simp; omega
    clear hz HP HLAST
    go_enter Tryd.func65, Tryd.ntmps65
    go_wp2_with fail
    refine HB.out.mono ?_
    rintro e w' ⟨rfl, rfl⟩
    go_wp2_with fail
    refine HCL.out.mono ?_
    rintro e w1 ⟨v, rfl, hg, hb1⟩
    have HW1 := Lib.hid hb1
    clear hb1
    go_wp2_with fail
    refine (HTB.out _ (HT.out.on HW1.out)).mono ?_
    rintro e w' ⟨rfl, rfl⟩
    go_wp2
    go_ret
    exact ⟨_, rfl, hg.cast rfl HR.out.symm, HW1.out⟩
end Go.Proofs.YtnmanhediiooaaaDoor

/- What the functions of package resolve below Object do, each by a contract (by the code at 5978601). -/
namespace Go.Proofs.YtnmanhediiooaaaDoor
open Go.ChangeShapes Go.WideShapes Go.ChangeAt Go.RowKit
set_option linter.unusedVariables false
set_option linter.unusedSimpArgs false
set_option maxRecDepth 100000

/-- a struct, a list that is not composite, a composite list: at the position where the contents begin -/
def strR (ls : List (List Int)) (d p s t : Int) : Ob × Int := if inB ls s t (d + p) = true then (⟨1, s, t, d, p, 0, 0, d + p⟩, 0) else (ob0, 2)
def lstR (ls : List (List Int)) (el cc s t : Int) : Ob × Int := if inB ls s t (wordsI el cc) = true then (⟨2, s, t, 0, 0, el, cc, wordsI el cc⟩, 0) else (ob0, 2)
def cmpR (ls : List (List Int)) (cc s t : Int) : Ob × Int := if inB ls s t (wordsI 7 cc) = true then compF ls s t cc (wordsI 7 cc) else (ob0, 2)

theorem holds_any (A : Option Addr) (c : Nat) (ls : List (List Int)) (k o d p el cc pa pg lo s t : Int) (db : Bool) (w : World) (n : Int) (hs : Sg w A ls) (hm : ls.length ≤ 140737488355328) (hs0 : -9223372036854775808 ≤ s) (hs1 : s ≤ 9223372036854775807) (ht0 : -9223372036854775808 ≤ t) (ht1 : t ≤ 9223372036854775807) (hn0 : -9223372036854775808 ≤ n) (hn1 : n ≤ 9223372036854775807) :
    Calls Tryd.prog 88 #[.agg #[.slice A ls.length c, .int .i64 k, .int .i64 o, .int .i64 d, .int .i64 p, .int .i64 el, .int .i64 cc, .bool db, .int .i64 pa, .int .u32 pg, .int .u32 lo, .int .i64 s, .int .i64 t], .int .i64 n] w fun e w' => e = .returned (.bool (inB ls s t n)) ∧ Below w.heap.size w w' := by
  have HI := Lib.hid (fun w2 hs2 => AInF_any A c ls s t n w2 hs2 hm hs0 hs1 ht0 ht1 hn0 hn1)
  have Hs := Lib.hid hs
  clear hs
  go_enter Tryd.func88, Tryd.ntmps88
  go_wp2_with fail
  refine (HI.out _ (Hs.out.alloc _)).mono ?_
  rintro e w' ⟨rfl, rfl⟩
  go_wp2
  go_ret
  exact ⟨rfl, (Below.refl _ _).alloc (Nat.le_refl _) _⟩

set_option maxRecDepth 100000 in
set_option maxHeartbeats 1000000 in
theorem structure_any (A : Option Addr) (c : Nat) (ls : List (List Int)) (k o d p el cc pa pg lo s t : Int) (db : Bool) (w : World) (d0 : 0 ≤ d) (d1 : d ≤ 65535) (p0 : 0 ≤ p) (p1 : p ≤ 65535) (hs : Sg w A ls) (hm : ls.length ≤ 140737488355328) (hs0 : -9223372036854775808 ≤ s) (hs1 : s ≤ 9223372036854775807) (ht0 : -9223372036854775808 ≤ t) (ht1 : t ≤ 9223372036854775807) :
    Calls Tryd.prog 72 #[.agg #[.slice A ls.length c, .int .i64 k, .int .i64 o, .int .i64 d, .int .i64 p, .int .i64 el, .int .i64 cc, .bool db, .int .i64 pa, .int .u32 pg, .int .u32 lo, .int .i64 s, .int .i64 t]] w fun e w' => e = .returned (.tuple #[.agg #[.int .i64 (strR ls d p s t).1.k, .int .i64 (strR ls d p s t).1.sg, .int .i64 (strR ls d p s t).1.at', .int .i64 (strR ls d p s t).1.d, .int .i64 (strR ls d p s t).1.p, .int .i64 (strR ls d p s t).1.el, .int .i64 (strR ls d p s t).1.n, .int .i64 (strR ls d p s t).1.cost], .int .i64 (strR ls d p s t).2]) ∧ Below w.heap.size w w' := by
  have HH := Lib.hid (fun w2 hs2 => holds_any A c ls k o d p el cc pa pg lo s t db w2 (d + p) hs2 hm hs0 hs1 ht0 ht1 (by omega) (by omega))
  have Hs := Lib.hid hs
  clear hs
  cases hi : inB ls s t (d + p) with
  | true =>
    have HR : Hid (strR ls d p s t = (⟨1, s, t, d, p, 0, 0, d + p⟩, 0)) := Lib.hid (by unfold strR; rw [hi]; rfl)
    rw [hi] at HH
    clear hi
    go_enter Tryd.func72, Tryd.ntmps72
    go_wp2_with fail
    refine (HH.out _ (((Hs.out.alloc _).alloc _).alloc _)).mono ?_
    rintro e w1 ⟨rfl, hb⟩
    have BL := (((Blk.fresh w #[.slice A ls.length c, .int .i64 k, .int .i64 o, .int .i64 d, .int .i64 p, .int .i64 el, .int .i64 cc, .bool db, .int .i64 pa, .int .u32 pg, .int .u32 lo, .int .i64 s, .int .i64 t] 111).alloc _).alloc _).below hb
    have BO := ((Blk.fresh (w.alloc (.cells #[.slice A ls.length c, .int .i64 k, .int .i64 o, .int .i64 d, .int .i64 p, .int .i64 el, .int .i64 cc, .bool db, .int .i64 pa, .int .u32 pg, .int .u32 lo, .int .i64 s, .int .i64 t] 111)) #[.int .i64 0, .int .i64 0, .int .i64 0, .int .i64 0, .int .i64 0, .int .i64 0, .int .i64 0, .int .i64 0] 77).alloc _).below hb
    have BP := (Blk.fresh ((w.alloc (.cells #[.slice A ls.length c, .int .i64 k, .int .i64 o, .int .i64 d, .int .i64 p, .int .i64 el, .int .i64 cc, .bool db, .int .i64 pa, .int .u32 pg, .int .u32 lo, .int .i64 s, .int .i64 t] 111)).alloc (.cells #[.int .i64 0, .int .i64 0, .int .i64 0, .int .i64 0, .int .i64 0, .int .i64 0, .int .i64 0, .int .i64 0] 77)) #[.int .i64 k, .int .i64 o, .int .i64 d, .int .i64 p, .int .i64 el, .int .i64 cc, .bool db, .int .i64 pa, .int .u32 pg, .int .u32 lo] 47).below hb
    rw [World.size_alloc] at BO BP
    rw [World.size_alloc] at BP
    have HB : Hid (Below w.heap.size w w1) := Lib.hid (((((Below.refl _ _).alloc (Nat.le_refl _) _).alloc (by simp) _).alloc (by simp; omega) _).trans (hb.mono (by simp; omega)))
    clear hb HH
    have HO := Lib.hid BO
    obtain ⟨xl, yl, zl⟩ := BL
    obtain ⟨xo, yo, zo⟩ := BO
    obtain ⟨xp, yp, zp⟩ := BP
    go_wp2_with fail
    refine abs_post (F := fun W => Blk W (w.heap.size + 1) #[.int .i64 1, .int .i64 s, .int .i64 t, .int .i64 d, .int .i64 p, .int .i64 0, .int .i64 0, .int .i64 (d + p)] ∧ Below w.heap.size w W) ⟨?_, ?_⟩ ?_
    · exact ((((((((HO.out.set 0 (by simp) _).set 1 (by simp) _).set 2 (by simp) _).set 3 (by simp) _).set 4 (by simp) _).set 5 (by simp) _).set 6 (by simp) _).set 7 (by simp) _)
    · repeat (with_reducible first | exact HB.out | refine bel_drewN ?_ _ | refine bel_drew ?_ | refine Below.alloc ?_ (by have := HB.out.size; simp [World.setCell]; omega) _ | refine Below.setCell ?_ (by first | (simp; done) | (simp; omega)) _)
    rintro V ⟨B6, hbv⟩
    exact bodyPost_ret (v := .tuple #[.agg #[.int .i64 1, .int .i64 s, .int .i64 t, .int .i64 d, .int .i64 p, .int .i64 0, .int .i64 0, .int .i64 (d + p)], .int .i64 0]) (by simp [results, Tryd.results72, go_sem, B6.cell]) rfl ⟨by rw [HR.out]; try rfl, hbv⟩
  | false =>
    have HR : Hid (strR ls d p s t = (ob0, 2)) := Lib.hid (by unfold strR; rw [hi]; rfl)
    rw [hi] at HH
    clear hi
    go_enter Tryd.func72, Tryd.ntmps72
    go_wp2_with fail
    refine (HH.out _ (((Hs.out.alloc _).alloc _).alloc _)).mono ?_
    rintro e w1 ⟨rfl, hb⟩
    have BL := (((Blk.fresh w #[.slice A ls.length c, .int .i64 k, .int .i64 o, .int .i64 d, .int .i64 p, .int .i64 el, .int .i64 cc, .bool db, .int .i64 pa, .int .u32 pg, .int .u32 lo, .int .i64 s, .int .i64 t] 111).alloc _).alloc _).below hb
    have BO := ((Blk.fresh (w.alloc (.cells #[.slice A ls.length c, .int .i64 k, .int .i64 o, .int .i64 d, .int .i64 p, .int .i64 el, .int .i64 cc, .bool db, .int .i64 pa, .int .u32 pg, .int .u32 lo, .int .i64 s, .int .i64 t] 111)) #[.int .i64 0, .int .i64 0, .int .i64 0, .int .i64 0, .int .i64 0, .int .i64 0, .int .i64 0, .int .i64 0] 77).alloc _).below hb
    have BP := (Blk.fresh ((w.alloc (.cells #[.slice A ls.length c, .int .i64 k, .int .i64 o, .int .i64 d, .int .i64 p, .int .i64 el, .int .i64 cc, .bool db, .int .i64 pa, .int .u32 pg, .int .u32 lo, .int .i64 s, .int .i64 t] 111)).alloc (.cells #[.int .i64 0, .int .i64 0, .int .i64 0, .int .i64 0, .int .i64 0, .int .i64 0, .int .i64 0, .int .i64 0] 77)) #[.int .i64 k, .int .i64 o, .int .i64 d, .int .i64 p, .int .i64 el, .int .i64 cc, .bool db, .int .i64 pa, .int .u32 pg, .int .u32 lo] 47).below hb
    rw [World.size_alloc] at BO BP
    rw [World.size_alloc] at BP
    have HB : Hid (Below w.heap.size w w1) := Lib.hid (((((Below.refl _ _).alloc (Nat.le_refl _) _).alloc (by simp) _).alloc (by simp; omega) _).trans (hb.mono (by simp; omega)))
    clear hb HH
    have HO := Lib.hid BO
    obtain ⟨xl, yl, zl⟩ := BL
    obtain ⟨xo, yo, zo⟩ := BO
    obtain ⟨xp, yp, zp⟩ := BP
    go_wp2_with fail
    refine abs_post (F := fun W => Blk W (w.heap.size + 1) #[.int .i64 0, .int .i64 0, .int .i64 0, .int .i64 0, .int .i64 0, .int .i64 0, .int .i64 0, .int .i64 0] ∧ Below w.heap.size w W) ⟨?_, ?_⟩ ?_
    · exact ((((((((HO.out.set 0 (by simp) _).set 1 (by simp) _).set 2 (by simp) _).set 3 (by simp) _).set 4 (by simp) _).set 5 (by simp) _).set 6 (by simp) _).set 7 (by simp) _)
    · repeat (with_reducible first | exact HB.out | refine bel_drewN ?_ _ | refine bel_drew ?_ | refine Below.alloc ?_ (by have := HB.out.size; simp [World.setCell]; omega) _ | refine Below.setCell ?_ (by first | (simp; done) | (simp; omega)) _)
    rintro V ⟨B6, hbv⟩
    exact bodyPost_ret (v := .tuple #[.agg #[.int .i64 0, .int .i64 0, .int .i64 0, .int .i64 0, .int .i64 0, .int .i64 0, .int .i64 0, .int .i64 0], .int .i64 2]) (by simp [results, Tryd.results72, go_sem, B6.cell]) rfl ⟨by rw [HR.out]; try rfl, hbv⟩

set_option maxRecDepth 100000 in
set_option maxHeartbeats 1000000 in
theorem list_any (A : Option Addr) (c : Nat) (ls : List (List Int)) (k o d p el cc pa pg lo s t : Int) (db : Bool) (w : World) (hT : TabOK w) (e0 : 0 ≤ el) (e7 : el ≤ 7) (c0 : 0 ≤ cc) (c1 : cc ≤ 536870911) (hs : Sg w A ls) (hm : ls.length ≤ 140737488355328) (hs0 : -9223372036854775808 ≤ s) (hs1 : s ≤ 9223372036854775807) (ht0 : -9223372036854775808 ≤ t) (ht1 : t ≤ 9223372036854775807) :
    Calls Tryd.prog 75 #[.agg #[.slice A ls.length c, .int .i64 k, .int .i64 o, .int .i64 d, .int .i64 p, .int .i64 el, .int .i64 cc, .bool db, .int .i64 pa, .int .u32 pg, .int .u32 lo, .int .i64 s, .int .i64 t]] w fun e w' => e = .returned (.tuple #[.agg #[.int .i64 (lstR ls el cc s t).1.k, .int .i64 (lstR ls el cc s t).1.sg, .int .i64 (lstR ls el cc s t).1.at', .int .i64 (lstR ls el cc s t).1.d, .int .i64 (lstR ls el cc s t).1.p, .int .i64 (lstR ls el cc s t).1.el, .int .i64 (lstR ls el cc s t).1.n, .int .i64 (lstR ls el cc s t).1.cost], .int .i64 (lstR ls el cc s t).2]) ∧ Below w.heap.size w w' := by
  have HH := Lib.hid (fun w2 hs2 => holds_any A c ls k o d p el cc pa pg lo s t db w2 (wordsI el cc) hs2 hm hs0 hs1 ht0 ht1 (by have := wordsI_lim el cc c0 c1; omega) (by have := wordsI_lim el cc c0 c1; omega))
  have Hs := Lib.hid hs
  have HT := Lib.hid hT
  have HL := Lib.hid (fun w2 hT2 => LWords_any el cc w2 hT2 e0 e7 c0 c1)
  clear hT
  clear hs
  cases hi : inB ls s t (wordsI el cc) with
  | true =>
    have HR : Hid (lstR ls el cc s t = (⟨2, s, t, 0, 0, el, cc, wordsI el cc⟩, 0)) := Lib.hid (by unfold lstR; rw [hi]; rfl)
    rw [hi] at HH
    clear hi
    generalize wordsI el cc = n at *
    go_enter Tryd.func75, Tryd.ntmps75
    go_wp2_with fail
    refine (HL.out _ (((HT.out.alloc _).alloc _).alloc _)).mono ?_
    rintro e w' ⟨rfl, rfl⟩
    go_wp2_with fail
    refine (HH.out _ (((Hs.out.alloc _).alloc _).alloc _)).mono ?_
    rintro e w1 ⟨rfl, hb⟩
    have BL := (((Blk.fresh w #[.slice A ls.length c, .int .i64 k, .int .i64 o, .int .i64 d, .int .i64 p, .int .i64 el, .int .i64 cc, .bool db, .int .i64 pa, .int .u32 pg, .int .u32 lo, .int .i64 s, .int .i64 t] 111).alloc _).alloc _).below hb
    have BO := ((Blk.fresh (w.alloc (.cells #[.slice A ls.length c, .int .i64 k, .int .i64 o, .int .i64 d, .int .i64 p, .int .i64 el, .int .i64 cc, .bool db, .int .i64 pa, .int .u32 pg, .int .u32 lo, .int .i64 s, .int .i64 t] 111)) #[.int .i64 0, .int .i64 0, .int .i64 0, .int .i64 0, .int .i64 0, .int .i64 0, .int .i64 0, .int .i64 0] 77).alloc _).below hb
    have BP := (Blk.fresh ((w.alloc (.cells #[.slice A ls.length c, .int .i64 k, .int .i64 o, .int .i64 d, .int .i64 p, .int .i64 el, .int .i64 cc, .bool db, .int .i64 pa, .int .u32 pg, .int .u32 lo, .int .i64 s, .int .i64 t] 111)).alloc (.cells #[.int .i64 0, .int .i64 0, .int .i64 0, .int .i64 0, .int .i64 0, .int .i64 0, .int .i64 0, .int .i64 0] 77)) #[.int .i64 k, .int .i64 o, .int .i64 d, .int .i64 p, .int .i64 el, .int .i64 cc, .bool db, .int .i64 pa, .int .u32 pg, .int .u32 lo] 47).below hb
    rw [World.size_alloc] at BO BP
    rw [World.size_alloc] at BP
    have HB : Hid (Below w.heap.size w w1) := Lib.hid (((((Below.refl _ _).alloc (Nat.le_refl _) _).alloc (by simp) _).alloc (by simp; omega) _).trans (hb.mono (by simp; omega)))
    clear hb HH
    have HO := Lib.hid BO
    obtain ⟨xl, yl, zl⟩ := BL
    obtain ⟨xo, yo, zo⟩ := BO
    obtain ⟨xp, yp, zp⟩ := BP
    go_wp2_with fail
    refine abs_post (F := fun W => Blk W (w.heap.size + 1) #[.int .i64 2, .int .i64 s, .int .i64 t, .int .i64 0, .int .i64 0, .int .i64 el, .int .i64 cc, .int .i64 n] ∧ Below w.heap.size w W) ⟨?_, ?_⟩ ?_
    · exact ((((((((HO.out.set 0 (by simp) _).set 1 (by simp) _).set 2 (by simp) _).set 3 (by simp) _).set 4 (by simp) _).set 5 (by simp) _).set 6 (by simp) _).set 7 (by simp) _)
    · repeat (with_reducible first | exact HB.out | refine bel_drewN ?_ _ | refine bel_drew ?_ | refine Below.alloc ?_ (by have := HB.out.size; simp [World.setCell]; omega) _ | refine Below.setCell ?_ (by first | (simp; done) | (simp; omega)) _)
    rintro V ⟨B6, hbv⟩
    exact bodyPost_ret (v := .tuple #[.agg #[.int .i64 2, .int .i64 s, .int .i64 t, .int .i64 0, .int .i64 0, .int .i64 el, .int .i64 cc, .int .i64 n], .int .i64 0]) (by simp [results, Tryd.results75, go_sem, B6.cell]) rfl ⟨by rw [HR.out]; try rfl, hbv⟩
  | false =>
    have HR : Hid (lstR ls el cc s t = (ob0, 2)) := Lib.hid (by unfold lstR; rw [hi]; rfl)
    rw [hi] at HH
    clear hi
    generalize wordsI el cc = n at *
    go_enter Tryd.func75, Tryd.ntmps75
    go_wp2_with fail
    refine (HL.out _ (((HT.out.alloc _).alloc _).alloc _)).mono ?_
    rintro e w' ⟨rfl, rfl⟩
    go_wp2_with fail
    refine (HH.out _ (((Hs.out.alloc _).alloc _).alloc _)).mono ?_
    rintro e w1 ⟨rfl, hb⟩
    have BL := (((Blk.fresh w #[.slice A ls.length c, .int .i64 k, .int .i64 o, .int .i64 d, .int .i64 p, .int .i64 el, .int .i64 cc, .bool db, .int .i64 pa, .int .u32 pg, .int .u32 lo, .int .i64 s, .int .i64 t] 111).alloc _).alloc _).below hb
    have BO := ((Blk.fresh (w.alloc (.cells #[.slice A ls.length c, .int .i64 k, .int .i64 o, .int .i64 d, .int .i64 p, .int .i64 el, .int .i64 cc, .bool db, .int .i64 pa, .int .u32 pg, .int .u32 lo, .int .i64 s, .int .i64 t] 111)) #[.int .i64 0, .int .i64 0, .int .i64 0, .int .i64 0, .int .i64 0, .int .i64 0, .int .i64 0, .int .i64 0] 77).alloc _).below hb
    have BP := (Blk.fresh ((w.alloc (.cells #[.slice A ls.length c, .int .i64 k, .int .i64 o, .int .i64 d, .int .i64 p, .int .i64 el, .int .i64 cc, .bool db, .int .i64 pa, .int .u32 pg, .int .u32 lo, .int .i64 s, .int .i64 t] 111)).alloc (.cells #[.int .i64 0, .int .i64 0, .int .i64 0, .int .i64 0, .int .i64 0, .int .i64 0, .int .i64 0, .int .i64 0] 77)) #[.int .i64 k, .int .i64 o, .int .i64 d, .int .i64 p, .int .i64 el, .int .i64 cc, .bool db, .int .i64 pa, .int .u32 pg, .int .u32 lo] 47).below hb
    rw [World.size_alloc] at BO BP
    rw [World.size_alloc] at BP
    have HB : Hid (Below w.heap.size w w1) := Lib.hid (((((Below.refl _ _).alloc (Nat.le_refl _) _).alloc (by simp) _).alloc (by simp; omega) _).trans (hb.mono (by simp; omega)))
    clear hb HH
    have HO := Lib.hid BO
    obtain ⟨xl, yl, zl⟩ := BL
    obtain ⟨xo, yo, zo⟩ := BO
    obtain ⟨xp, yp, zp⟩ := BP
    go_wp2_with fail
    refine abs_post (F := fun W => Blk W (w.heap.size + 1) #[.int .i64 0, .int .i64 0, .int .i64 0, .int .i64 0, .int .i64 0, .int .i64 0, .int .i64 0, .int .i64 0] ∧ Below w.heap.size w W) ⟨?_, ?_⟩ ?_
    · exact ((((((((HO.out.set 0 (by simp) _).set 1 (by simp) _).set 2 (by simp) _).set 3 (by simp) _).set 4 (by simp) _).set 5 (by simp) _).set 6 (by simp) _).set 7 (by simp) _)
    · repeat (with_reducible first | exact HB.out | refine bel_drewN ?_ _ | refine bel_drew ?_ | refine Below.alloc ?_ (by have := HB.out.size; simp [World.setCell]; omega) _ | refine Below.setCell ?_ (by first | (simp; done) | (simp; omega)) _)
    rintro V ⟨B6, hbv⟩
    exact bodyPost_ret (v := .tuple #[.agg #[.int .i64 0, .int .i64 0, .int .i64 0, .int .i64 0, .int .i64 0, .int .i64 0, .int .i64 0, .int .i64 0], .int .i64 2]) (by simp [results, Tryd.results75, go_sem, B6.cell]) rfl ⟨by rw [HR.out]; try rfl, hbv⟩

end Go.Proofs.YtnmanhediiooaaaDoor

/- What (capnp/resolve.location).composite does (by the code at 5978601). -/
namespace Go.Proofs.YtnmanhediiooaaaDoor
open Go.ChangeShapes Go.WideShapes Go.ChangeAt Go.RowKit
set_option linter.unusedVariables false
set_option linter.unusedSimpArgs false
set_option maxRecDepth 100000

set_option maxRecDepth 100000 in
set_option maxHeartbeats 8000000 in
theorem composite_any (A : Option Addr) (c : Nat) (ls : List (List Int)) (k o d p el cc pa pg lo s t : Int) (db : Bool) (w : World) (hT : TabOK w) (c0 : 0 ≤ cc) (c1 : cc ≤ 536870911) (hs : Sg w A ls) (hw : Wd2 ls) (hm : ls.length ≤ 140737488355328) (hf : ∀ j, (seg ls j).length ≤ 140737488355328) (hs0 : -9223372036854775808 ≤ s) (hs1 : s ≤ 9223372036854775807) (ht0 : -9223372036854775808 ≤ t) (ht1 : t ≤ 9223372036854775807) :
    Calls Tryd.prog 74 #[.agg #[.slice A ls.length c, .int .i64 k, .int .i64 o, .int .i64 d, .int .i64 p, .int .i64 el, .int .i64 cc, .bool db, .int .i64 pa, .int .u32 pg, .int .u32 lo, .int .i64 s, .int .i64 t]] w fun e w' => e = .returned (.tuple #[.agg #[.int .i64 (cmpR ls cc s t).1.k, .int .i64 (cmpR ls cc s t).1.sg, .int .i64 (cmpR ls cc s t).1.at', .int .i64 (cmpR ls cc s t).1.d, .int .i64 (cmpR ls cc s t).1.p, .int .i64 (cmpR ls cc s t).1.el, .int .i64 (cmpR ls cc s t).1.n, .int .i64 (cmpR ls cc s t).1.cost], .int .i64 (cmpR ls cc s t).2]) ∧ Below w.heap.size w w' := by
  have hwl := wordsI_lim 7 cc c0 c1
  have HH := Lib.hid (fun w2 hs2 => holds_any A c ls k o d p el cc pa pg lo s t db w2 (wordsI 7 cc) hs2 hm hs0 hs1 ht0 ht1 (by omega) (by omega))
  have HA := Lib.hid (fun w2 hs2 => AWordF_any A c ls s t w2 hs2 hm hs0 hs1 ht0 ht1)
  have Hs := Lib.hid hs
  have HT := Lib.hid hT
  have HL := Lib.hid (fun w2 hT2 => LWords_any 7 cc w2 hT2 (by omega) (by omega) c0 c1)
  have hwd := wordV_bd hw s t
  have HD := Lib.hid (fun w2 => Decode_any (wordV ls s t) w2 hwd.1 hwd.2)
  have hq := decP_bd (wordV ls s t) hwd.1 hwd.2
  clear hT hs hwd hw
  cases hi : inB ls s t (wordsI 7 cc) with
  | false =>
    have HR : Hid (cmpR ls cc s t = (ob0, 2)) := Lib.hid (by unfold cmpR; rw [hi]; rfl)
    rw [hi] at HH
    clear hi hq HD HA hf hwl
    generalize wordsI 7 cc = n at *
    go_enter Tryd.func74, Tryd.ntmps74
    go_wp2_with fail
    refine (HL.out _ ((HT.out.alloc _).alloc _)).mono ?_
    rintro e w' ⟨rfl, rfl⟩
    go_wp2_with fail
    refine (HH.out _ ((Hs.out.alloc _).alloc _)).mono ?_
    rintro e w1 ⟨rfl, hb⟩
    have BL := ((Blk.fresh w #[.slice A ls.length c, .int .i64 k, .int .i64 o, .int .i64 d, .int .i64 p, .int .i64 el, .int .i64 cc, .bool db, .int .i64 pa, .int .u32 pg, .int .u32 lo, .int .i64 s, .int .i64 t] 111).alloc _).below hb
    have BO := (Blk.fresh (w.alloc (.cells #[.slice A ls.length c, .int .i64 k, .int .i64 o, .int .i64 d, .int .i64 p, .int .i64 el, .int .i64 cc, .bool db, .int .i64 pa, .int .u32 pg, .int .u32 lo, .int .i64 s, .int .i64 t] 111)) #[.int .i64 0, .int .i64 0, .int .i64 0, .int .i64 0, .int .i64 0, .int .i64 0, .int .i64 0, .int .i64 0] 77).below hb
    rw [World.size_alloc] at BO
    have HB : Hid (Below w.heap.size w w1) := Lib.hid ((((Below.refl _ _).alloc (Nat.le_refl _) _).alloc (by simp) _).trans (hb.mono (by simp; omega)))
    clear hb HH
    have HLc := Lib.hid BL
    have HO := Lib.hid BO
    obtain ⟨xl, yl, zl⟩ := BL
    obtain ⟨xo, yo, zo⟩ := BO
    go_wp2_with fail
    refine abs_post (F := fun W => Blk W (w.heap.size + 1) #[.int .i64 0, .int .i64 0, .int .i64 0, .int .i64 0, .int .i64 0, .int .i64 0, .int .i64 0, .int .i64 0] ∧ Below w.heap.size w W) ⟨?_, ?_⟩ ?_
    · exact ((((((((HO.out.set 0 (by simp) _).set 1 (by simp) _).set 2 (by simp) _).set 3 (by simp) _).set 4 (by simp) _).set 5 (by simp) _).set 6 (by simp) _).set 7 (by simp) _)
    · repeat (with_reducible first | exact HB.out | refine bel_drewN ?_ _ | refine bel_drew ?_ | refine Below.alloc ?_ (by have := HB.out.size; simp [World.setCell]; omega) _ | refine Below.setCell ?_ (by first | (simp; done) | (simp; omega)) _)
    rintro V ⟨B6, hbv⟩
    exact bodyPost_ret (v := .tuple #[.agg #[.int .i64 0, .int .i64 0, .int .i64 0, .int .i64 0, .int .i64 0, .int .i64 0, .int .i64 0, .int .i64 0], .int .i64 2]) (by simp [results, Tryd.results74, go_sem, B6.cell]) rfl ⟨by rw [HR.out]; try rfl, hbv⟩
  | true =>
    have h0 := inB_iff.1 hi
    have hf2 := hf s.toNat
    have HTB : Hid (t + 1 ≤ 140737488355329 ∧ 0 ≤ t) := Lib.hid (by omega)
    have hr : cmpR ls cc s t = compF ls s t cc (wordsI 7 cc) := by unfold cmpR; rw [hi]; rfl
    unfold compF at hr
    have HR := Lib.hid hr
    have HWL := Lib.hid hwl
    rw [hi] at HH
    clear hi hr h0 hf2 hf hwl
    generalize wordsI 7 cc = n at *
    generalize decP (wordV ls s t) = q at *
    generalize wordV ls s t = x at *
    go_enter Tryd.func74, Tryd.ntmps74
    go_wp2_with fail
    refine (HL.out _ ((HT.out.alloc _).alloc _)).mono ?_
    rintro e w' ⟨rfl, rfl⟩
    go_wp2_with fail
    refine (HH.out _ ((Hs.out.alloc _).alloc _)).mono ?_
    rintro e w1 ⟨rfl, hb⟩
    have BL := ((Blk.fresh w #[.slice A ls.length c, .int .i64 k, .int .i64 o, .int .i64 d, .int .i64 p, .int .i64 el, .int .i64 cc, .bool db, .int .i64 pa, .int .u32 pg, .int .u32 lo, .int .i64 s, .int .i64 t] 111).alloc _).below hb
    have BO := (Blk.fresh (w.alloc (.cells #[.slice A ls.length c, .int .i64 k, .int .i64 o, .int .i64 d, .int .i64 p, .int .i64 el, .int .i64 cc, .bool db, .int .i64 pa, .int .u32 pg, .int .u32 lo, .int .i64 s, .int .i64 t] 111)) #[.int .i64 0, .int .i64 0, .int .i64 0, .int .i64 0, .int .i64 0, .int .i64 0, .int .i64 0, .int .i64 0] 77).below hb
    rw [World.size_alloc] at BO
    have HB : Hid (Below w.heap.size w w1) := Lib.hid ((((Below.refl _ _).alloc (Nat.le_refl _) _).alloc (by simp) _).trans (hb.mono (by simp; omega)))
    clear hb HH
    have HLc := Lib.hid BL
    have HO := Lib.hid BO
    obtain ⟨xl, yl, zl⟩ := BL
    obtain ⟨xo, yo, zo⟩ := BO
    go_wp2_with fail
    refine (HA.out _ (Hs.out.below HB.out (Nat.le_refl _))).mono ?_
    rintro e w' ⟨rfl, rfl⟩
    go_wp2_with fail
    refine (HD.out _).mono ?_
    rintro e w2 ⟨rfl, hb⟩
    have BL := HLc.out.below hb
    have BO := HO.out.below hb
    have hsz := HB.out.size
    have HB : Hid (Below w.heap.size w w2) := Lib.hid (HB.out.trans (hb.mono hsz))
    clear hb hsz HA HD HL HLc HO xl yl zl xo yo zo
    have HLc := Lib.hid BL
    have HO := Lib.hid BO
    obtain ⟨xl, yl, zl⟩ := BL
    obtain ⟨xo, yo, zo⟩ := BO
    have hq2 : 0 ≤ q.d ∧ q.d ≤ 65535 ∧ 0 ≤ q.p ∧ q.p ≤ 65535 ∧ -536870912 ≤ q.o ∧ q.o ≤ 536870911 := by omega
    clear hq
    obtain ⟨b1, b2, b3, b4, b5, b6⟩ := hq2
    have htb := HTB.out
    have hwl := HWL.out
    by_cases h1 : q.k = 0
    · have t5 : (q.k != 0) = false := by simpa using h1
      have H0 := Lib.hid h1
      clear h1
      by_cases h2 : q.o < 0
      · have H1 := Lib.hid h2
        go_wp2_with fail
        refine abs_post (F := fun W => Blk W (w.heap.size + 1) #[.int .i64 0, .int .i64 0, .int .i64 0, .int .i64 0, .int .i64 0, .int .i64 0, .int .i64 0, .int .i64 0] ∧ Below w.heap.size w W) ⟨?_, ?_⟩ ?_
        · exact ((((((((HO.out.set 0 (by simp) _).set 1 (by simp) _).set 2 (by simp) _).set 3 (by simp) _).set 4 (by simp) _).set 5 (by simp) _).set 6 (by simp) _).set 7 (by simp) _).alloc _
        · repeat (with_reducible first | exact HB.out | refine bel_drewN ?_ _ | refine bel_drew ?_ | refine Below.alloc ?_ (by have := HB.out.size; simp [World.setCell]; omega) _ | refine Below.setCell ?_ (by first | (simp; done) | (simp; omega)) _)
        rintro V ⟨B6, hbv⟩
        exact bodyPost_ret (v := .tuple #[.agg #[.int .i64 0, .int .i64 0, .int .i64 0, .int .i64 0, .int .i64 0, .int .i64 0, .int .i64 0, .int .i64 0], .int .i64 5]) (by simp [results, Tryd.results74, go_sem, B6.cell]) rfl ⟨by rw [HR.out, if_pos (Or.inr (Or.inl H1.out))]; try rfl, hbv⟩
      have m0 : 0 ≤ q.o * (q.d + q.p) := Int.mul_nonneg (by omega) (by omega)
      have m1 : q.o * (q.d + q.p) ≤ 536870911 * 131070 := Int.mul_le_mul (by omega) (by omega) (by omega) (by omega)
      by_cases h3 : cc < q.o * (q.d + q.p)
      · have H1 := Lib.hid h3
        go_wp2_with fail
        refine abs_post (F := fun W => Blk W (w.heap.size + 1) #[.int .i64 0, .int .i64 0, .int .i64 0, .int .i64 0, .int .i64 0, .int .i64 0, .int .i64 0, .int .i64 0] ∧ Below w.heap.size w W) ⟨?_, ?_⟩ ?_
        · exact ((((((((HO.out.set 0 (by simp) _).set 1 (by simp) _).set 2 (by simp) _).set 3 (by simp) _).set 4 (by simp) _).set 5 (by simp) _).set 6 (by simp) _).set 7 (by simp) _).alloc _
        · repeat (with_reducible first | exact HB.out | refine bel_drewN ?_ _ | refine bel_drew ?_ | refine Below.alloc ?_ (by have := HB.out.size; simp [World.setCell]; omega) _ | refine Below.setCell ?_ (by first | (simp; done) | (simp; omega)) _)
        rintro V ⟨B6, hbv⟩
        exact bodyPost_ret (v := .tuple #[.agg #[.int .i64 0, .int .i64 0, .int .i64 0, .int .i64 0, .int .i64 0, .int .i64 0, .int .i64 0, .int .i64 0], .int .i64 5]) (by simp [results, Tryd.results74, go_sem, B6.cell]) rfl ⟨by rw [HR.out, if_pos (Or.inr (Or.inr H1.out))]; try rfl, hbv⟩
      have HN : Hid (¬ (q.k ≠ 0 ∨ q.o < 0 ∨ cc < q.o * (q.d + q.p))) := Lib.hid (by have := H0.out; rintro (h | h | h) <;> omega)
      rw [if_neg HN.out] at HR
      clear HN
      by_cases h4 : q.d + q.p = 0
      · have t4 : (q.d + q.p == 0) = true := by simpa using h4
        rw [if_pos h4] at HR
        clear h4
        go_wp2_with fail
        refine abs_post (F := fun W => Blk W (w.heap.size + 1) #[.int .i64 2, .int .i64 s, .int .i64 (t + 1), .int .i64 q.d, .int .i64 q.p, .int .i64 7, .int .i64 q.o, .int .i64 (n + q.o)] ∧ Below w.heap.size w W) ⟨?_, ?_⟩ ?_
        · exact ((((((((HO.out.set 0 (by simp) _).set 1 (by simp) _).set 2 (by simp) _).set 3 (by simp) _).set 4 (by simp) _).set 5 (by simp) _).set 6 (by simp) _).set 7 (by simp) _).alloc _
        · repeat (with_reducible first | exact HB.out | refine bel_drewN ?_ _ | refine bel_drew ?_ | refine Below.alloc ?_ (by have := HB.out.size; simp [World.setCell]; omega) _ | refine Below.setCell ?_ (by first | (simp; done) | (simp; omega)) _)
        rintro V ⟨B6, hbv⟩
        exact bodyPost_ret (v := .tuple #[.agg #[.int .i64 2, .int .i64 s, .int .i64 (t + 1), .int .i64 q.d, .int .i64 q.p, .int .i64 7, .int .i64 q.o, .int .i64 (n + q.o)], .int .i64 0]) (by simp [results, Tryd.results74, go_sem, B6.cell]) rfl ⟨by rw [HR.out]; try rfl, hbv⟩
      · have t4 : (q.d + q.p == 0) = false := by simpa using h4
        rw [if_neg h4] at HR
        clear h4
        go_wp2_with fail
        refine abs_post (F := fun W => Blk W (w.heap.size + 1) #[.int .i64 2, .int .i64 s, .int .i64 (t + 1), .int .i64 q.d, .int .i64 q.p, .int .i64 7, .int .i64 q.o, .int .i64 n] ∧ Below w.heap.size w W) ⟨?_, ?_⟩ ?_
        · exact ((((((((HO.out.set 0 (by simp) _).set 1 (by simp) _).set 2 (by simp) _).set 3 (by simp) _).set 4 (by simp) _).set 5 (by simp) _).set 6 (by simp) _).set 7 (by simp) _).alloc _
        · repeat (with_reducible first | exact HB.out | refine bel_drewN ?_ _ | refine bel_drew ?_ | refine Below.alloc ?_ (by have := HB.out.size; simp [World.setCell]; omega) _ | refine Below.setCell ?_ (by first | (simp; done) | (simp; omega)) _)
        rintro V ⟨B6, hbv⟩
        exact bodyPost_ret (v := .tuple #[.agg #[.int .i64 2, .int .i64 s, .int .i64 (t + 1), .int .i64 q.d, .int .i64 q.p, .int .i64 7, .int .i64 q.o, .int .i64 n], .int .i64 0]) (by simp [results, Tryd.results74, go_sem, B6.cell]) rfl ⟨by rw [HR.out]; try rfl, hbv⟩
    · have t5 : (q.k != 0) = true := by simpa using h1
      have H1 := Lib.hid h1
      clear h1
      go_wp2_with fail
      refine abs_post (F := fun W => Blk W (w.heap.size + 1) #[.int .i64 0, .int .i64 0, .int .i64 0, .int .i64 0, .int .i64 0, .int .i64 0, .int .i64 0, .int .i64 0] ∧ Below w.heap.size w W) ⟨?_, ?_⟩ ?_
      · exact ((((((((HO.out.set 0 (by simp) _).set 1 (by simp) _).set 2 (by simp) _).set 3 (by simp) _).set 4 (by simp) _).set 5 (by simp) _).set 6 (by simp) _).set 7 (by simp) _).alloc _
      · repeat (with_reducible first | exact HB.out | refine bel_drewN ?_ _ | refine bel_drew ?_ | refine Below.alloc ?_ (by have := HB.out.size; simp [World.setCell]; omega) _ | refine Below.setCell ?_ (by first | (simp; done) | (simp; omega)) _)
      rintro V ⟨B6, hbv⟩
      exact bodyPost_ret (v := .tuple #[.agg #[.int .i64 0, .int .i64 0, .int .i64 0, .int .i64 0, .int .i64 0, .int .i64 0, .int .i64 0, .int .i64 0], .int .i64 5]) (by simp [results, Tryd.results74, go_sem, B6.cell]) rfl ⟨by rw [HR.out, if_pos (Or.inl H1.out)]; try rfl, hbv⟩

end Go.Proofs.YtnmanhediiooaaaDoor

/- What the function literals of package resolve do (by the code at 5978601). -/
namespace Go.Proofs.YtnmanhediiooaaaDoor
open Go.ChangeShapes Go.WideShapes Go.ChangeAt Go.RowKit
set_option linter.unusedVariables false
set_option linter.unusedSimpArgs false
set_option maxRecDepth 100000

set_option maxRecDepth 100000 in
set_option maxHeartbeats 1000000 in
theorem case0_any (A : Option Addr) (c : Nat) (ls : List (List Int)) (k o d p el cc pa pg lo s t : Int) (db : Bool) (w : World) (hT : TabOK w) (d0 : 0 ≤ d) (d1 : d ≤ 65535) (p0 : 0 ≤ p) (p1 : p ≤ 65535) (hs : Sg w A ls) (hw : Wd2 ls) (hm : ls.length ≤ 140737488355328) (hf : ∀ j, (seg ls j).length ≤ 140737488355328) (hs0 : -9223372036854775808 ≤ s) (hs1 : s ≤ 9223372036854775807) (ht0 : -9223372036854775808 ≤ t) (ht1 : t ≤ 9223372036854775807) :
    Calls Tryd.prog 71 #[.agg #[.slice A ls.length c, .int .i64 k, .int .i64 o, .int .i64 d, .int .i64 p, .int .i64 el, .int .i64 cc, .bool db, .int .i64 pa, .int .u32 pg, .int .u32 lo, .int .i64 s, .int .i64 t]] w fun e w' => e = .returned (.tuple #[.agg #[.int .i64 (strR ls d p s t).1.k, .int .i64 (strR ls d p s t).1.sg, .int .i64 (strR ls d p s t).1.at', .int .i64 (strR ls d p s t).1.d, .int .i64 (strR ls d p s t).1.p, .int .i64 (strR ls d p s t).1.el, .int .i64 (strR ls d p s t).1.n, .int .i64 (strR ls d p s t).1.cost], .int .i64 (strR ls d p s t).2]) ∧ Below w.heap.size w w' := by
  have Hs := Lib.hid hs
  have HT := Lib.hid hT
  have HH := Lib.hid (fun w2 (hT2 : TabOK w2) hs2 => structure_any A c ls k o d p el cc pa pg lo s t db w2 d0 d1 p0 p1 hs2 hm hs0 hs1 ht0 ht1)
  clear hs hT hw hf
  generalize strR ls d p s t = r at *
  go_enter Tryd.func71, Tryd.ntmps71
  go_wp2_with fail
  refine (HH.out _ ((HT.out.alloc _).alloc _) ((Hs.out.alloc _).alloc _)).mono ?_
  rintro e w1 ⟨rfl, hb⟩
  have BO := (Blk.fresh (w.alloc (.cells #[.slice A ls.length c, .int .i64 k, .int .i64 o, .int .i64 d, .int .i64 p, .int .i64 el, .int .i64 cc, .bool db, .int .i64 pa, .int .u32 pg, .int .u32 lo, .int .i64 s, .int .i64 t] 111)) #[.int .i64 0, .int .i64 0, .int .i64 0, .int .i64 0, .int .i64 0, .int .i64 0, .int .i64 0, .int .i64 0] 77).below hb
  rw [World.size_alloc] at BO
  have HB : Hid (Below w.heap.size w w1) := Lib.hid ((((Below.refl _ _).alloc (Nat.le_refl _) _).alloc (by simp) _).trans (hb.mono (by simp; omega)))
  clear hb HH
  have HO := Lib.hid BO
  obtain ⟨xo, yo, zo⟩ := BO
  go_wp2_with fail
  refine abs_post (F := fun W => Blk W (w.heap.size + 1) #[.int .i64 r.1.k, .int .i64 r.1.sg, .int .i64 r.1.at', .int .i64 r.1.d, .int .i64 r.1.p, .int .i64 r.1.el, .int .i64 r.1.n, .int .i64 r.1.cost] ∧ Below w.heap.size w W) ⟨?_, ?_⟩ ?_
  · exact ((((((((HO.out.set 0 (by simp) _).set 1 (by simp) _).set 2 (by simp) _).set 3 (by simp) _).set 4 (by simp) _).set 5 (by simp) _).set 6 (by simp) _).set 7 (by simp) _)
  · repeat (with_reducible first | exact HB.out | refine bel_drewN ?_ _ | refine bel_drew ?_ | refine Below.alloc ?_ (by have := HB.out.size; simp [World.setCell]; omega) _ | refine Below.setCell ?_ (by first | (simp; done) | (simp; omega)) _)
  rintro V ⟨B6, hbv⟩
  exact bodyPost_ret (v := .tuple #[.agg #[.int .i64 r.1.k, .int .i64 r.1.sg, .int .i64 r.1.at', .int .i64 r.1.d, .int .i64 r.1.p, .int .i64 r.1.el, .int .i64 r.1.n, .int .i64 r.1.cost], .int .i64 r.2]) (by simp [results, Tryd.results71, go_sem, B6.cell]) rfl ⟨rfl, hbv⟩

set_option maxRecDepth 100000 in
set_option maxHeartbeats 1000000 in
theorem case1c_any (A : Option Addr) (c : Nat) (ls : List (List Int)) (k o d p el cc pa pg lo s t : Int) (db : Bool) (w : World) (hT : TabOK w) (h7 : el = 7) (c0 : 0 ≤ cc) (c1 : cc ≤ 536870911) (hs : Sg w A ls) (hw : Wd2 ls) (hm : ls.length ≤ 140737488355328) (hf : ∀ j, (seg ls j).length ≤ 140737488355328) (hs0 : -9223372036854775808 ≤ s) (hs1 : s ≤ 9223372036854775807) (ht0 : -9223372036854775808 ≤ t) (ht1 : t ≤ 9223372036854775807) :
    Calls Tryd.prog 73 #[.agg #[.slice A ls.length c, .int .i64 k, .int .i64 o, .int .i64 d, .int .i64 p, .int .i64 el, .int .i64 cc, .bool db, .int .i64 pa, .int .u32 pg, .int .u32 lo, .int .i64 s, .int .i64 t]] w fun e w' => e = .returned (.tuple #[.agg #[.int .i64 (cmpR ls cc s t).1.k, .int .i64 (cmpR ls cc s t).1.sg, .int .i64 (cmpR ls cc s t).1.at', .int .i64 (cmpR ls cc s t).1.d, .int .i64 (cmpR ls cc s t).1.p, .int .i64 (cmpR ls cc s t).1.el, .int .i64 (cmpR ls cc s t).1.n, .int .i64 (cmpR ls cc s t).1.cost], .int .i64 (cmpR ls cc s t).2]) ∧ Below w.heap.size w w' := by
  have Hs := Lib.hid hs
  have HT := Lib.hid hT
  have HH := Lib.hid (fun w2 (hT2 : TabOK w2) hs2 => composite_any A c ls k o d p el cc pa pg lo s t db w2 hT2 c0 c1 hs2 hw hm hf hs0 hs1 ht0 ht1)
  clear hs hT hw hf
  have t7 : (el == 7) = true := by simpa using h7
  clear h7
  generalize cmpR ls cc s t = r at *
  go_enter Tryd.func73, Tryd.ntmps73
  go_wp2_with fail
  refine (HH.out _ ((HT.out.alloc _).alloc _) ((Hs.out.alloc _).alloc _)).mono ?_
  rintro e w1 ⟨rfl, hb⟩
  have BO := (Blk.fresh (w.alloc (.cells #[.slice A ls.length c, .int .i64 k, .int .i64 o, .int .i64 d, .int .i64 p, .int .i64 el, .int .i64 cc, .bool db, .int .i64 pa, .int .u32 pg, .int .u32 lo, .int .i64 s, .int .i64 t] 111)) #[.int .i64 0, .int .i64 0, .int .i64 0, .int .i64 0, .int .i64 0, .int .i64 0, .int .i64 0, .int .i64 0] 77).below hb
  rw [World.size_alloc] at BO
  have HB : Hid (Below w.heap.size w w1) := Lib.hid ((((Below.refl _ _).alloc (Nat.le_refl _) _).alloc (by simp) _).trans (hb.mono (by simp; omega)))
  clear hb HH
  have HO := Lib.hid BO
  obtain ⟨xo, yo, zo⟩ := BO
  go_wp2_with fail
  refine abs_post (F := fun W => Blk W (w.heap.size + 1) #[.int .i64 r.1.k, .int .i64 r.1.sg, .int .i64 r.1.at', .int .i64 r.1.d, .int .i64 r.1.p, .int .i64 r.1.el, .int .i64 r.1.n, .int .i64 r.1.cost] ∧ Below w.heap.size w W) ⟨?_, ?_⟩ ?_
  · exact ((((((((HO.out.set 0 (by simp) _).set 1 (by simp) _).set 2 (by simp) _).set 3 (by simp) _).set 4 (by simp) _).set 5 (by simp) _).set 6 (by simp) _).set 7 (by simp) _)
  · repeat (with_reducible first | exact HB.out | refine bel_drewN ?_ _ | refine bel_drew ?_ | refine Below.alloc ?_ (by have := HB.out.size; simp [World.setCell]; omega) _ | refine Below.setCell ?_ (by first | (simp; done) | (simp; omega)) _)
  rintro V ⟨B6, hbv⟩
  exact bodyPost_ret (v := .tuple #[.agg #[.int .i64 r.1.k, .int .i64 r.1.sg, .int .i64 r.1.at', .int .i64 r.1.d, .int .i64 r.1.p, .int .i64 r.1.el, .int .i64 r.1.n, .int .i64 r.1.cost], .int .i64 r.2]) (by simp [results, Tryd.results73, go_sem, B6.cell]) rfl ⟨rfl, hbv⟩

set_option maxRecDepth 100000 in
set_option maxHeartbeats 1000000 in
theorem case1l_any (A : Option Addr) (c : Nat) (ls : List (List Int)) (k o d p el cc pa pg lo s t : Int) (db : Bool) (w : World) (hT : TabOK w) (h7 : ¬ el = 7) (e0 : 0 ≤ el) (e7 : el ≤ 7) (c0 : 0 ≤ cc) (c1 : cc ≤ 536870911) (hs : Sg w A ls) (hw : Wd2 ls) (hm : ls.length ≤ 140737488355328) (hf : ∀ j, (seg ls j).length ≤ 140737488355328) (hs0 : -9223372036854775808 ≤ s) (hs1 : s ≤ 9223372036854775807) (ht0 : -9223372036854775808 ≤ t) (ht1 : t ≤ 9223372036854775807) :
    Calls Tryd.prog 73 #[.agg #[.slice A ls.length c, .int .i64 k, .int .i64 o, .int .i64 d, .int .i64 p, .int .i64 el, .int .i64 cc, .bool db, .int .i64 pa, .int .u32 pg, .int .u32 lo, .int .i64 s, .int .i64 t]] w fun e w' => e = .returned (.tuple #[.agg #[.int .i64 (lstR ls el cc s t).1.k, .int .i64 (lstR ls el cc s t).1.sg, .int .i64 (lstR ls el cc s t).1.at', .int .i64 (lstR ls el cc s t).1.d, .int .i64 (lstR ls el cc s t).1.p, .int .i64 (lstR ls el cc s t).1.el, .int .i64 (lstR ls el cc s t).1.n, .int .i64 (lstR ls el cc s t).1.cost], .int .i64 (lstR ls el cc s t).2]) ∧ Below w.heap.size w w' := by
  have Hs := Lib.hid hs
  have HT := Lib.hid hT
  have HH := Lib.hid (fun w2 (hT2 : TabOK w2) hs2 => list_any A c ls k o d p el cc pa pg lo s t db w2 hT2 e0 e7 c0 c1 hs2 hm hs0 hs1 ht0 ht1)
  clear hs hT hw hf
  have t7 : (el == 7) = false := by simpa using h7
  clear h7
  generalize lstR ls el cc s t = r at *
  go_enter Tryd.func73, Tryd.ntmps73
  go_wp2_with fail
  refine (HH.out _ ((HT.out.alloc _).alloc _) ((Hs.out.alloc _).alloc _)).mono ?_
  rintro e w1 ⟨rfl, hb⟩
  have BO := (Blk.fresh (w.alloc (.cells #[.slice A ls.length c, .int .i64 k, .int .i64 o, .int .i64 d, .int .i64 p, .int .i64 el, .int .i64 cc, .bool db, .int .i64 pa, .int .u32 pg, .int .u32 lo, .int .i64 s, .int .i64 t] 111)) #[.int .i64 0, .int .i64 0, .int .i64 0, .int .i64 0, .int .i64 0, .int .i64 0, .int .i64 0, .int .i64 0] 77).below hb
  rw [World.size_alloc] at BO
  have HB : Hid (Below w.heap.size w w1) := Lib.hid ((((Below.refl _ _).alloc (Nat.le_refl _) _).alloc (by simp) _).trans (hb.mono (by simp; omega)))
  clear hb HH
  have HO := Lib.hid BO
  obtain ⟨xo, yo, zo⟩ := BO
  go_wp2_with fail
  refine abs_post (F := fun W => Blk W (w.heap.size + 1) #[.int .i64 r.1.k, .int .i64 r.1.sg, .int .i64 r.1.at', .int .i64 r.1.d, .int .i64 r.1.p, .int .i64 r.1.el, .int .i64 r.1.n, .int .i64 r.1.cost] ∧ Below w.heap.size w W) ⟨?_, ?_⟩ ?_
  · exact ((((((((HO.out.set 0 (by simp) _).set 1 (by simp) _).set 2 (by simp) _).set 3 (by simp) _).set 4 (by simp) _).set 5 (by simp) _).set 6 (by simp) _).set 7 (by simp) _)
  · repeat (with_reducible first | exact HB.out | refine bel_drewN ?_ _ | refine bel_drew ?_ | refine Below.alloc ?_ (by have := HB.out.size; simp [World.setCell]; omega) _ | refine Below.setCell ?_ (by first | (simp; done) | (simp; omega)) _)
  rintro V ⟨B6, hbv⟩
  exact bodyPost_ret (v := .tuple #[.agg #[.int .i64 r.1.k, .int .i64 r.1.sg, .int .i64 r.1.at', .int .i64 r.1.d, .int .i64 r.1.p, .int .i64 r.1.el, .int .i64 r.1.n, .int .i64 r.1.cost], .int .i64 r.2]) (by simp [results, Tryd.results73, go_sem, B6.cell]) rfl ⟨rfl, hbv⟩

def othR (lo : Int) : Ob × Int := (ob0, if lo = 0 then 6 else 4)
set_option maxRecDepth 100000 in
set_option maxHeartbeats 1000000 in
theorem case3_any (A : Option Addr) (c : Nat) (ls : List (List Int)) (k o d p el cc pa pg lo s t : Int) (db : Bool) (w : World) (hk : k = 3) :
    Calls Tryd.prog 76 #[.agg #[.slice A ls.length c, .int .i64 k, .int .i64 o, .int .i64 d, .int .i64 p, .int .i64 el, .int .i64 cc, .bool db, .int .i64 pa, .int .u32 pg, .int .u32 lo, .int .i64 s, .int .i64 t]] w fun e w' => e = .returned (.tuple #[.agg #[.int .i64 (othR lo).1.k, .int .i64 (othR lo).1.sg, .int .i64 (othR lo).1.at', .int .i64 (othR lo).1.d, .int .i64 (othR lo).1.p, .int .i64 (othR lo).1.el, .int .i64 (othR lo).1.n, .int .i64 (othR lo).1.cost], .int .i64 (othR lo).2]) ∧ Below w.heap.size w w' := by
  by_cases hl : lo = 0
  · have HR : Hid (othR lo = (ob0, 6)) := Lib.hid (by unfold othR; rw [if_pos hl])
    have tl : (k == 3 && lo == 0) = true := by simp [hk, hl]
    clear hl hk
    go_enter Tryd.func76, Tryd.ntmps76
    go_wp2_with fail
    refine (IsCapability_any _ _ _ _ _ _ _ _ _ _ _).mono ?_
    rintro e w1 ⟨rfl, hb⟩
    rw [tl]
    clear tl
    have BO := (Blk.fresh (w.alloc (.cells #[.slice A ls.length c, .int .i64 k, .int .i64 o, .int .i64 d, .int .i64 p, .int .i64 el, .int .i64 cc, .bool db, .int .i64 pa, .int .u32 pg, .int .u32 lo, .int .i64 s, .int .i64 t] 111)) #[.int .i64 0, .int .i64 0, .int .i64 0, .int .i64 0, .int .i64 0, .int .i64 0, .int .i64 0, .int .i64 0] 77).below hb
    rw [World.size_alloc] at BO
    have HB : Hid (Below w.heap.size w w1) := Lib.hid ((((Below.refl _ _).alloc (Nat.le_refl _) _).alloc (by simp) _).trans (hb.mono (by simp; omega)))
    clear hb
    have HO := Lib.hid BO
    obtain ⟨xo, yo, zo⟩ := BO
    go_wp2_with fail
    refine abs_post (F := fun W => Blk W (w.heap.size + 1) #[.int .i64 0, .int .i64 0, .int .i64 0, .int .i64 0, .int .i64 0, .int .i64 0, .int .i64 0, .int .i64 0] ∧ Below w.heap.size w W) ⟨?_, ?_⟩ ?_
    · exact ((((((((HO.out.set 0 (by simp) _).set 1 (by simp) _).set 2 (by simp) _).set 3 (by simp) _).set 4 (by simp) _).set 5 (by simp) _).set 6 (by simp) _).set 7 (by simp) _)
    · repeat (with_reducible first | exact HB.out | refine bel_drewN ?_ _ | refine bel_drew ?_ | refine Below.alloc ?_ (by have := HB.out.size; simp [World.setCell]; omega) _ | refine Below.setCell ?_ (by first | (simp; done) | (simp; omega)) _)
    rintro V ⟨B6, hbv⟩
    exact bodyPost_ret (v := .tuple #[.agg #[.int .i64 0, .int .i64 0, .int .i64 0, .int .i64 0, .int .i64 0, .int .i64 0, .int .i64 0, .int .i64 0], .int .i64 6]) (by simp [results, Tryd.results76, go_sem, B6.cell]) rfl ⟨by rw [HR.out]; try rfl, hbv⟩
  · have HR : Hid (othR lo = (ob0, 4)) := Lib.hid (by unfold othR; rw [if_neg hl])
    have tl : (k == 3 && lo == 0) = false := by simp [hk, hl]
    clear hl hk
    go_enter Tryd.func76, Tryd.ntmps76
    go_wp2_with fail
    refine (IsCapability_any _ _ _ _ _ _ _ _ _ _ _).mono ?_
    rintro e w1 ⟨rfl, hb⟩
    rw [tl]
    clear tl
    have BO := (Blk.fresh (w.alloc (.cells #[.slice A ls.length c, .int .i64 k, .int .i64 o, .int .i64 d, .int .i64 p, .int .i64 el, .int .i64 cc, .bool db, .int .i64 pa, .int .u32 pg, .int .u32 lo, .int .i64 s, .int .i64 t] 111)) #[.int .i64 0, .int .i64 0, .int .i64 0, .int .i64 0, .int .i64 0, .int .i64 0, .int .i64 0, .int .i64 0] 77).below hb
    rw [World.size_alloc] at BO
    have HB : Hid (Below w.heap.size w w1) := Lib.hid ((((Below.refl _ _).alloc (Nat.le_refl _) _).alloc (by simp) _).trans (hb.mono (by simp; omega)))
    clear hb
    have HO := Lib.hid BO
    obtain ⟨xo, yo, zo⟩ := BO
    go_wp2_with fail
    refine abs_post (F := fun W => Blk W (w.heap.size + 1) #[.int .i64 0, .int .i64 0, .int .i64 0, .int .i64 0, .int .i64 0, .int .i64 0, .int .i64 0, .int .i64 0] ∧ Below w.heap.size w W) ⟨?_, ?_⟩ ?_
    · exact ((((((((HO.out.set 0 (by simp) _).set 1 (by simp) _).set 2 (by simp) _).set 3 (by simp) _).set 4 (by simp) _).set 5 (by simp) _).set 6 (by simp) _).set 7 (by simp) _)
    · repeat (with_reducible first | exact HB.out | refine bel_drewN ?_ _ | refine bel_drew ?_ | refine Below.alloc ?_ (by have := HB.out.size; simp [World.setCell]; omega) _ | refine Below.setCell ?_ (by first | (simp; done) | (simp; omega)) _)
    rintro V ⟨B6, hbv⟩
    exact bodyPost_ret (v := .tuple #[.agg #[.int .i64 0, .int .i64 0, .int .i64 0, .int .i64 0, .int .i64 0, .int .i64 0, .int .i64 0, .int .i64 0], .int .i64 4]) (by simp [results, Tryd.results76, go_sem, B6.cell]) rfl ⟨by rw [HR.out]; try rfl, hbv⟩

/-- the array of function literals -/
def casesV : Value := .agg #[.func (.func 71) #[] #[], .func (.func 73) #[] #[], .nilFunc, .func (.func 76) #[] #[]]
theorem cases_any (w : World) : Calls Tryd.prog 62 #[] w fun e w' => e = .returned casesV ∧ Below w.heap.size w w' := by
  go_enter Tryd.func62, Tryd.ntmps62
  go_wp2
  refine bodyPost_ret (v := casesV) (by simp [results, Tryd.results62, go_sem, casesV]) rfl ⟨rfl, ?_⟩
  repeat (with_reducible first | exact Below.refl _ _ | refine Below.alloc ?_ (by first | exact Nat.le_refl _ | (simp [World.setCell]; omega)) _ | refine Below.setCell ?_ (by first | (simp; done) | (simp; omega)) _)

end Go.Proofs.YtnmanhediiooaaaDoor

/- What the functions of package resolve do, each by a contract (by the code at 5978601; the laws rest on RObject_any, RElement_any and RPointers_any alone). -/
namespace Go.Proofs.YtnmanhediiooaaaDoor
open Go.ChangeShapes Go.WideShapes Go.ChangeAt Go.RowKit
set_option linter.unusedVariables false
set_option linter.unusedSimpArgs false
set_option maxRecDepth 100000

theorem folR_cases {ls : List (List Int)} (hw : Wd2 ls) (s a : Int) :
    (((followF ls s a).e = 2 ∨ (followF ls s a).e = 3) ∧ (followF ls s a).w = 0 ∧ (followF ls s a).s = 0 ∧ (followF ls s a).b = 0) ∨
    ((followF ls s a).e = 0 ∧ (followF ls s a).w % 4 ≠ 2 ∧ hasB ls s a = true ∧ (wordV ls s a % 4 = 2 ∨ ((followF ls s a).w = wordV ls s a ∧ (followF ls s a).s = s ∧ (followF ls s a).b = a + 1))) := by
  unfold followF
  by_cases h1 : hasB ls s a = false
  · rw [if_pos h1]; exact .inl ⟨.inl rfl, rfl, rfl, rfl⟩
  rw [if_neg h1]
  have h1' : hasB ls s a = true := by simpa using h1
  by_cases h2 : (wordV ls s a % 4 == 2) = false
  · rw [if_pos h2]
    refine .inr ⟨rfl, ?_, h1', .inr ⟨rfl, rfl, rfl⟩⟩
    simpa using h2
  rw [if_neg h2]
  have h2' : wordV ls s a % 4 = 2 := by simpa using h2
  by_cases h3 : hasB ls (wordV ls s a / 4294967296) (wordV ls s a % 4294967296 / 8) = false
  · rw [if_pos h3]; exact .inl ⟨.inl rfl, rfl, rfl, rfl⟩
  rw [if_neg h3]
  by_cases h4 : wordV ls s a / 4 % 2 = 0
  · rw [if_pos h4]
    by_cases h5 : (wordV ls (wordV ls s a / 4294967296) (wordV ls s a % 4294967296 / 8) % 4 == 2) = true
    · rw [if_pos h5]; exact .inl ⟨.inr rfl, rfl, rfl, rfl⟩
    · rw [if_neg h5]
      refine .inr ⟨rfl, ?_, h1', .inl h2'⟩
      simpa using h5
  rw [if_neg h4]
  by_cases h6 : hasB ls (wordV ls s a / 4294967296) (wordV ls s a % 4294967296 / 8 + 1) = false
  · rw [if_pos h6]; exact .inl ⟨.inl rfl, rfl, rfl, rfl⟩
  rw [if_neg h6]
  split
  · exact .inl ⟨.inr rfl, rfl, rfl, rfl⟩
  · rename_i h7
    refine .inr ⟨rfl, ?_, h1', .inl h2'⟩
    have b2 := (wordV_bd hw (wordV ls s a / 4294967296) (wordV ls s a % 4294967296 / 8 + 1)).1
    have h8 : ¬ 1 < (decP (wordV ls (wordV ls s a / 4294967296) (wordV ls s a % 4294967296 / 8 + 1))).k := fun h => h7 (.inr (.inr (.inl h)))
    rw [decP_k _ b2] at h8
    show wordV ls (wordV ls s a / 4294967296) (wordV ls s a % 4294967296 / 8 + 1) % 4 ≠ 2
    omega

theorem abs_codeR {P : Program} {C : Code} {Q : Exit → Act → World → Prop} {a : Act} {V : World} (F : World → Prop) (hF : F V) (h : ∀ W, F W → C.wp P Q a W) : C.wp P Q a V := h V hF

/-- the entry of the array of function literals -/
def CasesAt (k : Int) (f : FuncId) : Prop := ∀ w, (Instr.index 108 casesV (.int .i64 k)).run Tryd.prog w = .ok (.func (.func f) #[] #[]) w
def Entered (f : FuncId) : Prop := ∀ args w, (callFunc f args).run Tryd.prog w = .ok (.enter f args) w
theorem enter0 : Entered 71 := fun args w => by rfl
theorem enter1 : Entered 73 := fun args w => by rfl
theorem enter3 : Entered 76 := fun args w => by rfl
theorem cases0 : CasesAt 0 71 := fun w => by kernel_rfl
theorem cases1 : CasesAt 1 73 := fun w => by kernel_rfl
theorem cases3 : CasesAt 3 76 := fun w => by kernel_rfl
attribute [local irreducible] casesV
attribute [local simp] AllK KnowsV look Is

set_option maxRecDepth 100000 in
set_option maxHeartbeats 4000000 in
theorem Object_tail (A : Option Addr) (c : Nat) (ls : List (List Int)) (s a : Int) (fw fs fb : Int) (p : Ptr) (fid : FuncId) (r : Ob × Int) (w : World) (hT : TabOK w) (hs : Sg w A ls)
    (HFOL : Hid (∀ w2, Sg w2 A ls → Calls Tryd.prog 50 #[.slice A ls.length c, .int .i64 s, .int .i64 a] w2 fun e w' => e = .returned (.tuple #[.int .u64 fw, .int .i64 fs, .int .i64 fb, .int .i64 0]) ∧ Below w2.heap.size w2 w'))
    (HDEC : Hid (∀ w2, Calls Tryd.prog 61 #[.int .u64 fw] w2 fun e w' => e = .returned (.agg #[.int .i64 p.k, .int .i64 p.o, .int .i64 p.d, .int .i64 p.p, .int .i64 p.el, .int .i64 p.c, .bool p.db, .int .i64 p.pa, .int .u32 p.sg, .int .u32 p.lo]) ∧ Below w2.heap.size w2 w'))
    (hw0 : (fw == 0) = false) (hb0 : 0 ≤ fb) (hb1 : fb ≤ 140737488355329) (ho0 : -536870912 ≤ p.o) (ho1 : p.o ≤ 536870911) (hix : CasesAt p.k fid) (hen : Entered fid)
    (HC : Hid (∀ w2, TabOK w2 → Sg w2 A ls → Calls Tryd.prog fid #[.agg #[.slice A ls.length c, .int .i64 p.k, .int .i64 p.o, .int .i64 p.d, .int .i64 p.p, .int .i64 p.el, .int .i64 p.c, .bool p.db, .int .i64 p.pa, .int .u32 p.sg, .int .u32 p.lo, .int .i64 fs, .int .i64 (fb + p.o)]] w2 fun e w' => e = .returned (.tuple #[.agg #[.int .i64 r.1.k, .int .i64 r.1.sg, .int .i64 r.1.at', .int .i64 r.1.d, .int .i64 r.1.p, .int .i64 r.1.el, .int .i64 r.1.n, .int .i64 r.1.cost], .int .i64 r.2]) ∧ Below w2.heap.size w2 w')) :
    Calls Tryd.prog 54 #[.slice A ls.length c, .int .i64 s, .int .i64 a] w fun e w' => e = .returned (.tuple #[.agg #[.int .i64 r.1.k, .int .i64 r.1.sg, .int .i64 r.1.at', .int .i64 r.1.d, .int .i64 r.1.p, .int .i64 r.1.el, .int .i64 r.1.n, .int .i64 r.1.cost], .int .i64 r.2]) ∧ Below w.heap.size w w' := by
  have Hs := Lib.hid hs
  have HT := Lib.hid hT
  have HIX := Lib.hid hix
  have HEN := Lib.hid hen
  clear hs hT hix hen
  go_enter Tryd.func54, Tryd.ntmps54
  go_wp2_with fail
  refine (HFOL.out _ (Hs.out.alloc _)).mono ?_
  rintro e w1 ⟨rfl, hb⟩
  have BO := (Blk.fresh w #[.int .i64 0, .int .i64 0, .int .i64 0, .int .i64 0, .int .i64 0, .int .i64 0, .int .i64 0, .int .i64 0] 77).below hb
  have HB : Hid (Below w.heap.size w w1) := Lib.hid (((Below.refl _ _).alloc (Nat.le_refl _) _).trans (hb.mono (by simp)))
  clear hb HFOL
  have HO := Lib.hid BO
  obtain ⟨xo, yo, zo⟩ := BO
  go_wp2_with fail
  refine (IsNull_any _ _).mono ?_
  rintro e w' ⟨rfl, rfl⟩
  go_wp2_with fail
  refine (HDEC.out _).mono ?_
  rintro e w2 ⟨rfl, hb⟩
  have BO := HO.out.below hb
  have hsz := HB.out.size
  have HB : Hid (Below w.heap.size w w2) := Lib.hid (HB.out.trans (hb.mono hsz))
  clear hb hsz HDEC HO xo yo zo
  have HO := Lib.hid BO
  obtain ⟨xo, yo, zo⟩ := BO
  go_wp2_with fail
  refine abs_codeR (F := fun W => Blk W w.heap.size #[.int .i64 0, .int .i64 0, .int .i64 0, .int .i64 0, .int .i64 0, .int .i64 0, .int .i64 0, .int .i64 0] ∧ Blk W w2.heap.size #[.int .i64 p.k, .int .i64 p.o, .int .i64 p.d, .int .i64 p.p, .int .i64 p.el, .int .i64 p.c, .bool p.db, .int .i64 p.pa, .int .u32 p.sg, .int .u32 p.lo] ∧ Below w.heap.size w W) ⟨?_, ?_, ?_⟩ ?_
  · exact HO.out.alloc _
  · exact Blk.fresh _ _ _
  · exact HB.out.alloc HB.out.size _
  rintro W ⟨h6, h12, hb⟩
  generalize w2.heap.size = b12 at *
  clear HO HB xo yo zo
  rename_i KK hKK
  have H6 := Lib.hid h6
  have H12 := Lib.hid h12
  have HB := Lib.hid hb
  obtain ⟨x6, y6, z6⟩ := h6
  obtain ⟨x12, y12, z12⟩ := h12
  clear hb
  refine wp_region_t15_2 [] (by kernel_rfl) (by kernel_rfl) ?_

  refine t_call (T := Is casesV) (Is casesV) 62 [] (by kernel_rfl) rfl (by kernel_rfl) trivial (stable_is _) (free_is _) (fun _ _ h => h) (fun ρ wc hbc hcn hq => ?_) ?_
  · obtain ⟨hcn, hfn⟩ := hcn
    refine ⟨_, by go_simp; rfl, ?_⟩
    refine (cases_any _).mono ?_
    rintro e w' ⟨rfl, hbq⟩
    exact ⟨_, rfl, rfl, hbq⟩
  refine t_val (u := ?_) [12] (by kernel_rfl) rfl (by kernel_rfl) trivial (fun ρ wc hbc hcn hq => ?_) ?_; rotate_left
  · obtain ⟨hcn, hfn⟩ := hcn
    simp at hq
    go_simp
    rfl
  refine t_val (u := .int .i64 p.k) [32] (by kernel_rfl) rfl (by kernel_rfl) trivial (fun ρ wc hbc hcn hq => ?_) ?_
  · obtain ⟨hcn, hfn⟩ := hcn
    simp at hq
    obtain ⟨hcc, -⟩ := bcell hbc
    simp at hcc
    go_simp
  refine t_val (u := .func (.func fid) #[] #[]) [31, 33] (by kernel_rfl) rfl (by kernel_rfl) trivial (fun ρ wc hbc hcn hq => ?_) ?_
  · obtain ⟨hcn, hfn⟩ := hcn
    simp at hq
    have hix := HIX.out wc
    go_simp
  refine t_val (u := ?_) [0] (by kernel_rfl) rfl (by kernel_rfl) trivial (fun ρ wc hbc hcn hq => ?_) ?_; rotate_left
  · obtain ⟨hcn, hfn⟩ := hcn
    simp at hq
    go_simp
    rfl
  refine t_val (u := ?_) [12] (by kernel_rfl) rfl (by kernel_rfl) trivial (fun ρ wc hbc hcn hq => ?_) ?_; rotate_left
  · obtain ⟨hcn, hfn⟩ := hcn
    simp at hq
    obtain ⟨hcc, -⟩ := bcell hbc
    simp at hcc
    go_simp
    rfl
  refine t_val (u := ?_) [9] (by kernel_rfl) rfl (by kernel_rfl) trivial (fun ρ wc hbc hcn hq => ?_) ?_; rotate_left
  · obtain ⟨hcn, hfn⟩ := hcn
    simp at hq
    go_simp
    rfl
  refine t_val (u := ?_) [10] (by kernel_rfl) rfl (by kernel_rfl) trivial (fun ρ wc hbc hcn hq => ?_) ?_; rotate_left
  · obtain ⟨hcn, hfn⟩ := hcn
    simp at hq
    go_simp
    rfl
  refine t_val (u := ?_) [12] (by kernel_rfl) rfl (by kernel_rfl) trivial (fun ρ wc hbc hcn hq => ?_) ?_; rotate_left
  · obtain ⟨hcn, hfn⟩ := hcn
    simp at hq
    go_simp
    rfl
  refine t_val (u := .int .i64 p.o) [39] (by kernel_rfl) rfl (by kernel_rfl) trivial (fun ρ wc hbc hcn hq => ?_) ?_
  · obtain ⟨hcn, hfn⟩ := hcn
    simp at hq
    obtain ⟨hcc, -⟩ := bcell hbc
    simp at hcc
    go_simp
  refine t_val (u := .int .i64 (fb + p.o)) [38, 40] (by kernel_rfl) rfl (by kernel_rfl) trivial (fun ρ wc hbc hcn hq => ?_) ?_
  · obtain ⟨hcn, hfn⟩ := hcn
    simp at hq
    go_simp
    rw [IntKind.wrap_i64]
    omega
  refine t_val (u := .agg #[.slice A ls.length c, .int .i64 p.k, .int .i64 p.o, .int .i64 p.d, .int .i64 p.p, .int .i64 p.el, .int .i64 p.c, .bool p.db, .int .i64 p.pa, .int .u32 p.sg, .int .u32 p.lo, .int .i64 fs, .int .i64 (fb + p.o)]) [35, 36, 37, 41] (by kernel_rfl) rfl (by kernel_rfl) trivial (fun ρ wc hbc hcn hq => ?_) ?_
  · obtain ⟨hcn, hfn⟩ := hcn
    simp at hq
    go_simp
  refine t_call (T := Is (.tuple #[.agg #[.int .i64 r.1.k, .int .i64 r.1.sg, .int .i64 r.1.at', .int .i64 r.1.d, .int .i64 r.1.p, .int .i64 r.1.el, .int .i64 r.1.n, .int .i64 r.1.cost], .int .i64 r.2])) (Is (.tuple #[.agg #[.int .i64 r.1.k, .int .i64 r.1.sg, .int .i64 r.1.at', .int .i64 r.1.d, .int .i64 r.1.p, .int .i64 r.1.el, .int .i64 r.1.n, .int .i64 r.1.cost], .int .i64 r.2])) fid [34, 42] (by kernel_rfl) rfl (by kernel_rfl) trivial (stable_is _) (free_is _) (fun _ _ h => h) (fun ρ wc hbc hcn hq => ?_) ?_
  · obtain ⟨hcn, hfn⟩ := hcn
    simp at hq
    refine ⟨#[.agg #[.slice A ls.length c, .int .i64 p.k, .int .i64 p.o, .int .i64 p.d, .int .i64 p.p, .int .i64 p.el, .int .i64 p.c, .bool p.db, .int .i64 p.pa, .int .u32 p.sg, .int .u32 p.lo, .int .i64 fs, .int .i64 (fb + p.o)]], by (have hen := HEN.out); go_simp; exact hen _ _, ?_⟩
    have hbel : Below w.heap.size w wc := bel_on (bel_drew HB.out) hbc
    refine (HC.out _ (HT.out.on hbel) (Hs.out.below hbel (Nat.le_refl _))).mono ?_
    rintro e w' ⟨rfl, hbq⟩
    exact ⟨_, rfl, rfl, hbq⟩
  refine t_val (u := .agg #[.int .i64 r.1.k, .int .i64 r.1.sg, .int .i64 r.1.at', .int .i64 r.1.d, .int .i64 r.1.p, .int .i64 r.1.el, .int .i64 r.1.n, .int .i64 r.1.cost]) [43] (by kernel_rfl) rfl (by kernel_rfl) trivial (fun ρ wc hbc hcn hq => ?_) ?_
  · obtain ⟨hcn, hfn⟩ := hcn
    simp at hq
    go_simp
  refine t_val (u := .int .i64 r.2) [43] (by kernel_rfl) rfl (by kernel_rfl) trivial (fun ρ wc hbc hcn hq => ?_) ?_
  · obtain ⟨hcn, hfn⟩ := hcn
    simp at hq
    go_simp
  refine t_end_lit 46 rfl (fun ff w4 hb7 hq => ?_)
  have hb4 : Below W.heap.size W w4 := ⟨hb7.os, hb7.tape, hb7.output, hb7.size, hb7.block⟩
  have HB4 := Lib.hid (bel_on HB.out hb4)
  have B6 := H6.out.below hb4
  clear hb7 hb4 HB H6 x6 y6 z6 x12 y12 z12
  have HB := HB4
  clear HB4
  have H6 := Lib.hid B6
  obtain ⟨x6, y6, z6⟩ := B6
  simp [AllN] at hq
  simp only [frameL, hq, Nat.zero_add, Nat.reduceAdd]
  clear hq
  go_wp2
  refine ⟨rfl, ?_⟩
  go_wp2_with fail
  refine abs_post (F := fun W => Blk W w.heap.size #[.int .i64 r.1.k, .int .i64 r.1.sg, .int .i64 r.1.at', .int .i64 r.1.d, .int .i64 r.1.p, .int .i64 r.1.el, .int .i64 r.1.n, .int .i64 r.1.cost] ∧ Below w.heap.size w W) ⟨?_, ?_⟩ ?_
  · exact ((((((((H6.out.set 0 (by simp) _).set 1 (by simp) _).set 2 (by simp) _).set 3 (by simp) _).set 4 (by simp) _).set 5 (by simp) _).set 6 (by simp) _).set 7 (by simp) _)
  · repeat (with_reducible first | exact HB.out | refine bel_drewN ?_ _ | refine bel_drew ?_ | refine Below.alloc ?_ (by have := HB.out.size; simp [World.setCell]; omega) _ | refine Below.setCell ?_ (by first | (simp; done) | (simp; omega)) _)
  rintro V ⟨B6, hbv⟩
  exact bodyPost_ret (v := .tuple #[.agg #[.int .i64 r.1.k, .int .i64 r.1.sg, .int .i64 r.1.at', .int .i64 r.1.d, .int .i64 r.1.p, .int .i64 r.1.el, .int .i64 r.1.n, .int .i64 r.1.cost], .int .i64 r.2]) (by simp [results, Tryd.results54, go_sem, B6.cell]) rfl ⟨rfl, hbv⟩

set_option maxRecDepth 100000 in
set_option maxHeartbeats 1000000 in
theorem Object_err (A : Option Addr) (c : Nat) (ls : List (List Int)) (s a : Int) (q : Fol) (w : World) (hs : Sg w A ls) (hq : q.e ≠ 0)
    (HFOL : Hid (∀ w2, Sg w2 A ls → Calls Tryd.prog 50 #[.slice A ls.length c, .int .i64 s, .int .i64 a] w2 fun e w' => e = .returned (.tuple #[.int .u64 q.w, .int .i64 q.s, .int .i64 q.b, .int .i64 q.e]) ∧ Below w2.heap.size w2 w')) :
    Calls Tryd.prog 54 #[.slice A ls.length c, .int .i64 s, .int .i64 a] w fun e w' => e = .returned (.tuple #[.agg #[.int .i64 0, .int .i64 0, .int .i64 0, .int .i64 0, .int .i64 0, .int .i64 0, .int .i64 0, .int .i64 0], .int .i64 q.e]) ∧ Below w.heap.size w w' := by
  have Hs := Lib.hid hs
  have t1 : (q.e != 0) = true := by simpa using hq
  clear hs hq
  go_enter Tryd.func54, Tryd.ntmps54
  go_wp2_with fail
  refine (HFOL.out _ (Hs.out.alloc _)).mono ?_
  rintro e w1 ⟨rfl, hb⟩
  have BO := (Blk.fresh w #[.int .i64 0, .int .i64 0, .int .i64 0, .int .i64 0, .int .i64 0, .int .i64 0, .int .i64 0, .int .i64 0] 77).below hb
  have HB : Hid (Below w.heap.size w w1) := Lib.hid (((Below.refl _ _).alloc (Nat.le_refl _) _).trans (hb.mono (by simp)))
  clear hb HFOL
  have HO := Lib.hid BO
  obtain ⟨xo, yo, zo⟩ := BO
  go_wp2_with fail
  refine abs_post (F := fun W => Blk W w.heap.size #[.int .i64 0, .int .i64 0, .int .i64 0, .int .i64 0, .int .i64 0, .int .i64 0, .int .i64 0, .int .i64 0] ∧ Below w.heap.size w W) ⟨?_, ?_⟩ ?_
  · exact ((((((((HO.out.set 0 (by simp) _).set 1 (by simp) _).set 2 (by simp) _).set 3 (by simp) _).set 4 (by simp) _).set 5 (by simp) _).set 6 (by simp) _).set 7 (by simp) _)
  · repeat (with_reducible first | exact HB.out | refine bel_drewN ?_ _ | refine bel_drew ?_ | refine Below.alloc ?_ (by have := HB.out.size; simp [World.setCell]; omega) _ | refine Below.setCell ?_ (by first | (simp; done) | (simp; omega)) _)
  rintro V ⟨B6, hbv⟩
  exact bodyPost_ret (v := .tuple #[.agg #[.int .i64 0, .int .i64 0, .int .i64 0, .int .i64 0, .int .i64 0, .int .i64 0, .int .i64 0, .int .i64 0], .int .i64 q.e]) (by simp [results, Tryd.results54, go_sem, B6.cell]) rfl ⟨rfl, hbv⟩

set_option maxRecDepth 100000 in
set_option maxHeartbeats 1000000 in
theorem Object_nul (A : Option Addr) (c : Nat) (ls : List (List Int)) (s a : Int) (q : Fol) (w : World) (hs : Sg w A ls) (hq : q.e = 0) (hw : q.w = 0)
    (HFOL : Hid (∀ w2, Sg w2 A ls → Calls Tryd.prog 50 #[.slice A ls.length c, .int .i64 s, .int .i64 a] w2 fun e w' => e = .returned (.tuple #[.int .u64 q.w, .int .i64 q.s, .int .i64 q.b, .int .i64 q.e]) ∧ Below w2.heap.size w2 w')) :
    Calls Tryd.prog 54 #[.slice A ls.length c, .int .i64 s, .int .i64 a] w fun e w' => e = .returned (.tuple #[.agg #[.int .i64 0, .int .i64 0, .int .i64 0, .int .i64 0, .int .i64 0, .int .i64 0, .int .i64 0, .int .i64 0], .int .i64 0]) ∧ Below w.heap.size w w' := by
  have Hs := Lib.hid hs
  have t1 : (q.e != 0) = false := by simpa using hq
  have t2 : (q.w == 0) = true := by simpa using hw
  clear hs hq hw
  go_enter Tryd.func54, Tryd.ntmps54
  go_wp2_with fail
  refine (HFOL.out _ (Hs.out.alloc _)).mono ?_
  rintro e w1 ⟨rfl, hb⟩
  have BO := (Blk.fresh w #[.int .i64 0, .int .i64 0, .int .i64 0, .int .i64 0, .int .i64 0, .int .i64 0, .int .i64 0, .int .i64 0] 77).below hb
  have HB : Hid (Below w.heap.size w w1) := Lib.hid (((Below.refl _ _).alloc (Nat.le_refl _) _).trans (hb.mono (by simp)))
  clear hb HFOL
  have HO := Lib.hid BO
  obtain ⟨xo, yo, zo⟩ := BO
  go_wp2_with fail
  refine (IsNull_any _ _).mono ?_
  rintro e w' ⟨rfl, rfl⟩
  go_wp2_with fail
  refine abs_post (F := fun W => Blk W w.heap.size #[.int .i64 0, .int .i64 0, .int .i64 0, .int .i64 0, .int .i64 0, .int .i64 0, .int .i64 0, .int .i64 0] ∧ Below w.heap.size w W) ⟨?_, ?_⟩ ?_
  · exact ((((((((HO.out.set 0 (by simp) _).set 1 (by simp) _).set 2 (by simp) _).set 3 (by simp) _).set 4 (by simp) _).set 5 (by simp) _).set 6 (by simp) _).set 7 (by simp) _)
  · repeat (with_reducible first | exact HB.out | refine bel_drewN ?_ _ | refine bel_drew ?_ | refine Below.alloc ?_ (by have := HB.out.size; simp [World.setCell]; omega) _ | refine Below.setCell ?_ (by first | (simp; done) | (simp; omega)) _)
  rintro V ⟨B6, hbv⟩
  exact bodyPost_ret (v := .tuple #[.agg #[.int .i64 0, .int .i64 0, .int .i64 0, .int .i64 0, .int .i64 0, .int .i64 0, .int .i64 0, .int .i64 0], .int .i64 0]) (by simp [results, Tryd.results54, go_sem, B6.cell]) rfl ⟨rfl, hbv⟩

theorem RObject_any (A : Option Addr) (c : Nat) (ls : List (List Int)) (s a : Int) (w : World) (hT : TabOK w) (hs : Sg w A ls) (hw : Wd2 ls) (hm : ls.length ≤ 140737488355328) (hf : ∀ j, (seg ls j).length ≤ 140737488355328)
    (hs0 : -9223372036854775808 ≤ s) (hs1 : s ≤ 9223372036854775807) (ha0 : -9223372036854775808 ≤ a) (ha1 : a ≤ 9223372036854775807) :
    Calls Tryd.prog 54 #[.slice A ls.length c, .int .i64 s, .int .i64 a] w fun e w' => e = .returned (.tuple #[.agg #[.int .i64 (objF ls s a).1.k, .int .i64 (objF ls s a).1.sg, .int .i64 (objF ls s a).1.at', .int .i64 (objF ls s a).1.d, .int .i64 (objF ls s a).1.p, .int .i64 (objF ls s a).1.el, .int .i64 (objF ls s a).1.n, .int .i64 (objF ls s a).1.cost], .int .i64 (objF ls s a).2]) ∧ Below w.heap.size w w' := by
  have HFOL := Lib.hid (fun w2 hs2 => FFollow_any A c ls s a w2 hs2 hw hm hf hs0 hs1 ha0 ha1)
  have hbd := followF_bd hw hm hf s a
  have hfc := folR_cases hw s a
  have hpd := decP_bd (followF ls s a).w hbd.1 hbd.2.1
  have hpk := decP_k (followF ls s a).w hbd.1
  have HDEC := Lib.hid (fun w2 => Decode_any (followF ls s a).w w2 hbd.1 hbd.2.1)
  have HOF : Hid (objF ls s a = if (followF ls s a).e ≠ 0 ∨ (followF ls s a).w = 0 then (ob0, (followF ls s a).e) else objP ls (decP (followF ls s a).w) (followF ls s a).s (followF ls s a).b) := Lib.hid rfl
  generalize followF ls s a = q at *
  by_cases he : q.e = 0
  · by_cases h0 : q.w = 0
    · have hr := HOF.out
      rw [if_pos (Or.inr h0)] at hr
      rw [hr, he]
      exact Object_nul A c ls s a q w hs he h0 HFOL
    · have hr := HOF.out
      rw [if_neg (by rintro (h | h); exact h he; exact h0 h)] at hr
      rw [hr]
      have hne : q.w % 4 ≠ 2 := by rcases hfc with ⟨h, _⟩ | ⟨_, h, _⟩ <;> omega
      have hb0 : (q.w == 0) = false := by simpa using h0
      obtain ⟨qw, qs, qb, qe⟩ := q
      simp only at he hr hne hb0 hpk hpd hbd HFOL HDEC ⊢
      subst he
      generalize decP qw = p at *
      have hk : p.k = 0 ∨ p.k = 1 ∨ p.k = 3 := by omega
      rcases hk with hk | hk | hk
      · have hr2 : objP ls p qs qb = strR ls p.d p.p qs (qb + p.o) := by
          unfold objP strR
          rw [if_neg (by omega), if_pos hk]
        rw [hr2]
        refine Object_tail A c ls s a qw qs qb p 71 _ w hT hs HFOL HDEC hb0 (by omega) (by omega) (by omega) (by omega) (by rw [hk]; exact cases0) enter0 (Lib.hid fun w2 hT2 hs2 => ?_)
        exact case0_any A c ls p.k p.o p.d p.p p.el p.c p.pa p.sg p.lo qs (qb + p.o) p.db w2 hT2 (by omega) (by omega) (by omega) (by omega) hs2 hw hm hf (by omega) (by omega) (by omega) (by omega)
      · by_cases h7 : p.el = 7
        · have hr2 : objP ls p qs qb = cmpR ls p.c qs (qb + p.o) := by
            unfold objP cmpR
            rw [if_neg (by omega), if_neg (by omega), h7]
            cases inB ls qs (qb + p.o) (wordsI 7 p.c) <;> simp
          rw [hr2]
          refine Object_tail A c ls s a qw qs qb p 73 _ w hT hs HFOL HDEC hb0 (by omega) (by omega) (by omega) (by omega) (by rw [hk]; exact cases1) enter1 (Lib.hid fun w2 hT2 hs2 => ?_)
          exact case1c_any A c ls p.k p.o p.d p.p p.el p.c p.pa p.sg p.lo qs (qb + p.o) p.db w2 hT2 h7 (by omega) (by omega) hs2 hw hm hf (by omega) (by omega) (by omega) (by omega)
        · have hr2 : objP ls p qs qb = lstR ls p.el p.c qs (qb + p.o) := by
            unfold objP lstR
            rw [if_neg (by omega), if_neg (by omega), if_neg h7]
            cases inB ls qs (qb + p.o) (wordsI p.el p.c) <;> simp
          rw [hr2]
          refine Object_tail A c ls s a qw qs qb p 73 _ w hT hs HFOL HDEC hb0 (by omega) (by omega) (by omega) (by omega) (by rw [hk]; exact cases1) enter1 (Lib.hid fun w2 hT2 hs2 => ?_)
          exact case1l_any A c ls p.k p.o p.d p.p p.el p.c p.pa p.sg p.lo qs (qb + p.o) p.db w2 hT2 h7 (by omega) (by omega) (by omega) (by omega) hs2 hw hm hf (by omega) (by omega) (by omega) (by omega)
      · have hr2 : objP ls p qs qb = othR p.lo := by
          unfold objP othR
          rw [if_pos hk]
        rw [hr2]
        refine Object_tail A c ls s a qw qs qb p 76 _ w hT hs HFOL HDEC hb0 (by omega) (by omega) (by omega) (by omega) (by rw [hk]; exact cases3) enter3 (Lib.hid fun w2 hT2 hs2 => ?_)
        exact case3_any A c ls p.k p.o p.d p.p p.el p.c p.pa p.sg p.lo qs (qb + p.o) p.db w2 hk
  · have hr := HOF.out
    rw [if_pos (Or.inl he)] at hr
    rw [hr]
    exact Object_err A c ls s a q w hs he HFOL

set_option maxRecDepth 100000 in
theorem RElement_any (k sg at' d p el n cost i : Int) (w : World) (h0 : 0 ≤ i) (h1 : i ≤ 536870911) (h2 : 0 ≤ at') (h3 : at' ≤ 281474976710656) (h4 : 0 ≤ d) (h5 : d ≤ 65535) (h6 : 0 ≤ p) (h7 : p ≤ 65535) :
    Calls Tryd.prog 45 #[.agg #[.int .i64 k, .int .i64 sg, .int .i64 at', .int .i64 d, .int .i64 p, .int .i64 el, .int .i64 n, .int .i64 cost], .int .i64 i] w fun e w' => e = .returned (.agg #[.int .i64 1, .int .i64 sg, .int .i64 (at' + i * (d + p)), .int .i64 d, .int .i64 p, .int .i64 0, .int .i64 0, .int .i64 0]) ∧ Below w.heap.size w w' := by
  have m0 : 0 ≤ i * (d + p) := Int.mul_nonneg (by omega) (by omega)
  have m1 : i * (d + p) ≤ 536870911 * 131070 := Int.mul_le_mul (by omega) (by omega) (by omega) (by omega)
  go_enter Tryd.func45, Tryd.ntmps45
  go_wp2_with fail
  refine abs_post (F := fun W => Blk W (w.heap.size + 1) #[.int .i64 1, .int .i64 sg, .int .i64 (at' + i * (d + p)), .int .i64 d, .int .i64 p, .int .i64 0, .int .i64 0, .int .i64 0] ∧ Below w.heap.size w W) ⟨?_, ?_⟩ ?_
  · have h := (Blk.fresh (w.alloc (.cells #[.int .i64 k, .int .i64 sg, .int .i64 at', .int .i64 d, .int .i64 p, .int .i64 el, .int .i64 n, .int .i64 cost] 77)) #[.int .i64 1, .int .i64 sg, .int .i64 (at' + i * (d + p)), .int .i64 d, .int .i64 p, .int .i64 0, .int .i64 0, .int .i64 0] 77)
    simpa using h
  · exact ((Below.refl _ _).alloc (Nat.le_refl _) _).alloc (by simp) _
  rintro V ⟨B6, hbv⟩
  exact bodyPost_ret (v := .agg #[.int .i64 1, .int .i64 sg, .int .i64 (at' + i * (d + p)), .int .i64 d, .int .i64 p, .int .i64 0, .int .i64 0, .int .i64 0]) (by simp [results, Tryd.results45, go_sem, B6.cell]) rfl ⟨rfl, hbv⟩

set_option maxRecDepth 100000 in
theorem RPointers_any (k sg at' d p el n cost : Int) (w : World) (h1 : 0 ≤ at') (h2 : at' ≤ 281474976710656) (h3 : 0 ≤ d) (h4 : d ≤ 65535) :
    Calls Tryd.prog 58 #[.agg #[.int .i64 k, .int .i64 sg, .int .i64 at', .int .i64 d, .int .i64 p, .int .i64 el, .int .i64 n, .int .i64 cost]] w fun e w' => e = .returned (.tuple #[.int .i64 (ptrO ⟨k, sg, at', d, p, el, n, cost⟩).1, .int .i64 (ptrO ⟨k, sg, at', d, p, el, n, cost⟩).2]) ∧ Below w.heap.size w w' := by
  by_cases k1 : k = 1
  · by_cases hp : 0 < p
    · have HP : Hid (ptrO ⟨k, sg, at', d, p, el, n, cost⟩ = (at' + d, p)) := Lib.hid (by unfold ptrO; rw [if_pos ⟨k1, hp⟩])
      subst k1
      rw [HP.out]
      clear HP
      go_enter Tryd.func58, Tryd.ntmps58
      go_wp2
      go_quiet (fail)
      go_wp2
      go_ret2
      exact ⟨rfl, bel_drewN ((Below.refl _ _).alloc (Nat.le_refl _) _) _⟩
    · have HP : Hid (ptrO ⟨k, sg, at', d, p, el, n, cost⟩ = (0, 0)) := Lib.hid (by unfold ptrO; rw [if_neg (fun h => hp h.2), if_neg (fun h => by have := h.1; simp only at this; omega)])
      subst k1
      rw [HP.out]
      clear HP
      go_enter Tryd.func58, Tryd.ntmps58
      go_wp2
      go_ret2
      exact ⟨rfl, (Below.refl _ _).alloc (Nat.le_refl _) _⟩
  · have t1 : (k == 1) = false := by simpa using k1
    by_cases k2 : k = 2
    · by_cases e6 : el = 6
      · by_cases hn : 0 < n
        · have HP : Hid (ptrO ⟨k, sg, at', d, p, el, n, cost⟩ = (at', n)) := Lib.hid (by unfold ptrO; rw [if_neg (fun h => k1 h.1), if_pos ⟨k2, e6, hn⟩])
          clear t1 k1
          subst k2 e6
          rw [HP.out]
          clear HP
          go_enter Tryd.func58, Tryd.ntmps58
          go_wp2
          go_quiet (fail)
          go_wp2
          go_ret2
          exact ⟨rfl, bel_drewN ((Below.refl _ _).alloc (Nat.le_refl _) _) _⟩
        · have HP : Hid (ptrO ⟨k, sg, at', d, p, el, n, cost⟩ = (0, 0)) := Lib.hid (by unfold ptrO; rw [if_neg (fun h => k1 h.1), if_neg (fun h => hn h.2.2)])
          clear t1 k1
          subst k2 e6
          rw [HP.out]
          clear HP
          go_enter Tryd.func58, Tryd.ntmps58
          go_wp2
          go_ret2
          exact ⟨rfl, (Below.refl _ _).alloc (Nat.le_refl _) _⟩
      · have HP : Hid (ptrO ⟨k, sg, at', d, p, el, n, cost⟩ = (0, 0)) := Lib.hid (by unfold ptrO; rw [if_neg (fun h => k1 h.1), if_neg (fun h => e6 h.2.1)])
        have t3 : (el == 6) = false := by simpa using e6
        clear t1 k1 e6
        subst k2
        rw [HP.out]
        clear HP
        go_enter Tryd.func58, Tryd.ntmps58
        go_wp2
        go_ret2
        exact ⟨rfl, (Below.refl _ _).alloc (Nat.le_refl _) _⟩
    · have HP : Hid (ptrO ⟨k, sg, at', d, p, el, n, cost⟩ = (0, 0)) := Lib.hid (by unfold ptrO; rw [if_neg (fun h => k1 h.1), if_neg (fun h => k2 h.1)])
      have t2 : (k == 2) = false := by simpa using k2
      clear k1 k2
      rw [HP.out]
      clear HP
      go_enter Tryd.func58, Tryd.ntmps58
      go_wp2
      go_ret2
      exact ⟨rfl, (Below.refl _ _).alloc (Nat.le_refl _) _⟩

theorem RPointers_is (k sg at' d p el n cost x y : Int) (w : World) (h1 : 0 ≤ at') (h2 : at' ≤ 281474976710656) (h3 : 0 ≤ d) (h4 : d ≤ 65535) (hp : ptrO ⟨k, sg, at', d, p, el, n, cost⟩ = (x, y)) :
    Calls Tryd.prog 58 #[.agg #[.int .i64 k, .int .i64 sg, .int .i64 at', .int .i64 d, .int .i64 p, .int .i64 el, .int .i64 n, .int .i64 cost]] w fun e w' => e = .returned (.tuple #[.int .i64 x, .int .i64 y]) ∧ Below w.heap.size w w' := by
  have h := RPointers_any k sg at' d p el n cost w h1 h2 h3 h4
  rw [hp] at h
  exact h
end Go.Proofs.YtnmanhediiooaaaDoor

/- Package denote: the bytes of an object. -/
namespace Go.Proofs.YtnmanhediiooaaaDoor
open Go.ChangeShapes Go.WideShapes Go.ChangeAt Go.RowKit
set_option linter.unusedVariables false
set_option linter.unusedSimpArgs false
set_option maxRecDepth 100000
attribute [local simp] AllK KnowsV look Is

def TupG (lo : Nat) (xs : List Int) (bb : Bool) : Fact := fun v w => ∃ u, v = .tuple #[u, .bool bb] ∧ Got w lo 43 .u64 u xs
theorem stable_tupg (lo : Nat) (xs : List Int) (bb : Bool) : stable (TupG lo xs bb) := fun v w w' ⟨u, h1, h2⟩ hb => ⟨u, h1, h2.below hb (Nat.le_refl _)⟩
def WrdG (lo : Nat) (xs : List Int) : Fact := fun v w => Got w lo 43 .u64 v xs
theorem stable_wrdg (lo : Nat) (xs : List Int) : stable (WrdG lo xs) := fun v w w' h hb => Got.below h hb (Nat.le_refl _)
def DatG (lo : Nat) (xs : List Int) : Fact := fun v w => Got w lo 5 .u8 v xs
theorem stable_datg (lo : Nat) (xs : List Int) : stable (DatG lo xs) := fun v w w' h hb => Got.below h hb (Nat.le_refl _)

set_option maxHeartbeats 4000000 in
theorem bytes_walk (b : Nat) (A : Option Addr) (n c : Nat) (D X O m : Int) (o : Ob) (k : Int) (xs : List Int) (bb : Bool) (w0 w : World) (hb : Below b w0 w) (hk : Blk w b #[.slice A n c, .int .i64 D, .int .i64 X, .int .i64 O, .int .i64 m])
    (HSL : Hid (∀ w2, Below b w0 w2 → Calls Tryd.prog 78 #[.slice A n c, .int .i64 o.sg, .int .i64 o.at', .int .i64 k] w2 fun e w' => ∃ v, e = .returned (.tuple #[v, .bool bb]) ∧ Got w' w2.heap.size 43 .u64 v xs ∧ Below w2.heap.size w2 w'))
    (hw : Wds xs) (hl : xs.length ≤ 20000000) :
    Calls Tryd.prog 64 #[.pointer (some ⟨b, 0, none⟩), .agg #[.int .i64 o.k, .int .i64 o.sg, .int .i64 o.at', .int .i64 o.d, .int .i64 o.p, .int .i64 o.el, .int .i64 o.n, .int .i64 o.cost], .int .i64 k] w fun e w' => ∃ v, e = .returned v ∧ Got w' w.heap.size 5 .u8 v (bytesOf xs) ∧ Below w.heap.size w w' := by
  have hlt := hk.lt
  have HB1 := Lib.hid ((Below.refl w.heap.size w).alloc (Nat.le_refl _) (.cells (obA o) 77))
  have HZ : Hid (w.heap.size ≤ (w.alloc (.cells (obA o) 77)).heap.size) := Lib.hid (by simp)
  have HB := Lib.hid (fun (w2 : World) (h : Below (w.alloc (.cells (obA o) 77)).heap.size (w.alloc (.cells (obA o) 77)) w2) => hb.trans ((bel_on HB1.out h).mono (Nat.le_of_lt hlt)))
  have HT1 := Lib.hid (hk.alloc (.cells (obA o) 77))
  have HO1 : Hid (Blk (w.alloc (.cells (obA o) 77)) w.heap.size (obA o)) := Lib.hid (Blk.fresh _ _ _)
  have HW := Lib.hid hw
  unfold obA at HB1 HZ HB HT1 HO1
  clear hb hk hlt hw
  go_enter Tryd.func64, Tryd.ntmps64
  go_wp2_with fail
  refine abs_code10 (F := fun W => W = w.alloc (.cells #[.int .i64 o.k, .int .i64 o.sg, .int .i64 o.at', .int .i64 o.d, .int .i64 o.p, .int .i64 o.el, .int .i64 o.n, .int .i64 o.cost] 77)) rfl ?_
  rintro W1 hW1
  rw [← hW1] at HB1 HZ HB HT1 HO1
  clear hW1
  rename_i KK hKK
  refine wp_region_chain (by kernel_rfl) (by kernel_rfl) ?_
  refine chain_val (u := ?_) [0] rfl (by kernel_rfl) trivial (fun ρ wc hbc hcn hq => ?_) ?_; rotate_left
  · obtain ⟨hcn, hfn⟩ := hcn
    simp at hq
    go_simp
    rfl
  refine chain_val (u := ?_) [10] rfl (by kernel_rfl) trivial (fun ρ wc hbc hcn hq => ?_) ?_; rotate_left
  · obtain ⟨hcn, hfn⟩ := hcn
    simp at hq
    go_simp
    rfl
  refine chain_val (u := ?_) [11] rfl (by kernel_rfl) trivial (fun ρ wc hbc hcn hq => ?_) ?_; rotate_left
  · obtain ⟨hcn, hfn⟩ := hcn
    simp at hq
    go_simp
    rfl
  refine chain_val (u := ?_) [12] rfl (by kernel_rfl) trivial (fun ρ wc hbc hcn hq => ?_) ?_; rotate_left
  · obtain ⟨hcn, hfn⟩ := hcn
    simp at hq
    have x1 := (HT1.out.drew.below hbc).cell
    have x2 := (HO1.out.drew.below hbc).cell
    go_simp
    rfl
  refine chain_val (u := ?_) [4] rfl (by kernel_rfl) trivial (fun ρ wc hbc hcn hq => ?_) ?_; rotate_left
  · obtain ⟨hcn, hfn⟩ := hcn
    simp at hq
    go_simp
    rfl
  refine chain_val (u := ?_) [14] rfl (by kernel_rfl) trivial (fun ρ wc hbc hcn hq => ?_) ?_; rotate_left
  · obtain ⟨hcn, hfn⟩ := hcn
    simp at hq
    have x1 := (HT1.out.drew.below hbc).cell
    have x2 := (HO1.out.drew.below hbc).cell
    go_simp
    rfl
  refine chain_val (u := ?_) [4] rfl (by kernel_rfl) trivial (fun ρ wc hbc hcn hq => ?_) ?_; rotate_left
  · obtain ⟨hcn, hfn⟩ := hcn
    simp at hq
    go_simp
    rfl
  refine chain_val (u := ?_) [16] rfl (by kernel_rfl) trivial (fun ρ wc hbc hcn hq => ?_) ?_; rotate_left
  · obtain ⟨hcn, hfn⟩ := hcn
    simp at hq
    have x1 := (HT1.out.drew.below hbc).cell
    have x2 := (HO1.out.drew.below hbc).cell
    go_simp
    rfl
  refine chain_val (u := ?_) [2] rfl (by kernel_rfl) trivial (fun ρ wc hbc hcn hq => ?_) ?_; rotate_left
  · obtain ⟨hcn, hfn⟩ := hcn
    simp at hq
    go_simp
    rfl
  refine chain_call (T := TupG w.heap.size xs bb) 78 [13, 15, 17, 18] rfl (by kernel_rfl) trivial (stable_tupg _ _ _) (fun ρ wc hbc hcn hq => ?_) ?_
  · obtain ⟨hcn, hfn⟩ := hcn
    simp at hq
    refine ⟨_, by go_simp; rfl, ?_⟩
    refine (HSL.out _ (HB.out _ (bel_undrew hbc))).mono ?_
    rintro e w' ⟨v, rfl, hg, hbq⟩
    exact ⟨_, rfl, ⟨v, rfl, hg.mono (Nat.le_trans HZ.out hbc.size)⟩, hbq⟩
  refine chain_new (T := TupG w.heap.size xs bb) [19] rfl (by kernel_rfl) trivial (stable_tupg _ _ _) (fun ρ wc hbc hcn hq => ?_) ?_
  · obtain ⟨hcn, hfn⟩ := hcn
    simp at hq
    exact ⟨_, wc, by go_simp, hq, Below.refl _ _⟩
  refine chain_new (T := WrdG w.heap.size xs) [9] rfl (by kernel_rfl) trivial (stable_wrdg _ _) (fun ρ wc hbc hcn hq => ?_) ?_
  · obtain ⟨hcn, hfn⟩ := hcn
    simp at hq
    obtain ⟨u, hu, hg⟩ := hq
    exact ⟨u, wc, by go_simp, hg, Below.refl _ _⟩
  refine chain_new (T := Any) [9] rfl (by kernel_rfl) trivial (stable_anyF) (fun ρ wc hbc hcn hq => ?_) ?_
  · obtain ⟨hcn, hfn⟩ := hcn
    simp at hq
    obtain ⟨u, hu, hg⟩ := hq
    exact ⟨.bool bb, wc, by go_simp, trivial, Below.refl _ _⟩
  refine chain_new (T := WrdG w.heap.size xs) [20] rfl (by kernel_rfl) trivial (stable_wrdg _ _) (fun ρ wc hbc hcn hq => ?_) ?_
  · obtain ⟨hcn, hfn⟩ := hcn
    simp at hq
    exact ⟨_, wc, by go_simp, hq, Below.refl _ _⟩
  refine chain_new (T := Any) [21] rfl (by kernel_rfl) trivial (stable_anyF) (fun ρ wc hbc hcn hq => ?_) ?_
  · obtain ⟨hcn, hfn⟩ := hcn
    simp at hq
    exact ⟨ρ (.tmp 21), wc, by go_simp, trivial, Below.refl _ _⟩

  refine chain_end_lit 24 rfl (fun ff w5 hb5 hk => ?_)
  have h7 := allN_atF hk 7 (by omega) (by omega)
  simp [KnowsV, look] at h7
  have hg : Got w5 w.heap.size 43 .u64 (ff 7) xs := h7
  obtain ⟨A1, c1, e7, hc0, hm0, hri, hnil⟩ := Got.full hg
  simp [AllN] at hk
  simp only [frameL, hk, e7]
  refine hKK _ _ ?_
  have HR := Lib.hid hri
  have HBW : Hid (Below w.heap.size w w5) := Lib.hid (bel_on HB1.out (bel_undrew hb5))
  clear hk hri hg h7 e7 hb5 HB1 HB HT1 HO1 HSL
  go_wp2_with fail
  refine (Bytes_any A1 c1 xs _ HR.out HW.out (by omega)).mono ?_
  rintro e w6 ⟨v, rfl, hg, hb6⟩
  have hz := HBW.out.size
  have HG := Lib.hid (hg.mono hz)
  have HB6 := Lib.hid (bel_on HBW.out hb6)
  clear hg hb6
  go_wp2
  go_ret
  exact ⟨v, rfl, HG.out, HB6.out⟩

theorem sliceD {b : Nat} {A : Option Addr} {ls : List (List Int)} {w0 w2 : World} (c : Nat) (E : EnvD b A ls w0) (s a n : Int) (hs0 : -9223372036854775808 ≤ s) (hs1 : s ≤ 9223372036854775807) (ha0 : -9223372036854775808 ≤ a) (ha1 : a ≤ 9223372036854775807) (hn0 : -9223372036854775808 ≤ n) (hn1 : n ≤ 9223372036854775807) (hb : Below b w0 w2) :
    Calls Tryd.prog 78 #[.slice A ls.length c, .int .i64 s, .int .i64 a, .int .i64 n] w2 fun e w' => ∃ v, e = .returned (.tuple #[v, .bool (inB ls s a n)]) ∧ Got w' w2.heap.size 43 .u64 v (datW ls s a n) ∧ Below w2.heap.size w2 w' :=
  ASlice_any A c ls s a n w2 (E.sgAt hb) E.m2 (fun j => by have := E.f j; omega) hs0 hs1 ha0 ha1 hn0 hn1
theorem datD_wds {ls : List (List Int)} (hw : Wd2 ls) (s a n : Int) : Wds (datW ls s a n) := by
  unfold datW
  split
  · intro z hz
    exact (hw.at s.toNat) z (List.mem_of_mem_drop (List.mem_of_mem_take hz))
  · intro z hz; cases hz
theorem datD_length {ls : List (List Int)} (hf : ∀ j, (seg ls j).length ≤ 20000000) (s a n : Int) : (datW ls s a n).length ≤ 20000000 := by
  unfold datW
  split
  · unfold sliceL
    rw [List.length_take, List.length_drop]
    have := hf s.toNat
    omega
  · simp

/-- an object whose numbers are small, and whose elements' bytes lie in bounds -/
structure ObOK (ls : List (List Int)) (o : Ob) : Prop where
  k : 0 ≤ o.k ∧ o.k ≤ 2
  sg : 0 ≤ o.sg ∧ o.sg ≤ 40
  at' : 0 ≤ o.at' ∧ o.at' ≤ 100000000000
  d : 0 ≤ o.d ∧ o.d ≤ 65535
  p : 0 ≤ o.p ∧ o.p ≤ 65535
  el : 0 ≤ o.el ∧ o.el ≤ 7
  n : 0 ≤ o.n ∧ o.n ≤ 536870911
  by' : o.k = 2 → o.el < 6 → bytesI o.el o.n ≤ 8 * (datW ls o.sg o.at' (wordsI o.el o.n)).length

set_option maxHeartbeats 8000000 in
theorem data_any (b : Nat) (A : Option Addr) (c : Nat) (ls : List (List Int)) (D X O m : Int) (o : Ob) (w0 w : World) (E : EnvD b A ls w0) (ho : ObOK ls o) (h7 : o.el ≠ 7) (hb : Below b w0 w) (hk : Blk w b #[.slice A ls.length c, .int .i64 D, .int .i64 X, .int .i64 O, .int .i64 m]) :
    Calls Tryd.prog 56 #[.pointer (some ⟨b, 0, none⟩), .agg #[.int .i64 o.k, .int .i64 o.sg, .int .i64 o.at', .int .i64 o.d, .int .i64 o.p, .int .i64 o.el, .int .i64 o.n, .int .i64 o.cost]] w fun e w' => ∃ v, e = .returned v ∧ Got w' w.heap.size 5 .u8 v (datO ls o) ∧ Below w.heap.size w w' := by
  have hlt := hk.lt
  obtain ⟨hk0, hsg, hat, hd, hp, hel, hn, hby⟩ := ho
  have hwb := wordsI_lim o.el o.n hn.1 hn.2
  have HBYT : Hid (∀ k, -9223372036854775808 ≤ k → k ≤ 9223372036854775807 → ∀ w2, Below b w0 w2 → Blk w2 b #[.slice A ls.length c, .int .i64 D, .int .i64 X, .int .i64 O, .int .i64 m] → Calls Tryd.prog 64 #[.pointer (some ⟨b, 0, none⟩), .agg #[.int .i64 o.k, .int .i64 o.sg, .int .i64 o.at', .int .i64 o.d, .int .i64 o.p, .int .i64 o.el, .int .i64 o.n, .int .i64 o.cost], .int .i64 k] w2 fun e w' => ∃ v, e = .returned v ∧ Got w' w2.heap.size 5 .u8 v (bytesOf (datW ls o.sg o.at' k)) ∧ Below w2.heap.size w2 w') :=
    Lib.hid (fun k k0 k1 w2 hb2 hk2 => bytes_walk b A ls.length c D X O m o k _ _ w0 w2 hb2 hk2 (Lib.hid (fun w3 hb3 => sliceD c E o.sg o.at' k (by omega) (by omega) (by omega) (by omega) k0 k1 hb3)) (datD_wds E.wd _ _ _) (datD_length E.f _ _ _))
  have HB1 := Lib.hid ((Below.refl w.heap.size w).alloc (Nat.le_refl _) (.cells (obA o) 77))
  have HZ : Hid (w.heap.size ≤ (w.alloc (.cells (obA o) 77)).heap.size) := Lib.hid (by simp)
  have HB := Lib.hid (fun (w2 : World) (h : Below (w.alloc (.cells (obA o) 77)).heap.size (w.alloc (.cells (obA o) 77)) w2) => hb.trans ((bel_on HB1.out h).mono (Nat.le_of_lt hlt)))
  have HT1 := Lib.hid (hk.alloc (.cells (obA o) 77))
  have HO1 : Hid (Blk (w.alloc (.cells (obA o) 77)) w.heap.size (obA o)) := Lib.hid (Blk.fresh _ _ _)
  unfold obA at HB1 HZ HB HT1 HO1
  by_cases h1 : o.k = 1
  · have t1 : (o.k == 1) = true := by simpa using h1
    have hD : datO ls o = bytesOf (datW ls o.sg o.at' o.d) := by unfold datO; rw [if_pos h1]
    rw [hD]
    have HBY := Lib.hid (HBYT.out o.d (by omega) (by omega))
    clear hb hk hlt hby hwb HBYT h1 hD hk0 h7
    generalize bytesOf (datW ls o.sg o.at' o.d) = xs at *
    obtain ⟨x2, y2, z2⟩ := HO1.out
    go_enter Tryd.func56, Tryd.ntmps56
    go_wp2_with fail
    refine (HBY.out _ (HB.out _ (Below.refl _ _)) HT1.out).mono ?_
    rintro e w6 ⟨v, rfl, hg, hb6⟩
    have HG := Lib.hid (hg.mono HZ.out)
    have HB6 := Lib.hid (bel_on HB1.out hb6)
    clear hg hb6
    go_wp2
    go_ret
    exact ⟨v, rfl, HG.out, HB6.out⟩
  by_cases h2 : o.k = 2 ∧ o.el ≠ 6
  · have t1 : (o.k == 1) = false := by simpa using h1
    have t2 : (o.k == 2) = true := by simpa using h2.1
    have t3 : (o.el != 6) = true := by simpa using h2.2
    have hD : datO ls o = trimL (bytesOf (datW ls o.sg o.at' (wordsI o.el o.n))) o.el o.n := by unfold datO; rw [if_neg h1, if_pos h2]
    rw [hD]
    have HBY := Lib.hid (HBYT.out (wordsI o.el o.n) (by omega) (by omega))
    have HLW := Lib.hid (fun w2 (h : Below b w0 w2) => LWords_any o.el o.n w2 (E.tabAt h) hel.1 hel.2 hn.1 hn.2)
    have hlx : (bytesOf (datW ls o.sg o.at' (wordsI o.el o.n))).length = 8 * (datW ls o.sg o.at' (wordsI o.el o.n)).length := bytesOf_length _
    have hlb := datD_length E.f o.sg o.at' (wordsI o.el o.n)
    have hle := hby h2.1 (by omega)
    have hbt := bytesOf_bts (datW ls o.sg o.at' (wordsI o.el o.n))
    generalize bytesOf (datW ls o.sg o.at' (wordsI o.el o.n)) = xs at *
    have HTR := Lib.hid (fun A1 c1 w2 (h : Below b w0 w2) (hr : Ri w2 .u8 A1 xs) (hnil : A1 = none → c1 = 0) (hc : xs.length ≤ c1) (hcm : c1 ≤ maxLen) => LTrim_any A1 c1 xs o.el o.n w2 (E.tabAt h) hr hbt hnil (by omega) hc (by unfold maxLen at hcm; omega) hel.1 (by omega) hn.1 hn.2 (by omega))
    clear hb hk hlt hby hwb HBYT h1 h2 hD hk0 h7 hlx hlb hle hbt
    generalize trimL xs o.el o.n = ys at *
    obtain ⟨x2, y2, z2⟩ := HO1.out
    go_enter Tryd.func56, Tryd.ntmps56
    go_wp2_with fail
    clear x2 y2 z2
    refine abs_code10 (F := fun W => W = w.alloc (.cells #[.int .i64 o.k, .int .i64 o.sg, .int .i64 o.at', .int .i64 o.d, .int .i64 o.p, .int .i64 o.el, .int .i64 o.n, .int .i64 o.cost] 77)) rfl ?_
    rintro W1 hW1
    rw [← hW1] at HB1 HZ HB HT1 HO1
    clear hW1
    rename_i KK hKK
    refine wp_region_chain (by kernel_rfl) (by kernel_rfl) ?_
    refine chain_val (u := ?_) [3] rfl (by kernel_rfl) trivial (fun ρ wc hbc hcn hq => ?_) ?_; rotate_left
    · obtain ⟨hcn, hfn⟩ := hcn
      simp at hq
      go_simp
      rfl
    refine chain_val (u := ?_) [23] rfl (by kernel_rfl) trivial (fun ρ wc hbc hcn hq => ?_) ?_; rotate_left
    · obtain ⟨hcn, hfn⟩ := hcn
      simp at hq
      have x2 := (HO1.out.drew.below hbc).cell
      go_simp
      rfl
    refine chain_val (u := ?_) [3] rfl (by kernel_rfl) trivial (fun ρ wc hbc hcn hq => ?_) ?_; rotate_left
    · obtain ⟨hcn, hfn⟩ := hcn
      simp at hq
      go_simp
      rfl
    refine chain_val (u := ?_) [25] rfl (by kernel_rfl) trivial (fun ρ wc hbc hcn hq => ?_) ?_; rotate_left
    · obtain ⟨hcn, hfn⟩ := hcn
      simp at hq
      have x2 := (HO1.out.drew.below hbc).cell
      go_simp
      rfl
    refine chain_val (u := ?_) [0] rfl (by kernel_rfl) trivial (fun ρ wc hbc hcn hq => ?_) ?_; rotate_left
    · obtain ⟨hcn, hfn⟩ := hcn
      simp at hq
      go_simp
      rfl
    refine chain_val (u := ?_) [3] rfl (by kernel_rfl) trivial (fun ρ wc hbc hcn hq => ?_) ?_; rotate_left
    · obtain ⟨hcn, hfn⟩ := hcn
      simp at hq
      have x2 := (HO1.out.drew.below hbc).cell
      go_simp
      rfl
    refine chain_val (u := ?_) [3] rfl (by kernel_rfl) trivial (fun ρ wc hbc hcn hq => ?_) ?_; rotate_left
    · obtain ⟨hcn, hfn⟩ := hcn
      simp at hq
      go_simp
      rfl
    refine chain_val (u := ?_) [29] rfl (by kernel_rfl) trivial (fun ρ wc hbc hcn hq => ?_) ?_; rotate_left
    · obtain ⟨hcn, hfn⟩ := hcn
      simp at hq
      have x2 := (HO1.out.drew.below hbc).cell
      go_simp
      rfl
    refine chain_val (u := ?_) [3] rfl (by kernel_rfl) trivial (fun ρ wc hbc hcn hq => ?_) ?_; rotate_left
    · obtain ⟨hcn, hfn⟩ := hcn
      simp at hq
      go_simp
      rfl
    refine chain_val (u := ?_) [31] rfl (by kernel_rfl) trivial (fun ρ wc hbc hcn hq => ?_) ?_; rotate_left
    · obtain ⟨hcn, hfn⟩ := hcn
      simp at hq
      have x2 := (HO1.out.drew.below hbc).cell
      go_simp
      rfl
    refine chain_call (T := Is (.int .i64 (wordsI o.el o.n))) 66 [30, 32] rfl (by kernel_rfl) trivial (stable_is _) (fun ρ wc hbc hcn hq => ?_) ?_
    · obtain ⟨hcn, hfn⟩ := hcn
      simp at hq
      refine ⟨_, by go_simp; rfl, ?_⟩
      refine (HLW.out _ (HB.out _ (bel_undrew hbc))).mono ?_
      rintro e w' ⟨rfl, rfl⟩
      exact ⟨_, rfl, rfl, Below.refl _ _⟩
    refine chain_call (T := DatG w.heap.size xs) 64 [27, 28, 33] rfl (by kernel_rfl) trivial (stable_datg _ _) (fun ρ wc hbc hcn hq => ?_) ?_
    · obtain ⟨hcn, hfn⟩ := hcn
      simp at hq
      refine ⟨_, by go_simp; rfl, ?_⟩
      refine (HBY.out _ (HB.out _ (bel_undrew hbc)) ((HT1.out.drew.below hbc))).mono ?_
      rintro e w' ⟨v, rfl, hg, hbq⟩
      exact ⟨_, rfl, hg.mono (Nat.le_trans HZ.out hbc.size), hbq⟩
    refine chain_call (T := DatG w.heap.size ys) 65 [24, 26, 34] rfl (by kernel_rfl) trivial (stable_datg _ _) (fun ρ wc hbc hcn hq => ?_) ?_
    · obtain ⟨hcn, hfn⟩ := hcn
      simp at hq
      obtain ⟨h24, h26, h34⟩ := hq
      obtain ⟨A1, c1, e34, hc0, hm0, hri, hnil⟩ := Got.full h34
      refine ⟨_, by go_simp; rfl, ?_⟩
      refine (HTR.out A1 c1 _ (HB.out _ (bel_undrew hbc)) hri hnil hc0 hm0).mono ?_
      rintro e w' ⟨v, rfl, hg, hbq⟩
      exact ⟨_, rfl, hg.mono (Nat.le_trans HZ.out hbc.size), hbq⟩
    refine chain_new (T := DatG w.heap.size ys) [35] rfl (by kernel_rfl) trivial (stable_datg _ _) (fun ρ wc hbc hcn hq => ?_) ?_
    · obtain ⟨hcn, hfn⟩ := hcn
      simp at hq
      exact ⟨_, wc, by go_simp, hq, Below.refl _ _⟩
    refine chain_end_lit 36 rfl (fun ff w5 hb5 hk => ?_)
    have h4 := allN_atF hk 4 (by omega) (by omega)
    simp [KnowsV, look] at h4
    have hg : Got w5 w.heap.size 5 .u8 (ff 4) ys := h4
    simp [AllN] at hk
    simp only [frameL, hk]
    refine hKK _ _ ?_
    have HG := Lib.hid hg
    have HB6 := Lib.hid (bel_on HB1.out (bel_undrew hb5))
    clear hk hg h4 hb5
    go_wp2
    go_ret
    exact ⟨_, rfl, HG.out, HB6.out⟩
  · have t1 : (o.k == 1) = false := by simpa using h1
    have hD : datO ls o = [] := by unfold datO; rw [if_neg h1, if_neg h2]
    rw [hD]
    clear hb hk hlt hby hwb HBYT h1 hD
    obtain ⟨x2, y2, z2⟩ := HO1.out
    by_cases h3 : o.k = 2
    · have t2 : (o.k == 2) = true := by simpa using h3
      have t3 : (o.el != 6) = false := by have : o.el = 6 := Classical.byContradiction (fun h => h2 ⟨h3, h⟩); simpa using this
      clear h2 h3
      go_enter Tryd.func56, Tryd.ntmps56
      go_wp2
      go_ret
      exact ⟨_, rfl, Got.empty _ _ _ _, HB1.out⟩
    · have t2 : (o.k == 2) = false := by simpa using h3
      clear h2 h3
      go_enter Tryd.func56, Tryd.ntmps56
      go_wp2
      go_ret
      exact ⟨_, rfl, Got.empty _ _ _ _, HB1.out⟩
end Go.Proofs.YtnmanhediiooaaaDoor

/- Package trim: cut at its two predicates, and with it Words, Pointers and Uniform. -/
namespace Go.Proofs.YtnmanhediiooaaaDoor
open Go.ChangeShapes Go.WideShapes Go.ChangeAt Go.RowKit
set_option linter.unusedVariables false
set_option linter.unusedSimpArgs false
set_option maxRecDepth 100000

/-- the bytes up to the last one, of the first i, that is not zero -/
def cutF (d : List Int) : Nat → Nat
  | 0 => 0
  | i + 1 => if zat d i = 0 then cutF d i else i + 1
theorem cutF_le (d : List Int) : ∀ i, cutF d i ≤ i
  | 0 => by simp [cutF]
  | i + 1 => by
    have := cutF_le d i
    unfold cutF
    split <;> omega
theorem wordsF_cut (d : List Int) : ∀ i, wordsF d i = (cutF d i + 7) / 8
  | 0 => by simp [wordsF, cutF]
  | i + 1 => by
    have := wordsF_cut d i
    unfold wordsF cutF
    split
    · exact this
    · omega
theorem isZero_any (z : Int) (w : World) : Calls Tryd.prog 49 #[.int .u8 z] w fun r w' => r = .returned (.bool (z == 0)) ∧ w' = w := by
  go_enter Tryd.func49, Tryd.ntmps49
  go_wp2
  go_ret
  exact ⟨rfl, rfl⟩
theorem isNull_any (k e n : Int) (A : Option Addr) (dl c : Nat) (B : Option Addr) (kl c2 : Nat) (w : World) : Calls Tryd.prog 37 #[.agg #[.int .i64 k, .int .i64 e, .int .i64 n, .slice A dl c, .slice B kl c2]] w fun r w' => r = .returned (.bool (k == 0)) ∧ Below w.heap.size w w' := by
  have HB := Lib.hid (fun o => (Below.refl w.heap.size w).alloc (Nat.le_refl _) o)
  go_enter Tryd.func37, Tryd.ntmps37
  go_wp2
  go_ret
  exact ⟨rfl, HB.out _⟩

set_option maxRecDepth 100000 in
theorem cutB_any (A : Option Addr) (c : Nat) (d : List Int) (w : World) (hr : Ri w .u8 A d) (hb : Bts d) (hm : d.length ≤ 1099511627776) (hc : d.length ≤ c) :
    Calls Tryd.prog 48 #[.slice A d.length c, .func (.func 49) #[] #[]] w fun r w' => r = .returned (.slice A (cutF d d.length) c) ∧ w = w' := by
  have Hr := Lib.hid hr
  have Hb := Lib.hid hb
  clear hr hb
  go_enter Tryd.func48, Tryd.ntmps48
  go_wp2
  go_loop [0] (fun v => ∃ k : Nat, k ≤ d.length ∧ v = .slice A k c ∧ cutF d d.length = cutF d k) (fun v => match v with | .slice _ n _ => n | _ => 0)
  case atStart => exact ⟨d.length, by omega, rfl, rfl⟩
  case round =>
    obtain ⟨k, hk, rfl, hq⟩ := hrel
    have HQ := Lib.hid hq
    clear hq
    cases k with
    | zero =>
      go_wp2
      go_ret
      exact ⟨by rw [HQ.out]; rfl, rfl⟩
    | succ k =>
      obtain ⟨g, off, rfl, hcd⟩ := Hr.out.at (i := k) (by omega)
      have hcell := hcd k (by omega)
      have HS : Hid (cutF d (k + 1) = if zat d k = 0 then cutF d k else k + 1) := Lib.hid rfl
      clear hcd
      generalize zat d k = z at *
      go_wp2_with fail
      refine (isZero_any z _).mono ?_
      rintro r w' ⟨rfl, rfl⟩
      by_cases h0 : z = 0
      · have t1 : (z == 0) = true := by simpa using h0
        have HQ2 := Lib.hid (HQ.out.trans (HS.out.trans (if_pos h0)))
        clear h0
        go_wp2
        go_round
        case rel => exact ⟨k, by omega, by go_num, HQ2.out⟩
        case measure => simp
      · have t1 : (z == 0) = false := by simpa using h0
        have HQ2 := Lib.hid (HQ.out.trans (HS.out.trans (if_neg h0)))
        clear h0
        go_wp2
        go_ret
        exact ⟨by rw [HQ2.out]; rfl, rfl⟩

theorem trimWords_any (A : Option Addr) (c : Nat) (d : List Int) (w : World) (hr : Ri w .u8 A d) (hb : Bts d) (hm : d.length ≤ 1099511627776) (hc : d.length ≤ c) :
    Calls Tryd.prog 35 #[.slice A d.length c] w fun r w' => r = .returned (.int .i64 (wordsT d)) ∧ w = w' := by
  have HC := Lib.hid (cutB_any A c d w hr hb hm hc)
  have HW : Hid (((cutF d d.length : Int) + 7) / 8 = wordsT d) := Lib.hid (by unfold wordsT; rw [wordsF_cut]; omega)
  have hl := cutF_le d d.length
  clear hr hb
  generalize cutF d d.length = m at *
  go_enter Tryd.func35, Tryd.ntmps35
  go_wp2_with fail
  refine HC.out.mono ?_
  rintro r w' ⟨rfl, rfl⟩
  go_wp2
  go_ret
  refine ⟨?_, rfl⟩
  rw [← HW.out]
  go_num

set_option maxRecDepth 100000 in
theorem cutK_any (B : Option Addr) (c : Nat) (ks : List Nd) (w : World) (hr : KsR w B ks) (hm : ks.length ≤ 1099511627776) (hc : ks.length ≤ c) :
    Calls Tryd.prog 36 #[.slice B ks.length c, .func (.func 37) #[] #[]] w fun r w' => r = .returned (.slice B (ptrsT ks) c) ∧ Below w.heap.size w w' := by
  have HK := Lib.hid hr
  have HW : Hid (ptrsT ks = ptrsF ks ks.length) := Lib.hid rfl
  clear hr
  go_enter Tryd.func36, Tryd.ntmps36
  go_wp2
  go_loopw [0] (fun v wr => ∃ k : Nat, k ≤ ks.length ∧ v = .slice B k c ∧ ptrsT ks = ptrsF ks k ∧ Below w.heap.size w wr) (fun v _ => match v with | .slice _ n _ => n | _ => 0)
  case atStart => exact ⟨ks.length, by omega, rfl, HW.out, Below.refl _ _⟩
  case round =>
    obtain ⟨k, hk, rfl, hq, hbr⟩ := hrel
    have HQ := Lib.hid hq
    have HR := Lib.hid hbr
    clear hq hbr
    cases k with
    | zero =>
      go_wp2
      go_ret
      exact ⟨by rw [HQ.out]; rfl, HR.out⟩
    | succ k =>
      obtain ⟨b, off, A', c', B', c2', rfl, k0, k1, k2, k3, k4, hsub⟩ := HK.out.atIn HR.out (Nat.le_refl _) (j := k) (by omega)
      have HS : Hid (ptrsF ks (k + 1) = if (ks[k]'(by omega)).k = 0 then ptrsF ks k else k + 1) := Lib.hid (by rw [← kAt_get (by omega)]; rfl)
      clear hsub
      generalize (ks[k]'(by omega)) = kx at *
      obtain ⟨kk, ke, kn, kd, kks⟩ := kx
      simp only [Nd.k, Nd.e, Nd.n, Nd.d, Nd.ks] at k0 k1 k2 k3 k4 HS
      go_wp2_with fail
      refine (isNull_any _ _ _ _ _ _ _ _ _ _).mono ?_
      rintro r w' ⟨rfl, hb1⟩
      have HB1 := Lib.hid (bel_on HR.out hb1)
      clear hb1
      by_cases h0 : kk = 0
      · have t1 : (kk == 0) = true := by simpa using h0
        have HQ2 := Lib.hid (HQ.out.trans (HS.out.trans (if_pos h0)))
        clear h0
        go_wp2
        go_roundw
        case rel => exact ⟨k, by omega, by go_num, HQ2.out, HB1.out⟩
        case measure => simp
      · have t1 : (kk == 0) = false := by simpa using h0
        have HQ2 := Lib.hid (HQ.out.trans (HS.out.trans (if_neg h0)))
        clear h0
        go_wp2
        go_ret
        exact ⟨by rw [HQ2.out]; rfl, HB1.out⟩

end Go.Proofs.YtnmanhediiooaaaDoor

/- Package trim: a row of trimmed nodes that is filled place by place, and Trim itself. -/
namespace Go.Proofs.YtnmanhediiooaaaDoor
open Go.ChangeShapes Go.WideShapes Go.ChangeAt Go.RowKit
set_option linter.unusedVariables false
set_option linter.unusedSimpArgs false
set_option maxRecDepth 100000

theorem KsR.take {w : World} {B : Option Addr} {ts : List Nd} (h : KsR w B ts) (K : Nat) : KsR w B (ts.take K) := by
  rcases h with rfl | ⟨b, off, hB, h⟩
  · exact .inl (by simp)
  · refine .inr ⟨b, off, hB, fun j hj => ?_⟩
    rw [List.length_take] at hj
    have := h j (by omega)
    rw [List.getElem_take]
    exact this

/-- the block at A lies there and may be written into -/
def Unv (w : World) (A : Option Addr) : Prop := ∀ b off, A = some ⟨b, off, none⟩ → b < w.heap.size ∧ ∀ o, w.frozen? ⟨b, o, none⟩ = false
theorem Unv.unf {w : World} {A : Option Addr} (h : Unv w A) : Unf w A := fun b off e => (h b off e).2
theorem Unv.below {w w' : World} {A : Option Addr} (h : Unv w A) {N : Nat} (hb : Below N w w') (hN : w.heap.size ≤ N) : Unv w' A := by
  intro b off e
  obtain ⟨h1, h2⟩ := h b off e
  exact ⟨Nat.lt_of_lt_of_le h1 hb.size, fun o => by rw [hb.frozen (p := ⟨b, o, none⟩) (by show b < N; omega)]; exact h2 o⟩
theorem Unv.set {w : World} {A : Option Addr} (h : Unv w A) (p : Addr) (v : Value) : Unv (w.setCell p v) A := by
  intro b off e
  obtain ⟨h1, h2⟩ := h b off e
  exact ⟨by simpa using h1, fun o => by rw [World.frozen?_setCell]; exact h2 o⟩

/-- a row of n nodes in the block q; the first i hold the nodes of ts, whose parts lie behind q -/
structure RowT (q n i : Nat) (ts : List Nd) (W : World) : Prop where
  cell : ∀ o, o < n * 5 → ∃ u, W.cell? ⟨q, o, none⟩ = some u
  free : ∀ o, W.frozen? ⟨q, o, none⟩ = false
  lt : q < W.heap.size
  done : ∀ j (hj : j < ts.length), j < i → ∃ A' c' B' c2' lo hi, q < lo ∧ hi ≤ W.heap.size ∧ NdO lo hi W A' c' B' c2' (ts[j]) ∧ Unv W A' ∧ ∀ o, o < 5 → W.cell? ⟨q, j * 5 + o, none⟩ = (fiveC (ts[j]) A' c' B' c2')[o]?
theorem RowT.below {q n i : Nat} {ts : List Nd} {W W' : World} (h : RowT q n i ts W) {N : Nat} (hb : Below N W W') (hN : W.heap.size ≤ N) : RowT q n i ts W' := by
  have hlt := h.lt
  have hc : ∀ o, W'.cell? ⟨q, o, none⟩ = W.cell? ⟨q, o, none⟩ := fun o => hb.cell (p := ⟨q, o, none⟩) (by show q < N; omega)
  refine ⟨fun o ho => ?_, fun o => ?_, Nat.lt_of_lt_of_le hlt hb.size, fun j hj hi => ?_⟩
  · obtain ⟨u, hu⟩ := h.cell o ho
    exact ⟨u, (hc o).trans hu⟩
  · rw [hb.frozen (p := ⟨q, o, none⟩) (by show q < N; omega)]
    exact h.free o
  · obtain ⟨A', c', B', c2', lo, hi', h1, h2, h3, h4, h5⟩ := h.done j hj hi
    exact ⟨A', c', B', c2', lo, hi', h1, Nat.le_trans h2 hb.size, h3.below hb (by omega), h4.below hb hN, fun o ho => (hc _).trans (h5 o ho)⟩
theorem RowT.set {q n i : Nat} {ts : List Nd} {W : World} (h : RowT q n i ts W) {p : Nat} (hp : i * 5 ≤ p) (v : Value) : RowT q n i ts (W.setCell ⟨q, p, none⟩ v) := by
  have hd : ∀ o, p ≠ o → (W.setCell ⟨q, p, none⟩ v).cell? ⟨q, o, none⟩ = W.cell? ⟨q, o, none⟩ := fun o ho => cell_diff (fun e => by injection e with e1 e2; exact ho e2)
  refine ⟨fun o ho => ?_, fun o => by rw [World.frozen?_setCell]; exact h.free o, by simpa using h.lt, fun j hj hi => ?_⟩
  · obtain ⟨u, hu⟩ := h.cell o ho
    by_cases e : p = o
    · subst e
      exact ⟨v, cell_same hu⟩
    · exact ⟨u, (hd o e).trans hu⟩
  · obtain ⟨A', c', B', c2', lo, hi', h1, h2, h3, h4, h5⟩ := h.done j hj hi
    exact ⟨A', c', B', c2', lo, hi', h1, by simpa using h2, h3.to fun k k1 _ => Below.heap_setCell _ _ _ _ (by show k ≠ q; omega), h4.set _ _, fun o ho => (hd _ (by omega)).trans (h5 o ho)⟩
/-- a store into a block before the row -/
theorem RowT.other {q n i : Nat} {ts : List Nd} {W : World} (h : RowT q n i ts W) {p : Addr} (hp : p.block < q) (v : Value) : RowT q n i ts (W.setCell p v) := by
  have hd : ∀ o, (W.setCell p v).cell? ⟨q, o, none⟩ = W.cell? ⟨q, o, none⟩ := fun o => cell_diff (fun e => by subst e; exact Nat.lt_irrefl _ hp)
  refine ⟨fun o ho => ?_, fun o => by rw [World.frozen?_setCell]; exact h.free o, by simpa using h.lt, fun j hj hi => ?_⟩
  · obtain ⟨u, hu⟩ := h.cell o ho
    exact ⟨u, (hd o).trans hu⟩
  · obtain ⟨A', c', B', c2', lo, hi', h1, h2, h3, h4, h5⟩ := h.done j hj hi
    exact ⟨A', c', B', c2', lo, hi', h1, by simpa using h2, h3.to fun k k1 _ => Below.heap_setCell _ _ _ _ (by omega), h4.set _ _, fun o ho => (hd _).trans (h5 o ho)⟩
/-- one place more -/
theorem RowT.next {q n i : Nat} {ts : List Nd} {W : World} (h : RowT q n i ts W) (hn : i < n) (hl : i < ts.length) {A' : Option Addr} {c' : Nat} {B' : Option Addr} {c2' lo hi : Nat} (h1 : q < lo) (h2 : hi ≤ W.heap.size) (h3 : NdO lo hi W A' c' B' c2' (ts[i])) (h4 : Unv W A') :
    RowT q n (i + 1) ts (((((W.setCell ⟨q, i * 5, none⟩ (.int .i64 (ts[i]).k)).setCell ⟨q, i * 5 + 1, none⟩ (.int .i64 (ts[i]).e)).setCell ⟨q, i * 5 + 2, none⟩ (.int .i64 (ts[i]).n)).setCell ⟨q, i * 5 + 3, none⟩ (.slice A' (ts[i]).d.length c')).setCell ⟨q, i * 5 + 4, none⟩ (.slice B' (ts[i]).ks.length c2')) := by
  have hr := ((((h.set (p := i * 5) (by omega) (.int .i64 (ts[i]).k)).set (p := i * 5 + 1) (by omega) (.int .i64 (ts[i]).e)).set (p := i * 5 + 2) (by omega) (.int .i64 (ts[i]).n)).set (p := i * 5 + 3) (by omega) (.slice A' (ts[i]).d.length c')).set (p := i * 5 + 4) (by omega) (.slice B' (ts[i]).ks.length c2')
  refine ⟨hr.cell, hr.free, hr.lt, fun j hj hi2 => ?_⟩
  by_cases e : j < i
  · exact hr.done j hj e
  obtain rfl : j = i := by omega
  have hg : ∀ (w : World) k p v, lo ≤ k → (w.setCell ⟨q, p, none⟩ v).heap[k]? = w.heap[k]? := fun w k p v hk => Below.heap_setCell _ _ _ _ (by show k ≠ q; omega)
  refine ⟨A', c', B', c2', lo, hi, h1, by simpa using h2, h3.to fun k k1 _ => by rw [hg _ _ _ _ k1, hg _ _ _ _ k1, hg _ _ _ _ k1, hg _ _ _ _ k1, hg _ _ _ _ k1], ((((h4.set _ _).set _ _).set _ _).set _ _).set _ _, fun o ho => ?_⟩
  have d : ∀ (w : World) (p r : Nat) v, p ≠ r → (w.setCell ⟨q, p, none⟩ v).cell? ⟨q, r, none⟩ = w.cell? ⟨q, r, none⟩ := fun w p r v hpr => cell_diff (fun e => by injection e with e1 e2; exact hpr e2)
  have c0 := fun o (ho : o < 5) => h.cell (j * 5 + o) (by omega)
  have : o = 0 ∨ o = 1 ∨ o = 2 ∨ o = 3 ∨ o = 4 := by omega
  rcases this with rfl | rfl | rfl | rfl | rfl
  · obtain ⟨u, hu⟩ := c0 0 (by omega)
    rw [d _ _ _ _ (by omega), d _ _ _ _ (by omega), d _ _ _ _ (by omega), d _ _ _ _ (by omega)]
    exact cell_same hu
  · obtain ⟨u, hu⟩ := c0 1 (by omega)
    rw [d _ _ _ _ (by omega), d _ _ _ _ (by omega), d _ _ _ _ (by omega)]
    exact cell_same (u := u) (by rw [d _ _ _ _ (by omega)]; exact hu)
  · obtain ⟨u, hu⟩ := c0 2 (by omega)
    rw [d _ _ _ _ (by omega), d _ _ _ _ (by omega)]
    exact cell_same (u := u) (by rw [d _ _ _ _ (by omega), d _ _ _ _ (by omega)]; exact hu)
  · obtain ⟨u, hu⟩ := c0 3 (by omega)
    rw [d _ _ _ _ (by omega)]
    exact cell_same (u := u) (by rw [d _ _ _ _ (by omega), d _ _ _ _ (by omega), d _ _ _ _ (by omega)]; exact hu)
  · obtain ⟨u, hu⟩ := c0 4 (by omega)
    exact cell_same (u := u) (by rw [d _ _ _ _ (by omega), d _ _ _ _ (by omega), d _ _ _ _ (by omega), d _ _ _ _ (by omega)]; exact hu)
/-- a new row -/
theorem RowT.made {q n base : Nat} {ts : List Nd} {W : World} {vs : List Value} (h : W.ownsRow base 30 5 (.slice (some ⟨q, 0, none⟩) n n) n vs) : RowT q n 0 ts W := by
  refine ⟨fun o ho => ?_, fun o => World.ownsRow.frozenAt h o, (h.lt q rfl).2, fun j hj h0 => by omega⟩
  have hl : o < vs.length := by rw [h.1]; exact ho
  exact ⟨vs[o], by rw [World.ownsRow.cellAt h o ho, List.getElem?_eq_getElem hl]⟩

/-- a node of the call's own that may be written into -/
def NodV (lo : Nat) (x : Nd) (v : Value) (w : World) : Prop := ∃ A c B c2 hi, v = .agg #[.int .i64 x.k, .int .i64 x.e, .int .i64 x.n, .slice A x.d.length c, .slice B x.ks.length c2] ∧ hi ≤ w.heap.size ∧ NdO lo hi w A c B c2 x ∧ Unv w A ∧ Unv w B ∧
  ∀ b off j A' l' c', B = some ⟨b, off, none⟩ → j < x.ks.length → w.cell? ⟨b, off + j * 5 + 3, none⟩ = some (.slice A' l' c') → Unv w A'
theorem NodV.nodU {lo : Nat} {x : Nd} {v : Value} {w : World} (h : NodV lo x v w) : NodU lo x v w := by
  obtain ⟨A, c, B, c2, hi, h1, h2, h3, h4, h5, h6⟩ := h
  exact ⟨A, c, B, c2, hi, h1, h2, h3, h4.unf, h5.unf, fun b off j A' l' c' e1 e2 e3 => (h6 b off j A' l' c' e1 e2 e3).unf⟩
/-- a node whose kids are such a row -/
theorem RowT.node {q n base : Nat} {ts : List Nd} {W : World} (h : RowT q n n ts W) (hq : base ≤ q) (hl : ts.length = n) (hm : n ≤ maxLen) {k e m : Int} {d : List Int} {A : Option Addr} {c : Nat}
    (hk : -9223372036854775808 ≤ k ∧ k ≤ 9223372036854775807) (he : -9223372036854775808 ≤ e ∧ e ≤ 9223372036854775807) (hn : -9223372036854775808 ≤ m ∧ m ≤ 9223372036854775807)
    (hd : Got W base 5 .u8 (.slice A d.length c) d) (hby : Bts d) : NdO base W.heap.size W A c (some ⟨q, 0, none⟩) n (.mk k e m d ts) := by
  intro V hV
  have hdV : Got V base 5 .u8 (.slice A d.length c) d := got_agree hd fun g h1 h2 => hV g h1 h2
  obtain ⟨A0, c0, he0, hc0, hm0, hri, hnil⟩ := hdV.full
  injection he0 with e1 e2 e3
  subst e1 e3
  have hcell : ∀ o, V.cell? ⟨q, o, none⟩ = W.cell? ⟨q, o, none⟩ := fun o => World.cell?_of_block (w := W) (hV q hq h.lt)
  have hkid : ∀ j (hj : j < ts.length), ∃ A' c' B' c2', NdR V A' c' B' c2' (ts[j]) ∧ ∀ o, o < 5 → V.cell? ⟨q, j * 5 + o, none⟩ = (fiveC (ts[j]) A' c' B' c2')[o]? := by
    intro j hj
    obtain ⟨A', c', B', c2', lo, hi, k1, k2, k3, k4, k5⟩ := h.done j hj (by omega)
    exact ⟨A', c', B', c2', k3 V fun g g1 g2 => hV g (by omega) (by omega), fun o ho => (hcell _).trans (k5 o ho)⟩
  refine .mk k e m d ts A c _ n (fun j => if h : j < ts.length then Classical.choose (hkid j h) else none)
    (fun j => if h : j < ts.length then Classical.choose (Classical.choose_spec (hkid j h)) else 0)
    (fun j => if h : j < ts.length then Classical.choose (Classical.choose_spec (Classical.choose_spec (hkid j h))) else none)
    (fun j => if h : j < ts.length then Classical.choose (Classical.choose_spec (Classical.choose_spec (Classical.choose_spec (hkid j h)))) else 0)
    hk he hn hri hby hc0 hm0 hnil (by omega) hm (fun h => by cases h) ?_ ?_
  · refine .inr ⟨q, 0, rfl, fun j x hj => ?_⟩
    have hjl : j < ts.length := (List.getElem?_eq_some_iff.1 hj).1
    obtain rfl : ts[j] = x := (List.getElem?_eq_some_iff.1 hj).2
    have hspec := Classical.choose_spec (Classical.choose_spec (Classical.choose_spec (Classical.choose_spec (hkid j hjl))))
    simp only [dif_pos hjl, Nat.zero_add]
    exact ⟨hspec.2 0 (by omega), hspec.2 1 (by omega), hspec.2 2 (by omega), hspec.2 3 (by omega), hspec.2 4 (by omega)⟩
  · intro j x hj
    have hjl : j < ts.length := (List.getElem?_eq_some_iff.1 hj).1
    obtain rfl : ts[j] = x := (List.getElem?_eq_some_iff.1 hj).2
    have hspec := Classical.choose_spec (Classical.choose_spec (Classical.choose_spec (Classical.choose_spec (hkid j hjl))))
    simp only [dif_pos hjl]
    exact hspec.1
theorem RowT.nodV {q n lo base : Nat} {ts : List Nd} {W : World} (h : RowT q n n ts W) (hlo : lo ≤ base) (hq : base ≤ q) (hl : ts.length = n) (hm : n ≤ maxLen) {k e m : Int} {d : List Int} {A : Option Addr} {c : Nat}
    (hk : -9223372036854775808 ≤ k ∧ k ≤ 9223372036854775807) (he : -9223372036854775808 ≤ e ∧ e ≤ 9223372036854775807) (hn : -9223372036854775808 ≤ m ∧ m ≤ 9223372036854775807)
    (hd : Got W base 5 .u8 (.slice A d.length c) d) (hby : Bts d) {x : Nd} (hx : x = .mk k e m d ts) {l : Nat} (hdl : l = d.length) : NodV lo x (.agg #[.int .i64 k, .int .i64 e, .int .i64 m, .slice A l c, .slice (some ⟨q, 0, none⟩) n n]) W := by
  subst hx hl hdl
  refine ⟨A, c, _, _, _, rfl, Nat.le_refl _, (h.node hq rfl hm hk he hn hd hby).wide hlo (Nat.le_refl _), ?_, ?_, ?_⟩
  · intro b off e
    subst e
    have hlt := hd.lt b rfl
    refine ⟨hlt.2, fun o => ?_⟩
    rcases hd.2 with ⟨h1, -⟩ | ⟨g, cap, cur, h1, h2, h3, -⟩
    · cases h1
    · injection h1 with e1 e2 e3
      injection e1 with e1
      injection e1 with e1 e4
      subst e1
      simp [World.frozen?, h3]
  · intro b off e
    injection e with e
    injection e with e1 e2
    subst e1
    exact ⟨h.lt, h.free⟩
  · intro b off j A' l' c' e hj hc
    injection e with e
    injection e with e1 e2
    subst e1 e2
    obtain ⟨A1, c1, B1, c2, lo1, hi1, k1, k2, k3, k4, k5⟩ := h.done j hj hj
    have := k5 3 (by omega)
    rw [Nat.zero_add] at hc
    rw [hc] at this
    injection this with this
    injection this with e1 e2 e3
    subst e1
    exact k4
end Go.Proofs.YtnmanhediiooaaaDoor

/- Package trim: the function behind Trim that trims a row, and Trim. -/
namespace Go.Proofs.YtnmanhediiooaaaDoor
open Go.ChangeShapes Go.WideShapes Go.ChangeAt Go.RowKit
set_option linter.unusedVariables false
set_option linter.unusedSimpArgs false
set_option maxRecDepth 100000

set_option maxHeartbeats 4000000 in
set_option maxRecDepth 100000 in
theorem trimmed_any (ls : List Nd) (B : Option Addr) (c2 : Nat) (w : World) (hk : KsR w B ls) (hm : ls.length ≤ 1099511627776)
    (HC : Hid (∀ j (hj : j < ls.length) A' c' B' c2' wc, NdR wc A' c' B' c2' ls[j] → Calls Tryd.prog 21 #[.agg #[.int .i64 (ls[j]).k, .int .i64 (ls[j]).e, .int .i64 (ls[j]).n, .slice A' (ls[j]).d.length c', .slice B' (ls[j]).ks.length c2']] wc fun r w' => ∃ v, r = .returned v ∧ NodV wc.heap.size (trimN ls[j]) v w' ∧ Below wc.heap.size wc w')) :
    Calls Tryd.prog 39 #[.slice B ls.length c2] w fun r w' => r = .returned (.slice (some ⟨w.heap.size, 0, none⟩) ls.length ls.length) ∧ RowT w.heap.size ls.length ls.length (trimK ls) w' ∧ Below w.heap.size w w' := by
  obtain ⟨i0, hi, hz0, hz1, hz2⟩ := info_parts node_info
  have HK := Lib.hid hk
  obtain ⟨n, hn⟩ : ∃ n, n = ls.length := ⟨_, rfl⟩
  have HN := Lib.hid hn
  have hb0 : n ≤ 1099511627776 := by omega
  rw [← hn]
  clear hk hm hn
  go_enter Tryd.func39, Tryd.ntmps39
  go_wp2_with (at_make; refine wpList_make_full _ rfl _ _ 28 rfl w.heap.size 30 i0 _ 5 Tryd.underlying28 hi hz0 hz1 .i64 .i64 _ _ n rfl rfl (by omega) (by omega) (by rw [hz2]; omega) (by unfold maxLen; omega) (Nat.le_refl _) ?_; intro w0 hown0 hgrow0)
  have hR0 : RowT w.heap.size n 0 (trimK ls) w0 := RowT.made hown0
  have hB0 : Below w.heap.size w w0 := (Below.refl _ _).grown hgrow0 (Nat.le_refl _) (fun g hg => by cases hg)
  clear hown0 hgrow0
  go_loopw [11] (fun i wr => ∃ j : Nat, j ≤ n ∧ i = .int .i64 j ∧ RowT w.heap.size n j (trimK ls) wr ∧ Below w.heap.size w wr) (fun i _ => n - (intOf i).toNat)
  case atStart => exact ⟨0, by omega, rfl, hR0, hB0⟩
  case round =>
    clear hR0 hB0
    obtain ⟨j, hj, rfl, hrow, hbr⟩ := hrel
    have HR := Lib.hid hbr
    have HW := Lib.hid hrow
    clear hbr hrow
    by_cases hlt : j < n
    · have hj1 : (j : Int) < (n : Int) := by omega
      have hlt2 : j < ls.length := by rw [← HN.out]; exact hlt
      have hltT : j < (trimK ls).length := by rw [trimK_length]; exact hlt2
      obtain ⟨b, off, A', c', B', c2', rfl, k0, k1, k2, k3, k4, hsub⟩ := HK.out.atIn HR.out (Nat.le_refl _) hlt2
      have HCJ := Lib.hid (fun wc hb => HC.out j hlt2 A' c' B' c2' wc (hsub.on (N := w.heap.size) hb (Nat.le_refl _)))
      have HT : Hid ((trimK ls)[j] = trimN ls[j]) := Lib.hid (trimK_get ls j hlt2)
      clear hsub
      generalize trimN ls[j] = ty at *
      generalize ls[j] = kx at *
      have HB1 := Lib.hid (fun o => HR.out.alloc HR.out.size o)
      go_wp2_with fail
      refine (HCJ.out _ (HB1.out _)).mono ?_
      rintro r w2 ⟨v, rfl, hnv, hb2⟩
      have HB2 : Hid (Below w.heap.size w w2) := Lib.hid (bel_on (HB1.out _) hb2)
      have hlo : w.heap.size < wr.heap.size := HW.out.lt
      have HW2 := Lib.hid ((HW.out.below ((Below.refl _ _).alloc (Nat.le_refl _) (.cells #[.int .i64 kx.k, .int .i64 kx.e, .int .i64 kx.n, .slice A' kx.d.length c', .slice B' kx.ks.length c2'] 30)) (Nat.le_refl _)).below hb2 (Nat.le_refl _))
      obtain ⟨A5, c5, B5, e5, hi5, rfl, hh5, ho5, hu5, -, -⟩ := hnv
      have HO := Lib.hid ho5
      have HU := Lib.hid hu5
      clear ho5 hu5 hb2 k0 k1 k2 k3 k4
      obtain ⟨u0, y0⟩ := HW2.out.cell (j * 5) (by omega)
      obtain ⟨u1, y1⟩ := HW2.out.cell (j * 5 + 1) (by omega)
      obtain ⟨u2, y2⟩ := HW2.out.cell (j * 5 + 2) (by omega)
      obtain ⟨u3, y3⟩ := HW2.out.cell (j * 5 + 3) (by omega)
      obtain ⟨u4, y4⟩ := HW2.out.cell (j * 5 + 4) (by omega)
      have z := HW2.out.free
      go_wp2
      go_roundw
      case rel =>
        refine ⟨j + 1, by omega, by go_num, ?_, ?_⟩
        · have := HW2.out.next hlt hltT (A' := A5) (c' := c5) (B' := B5) (c2' := e5) (lo := _) (hi := hi5) ?_ hh5 (by rw [HT.out]; exact HO.out) HU.out
          · rw [HT.out] at this
            exact this
          · simp; omega
        · refine Below.setCell (Below.setCell (Below.setCell (Below.setCell (Below.setCell HB2.out ?_ _) ?_ _) ?_ _) ?_ _) ?_ _ <;> (show w.heap.size ≤ w.heap.size; omega)
      case measure => simp [intOf]; omega
    · obtain rfl : j = n := by omega
      go_wp2
      go_ret
      exact ⟨rfl, HW.out, HR.out⟩
set_option maxHeartbeats 8000000 in
set_option maxRecDepth 100000 in
theorem Trim_node : ∀ (x : Nd) (A : Option Addr) (c : Nat) (B : Option Addr) (c2 : Nat) (w : World), NdR w A c B c2 x → sizeN x ≤ 1099511627776 → validN x = true →
    Calls Tryd.prog 21 #[.agg #[.int .i64 x.k, .int .i64 x.e, .int .i64 x.n, .slice A x.d.length c, .slice B x.ks.length c2]] w fun r w' => ∃ v, r = .returned v ∧ NodV w.heap.size (trimN x) v w' ∧ Below w.heap.size w w' := by
  refine Nd.ind ?_
  intro k e n d ks ih A c B c2 w hx hs hv
  simp only [Nd.k, Nd.e, Nd.n, Nd.d, Nd.ks]
  have HX := Lib.hid hx
  have HI := Lib.hid ih
  have HVK := Lib.hid (valid_kids11 hv).1
  have hso : sizeN (.mk k e n d ks) = 1 + d.length + sizeK ks := by simp only [sizeN]
  rw [hso] at hs
  have hkl := sizeK_length ks
  have hdl : d.length ≤ 1099511627776 := by omega
  have hkl2 : ks.length ≤ 1099511627776 := by omega
  obtain ⟨h1, h2, h3, hd, hbt, hdc, hcm, hA, hkc, hc2m, hB⟩ := hx.open
  have HD := Lib.hid hd
  have HBT := Lib.hid hbt
  have HO := Lib.hid (And.intro h1 (And.intro h2 h3))
  have HA := Lib.hid hA
  have HSZ : Hid (∀ (j : Nat) (hj : j < ks.length), sizeN ks[j] ≤ 1099511627776) := Lib.hid (fun j hj => by
    have := sizeN_kid (List.getElem_mem hj)
    omega)
  have HWD := Lib.hid (fun w' (hb : Below w.heap.size w w') => trimWords_any A c d w' (HD.out.below hb (Nat.le_refl _)) HBT.out hdl hdc)
  have HPT := Lib.hid (fun w' (hb : Below w.heap.size w w') => cutK_any B c2 ks w' (HX.out.kids.on hb (Nat.le_refl _)) hkl2 hkc)
  have hDK : ∃ D K : Nat, D ≤ d.length ∧ K ≤ ks.length ∧ trimN (.mk k e n d ks) = .mk k e n (d.take D) (trimK (ks.take K)) ∧ ((k = 1 ∧ 8 * wordsT d = D ∧ ptrsT ks = K) ∨ (k ≠ 1 ∧ D = d.length ∧ K = ks.length)) := by
    by_cases h1 : k = 1
    · exact ⟨8 * wordsT d, ptrsT ks, wordsT_le d ((valid_kids11 hv).2 h1), ptrsT_le ks, by rw [trim_eq, if_pos h1, if_pos h1, trimK_take], .inl ⟨h1, rfl, rfl⟩⟩
    · exact ⟨d.length, ks.length, Nat.le_refl _, Nat.le_refl _, by rw [trim_eq, if_neg h1, if_neg h1, trimK_take], .inr ⟨h1, rfl, rfl⟩⟩
  obtain ⟨D, K, hDl, hKl, hT, hcase⟩ := hDK
  have HT := Lib.hid hT
  have HDL : Hid (D = (d.take D).length) := Lib.hid (by rw [List.length_take]; omega)
  have HKL : Hid ((ks.take K).length = K) := Lib.hid (by rw [List.length_take]; omega)
  have HCL := Lib.hid (fun w' (hb : Below w.heap.size w w') => bytesClone_any A c (d.take D) w' ((HD.out.take D).below hb (Nat.le_refl _)) (by rw [← HDL.out]; omega) HA.out (by rw [← HDL.out]; omega) D HDL.out)
  have HTM := Lib.hid (fun w' (hb : Below w.heap.size w w') => trimmed_any (ks.take K) B c2 w' ((HX.out.kids.take K).on hb (Nat.le_refl _)) (by rw [HKL.out]; omega) (Lib.hid (fun j hj A' c' B' c2' wc hn => by
    rw [List.length_take] at hj
    have hj2 : j < ks.length := by omega
    have e : (ks.take K)[j]'(by rw [List.length_take]; exact hj) = ks[j] := List.getElem_take
    rw [e] at hn ⊢
    exact HI.out ks[j] (List.getElem_mem hj2) A' c' B' c2' wc hn (HSZ.out j hj2) (HVK.out _ (List.getElem_mem hj2)))))
  simp only [HKL.out] at HTM
  have HFIN : Hid (∀ (q base : Nat) (W : World) (A5 : Option Addr) (c5 : Nat), RowT q K K (trimK (ks.take K)) W → w.heap.size ≤ base → base ≤ q → Got W base 5 .u8 (.slice A5 (d.take D).length c5) (d.take D) → NodV w.heap.size (trimN (.mk k e n d ks)) (.agg #[.int .i64 k, .int .i64 e, .int .i64 n, .slice A5 D c5, .slice (some ⟨q, 0, none⟩) K K]) W) := Lib.hid (fun q base W A5 c5 hr h1 h2 hg =>
    hr.nodV h1 h2 (by rw [trimK_length, HKL.out]) (by unfold maxLen; omega) HO.out.1 HO.out.2.1 HO.out.2.2 hg (fun z hz => HBT.out z (List.mem_of_mem_take hz)) HT.out HDL.out)
  have hwb : (8 * wordsT d = D → wordsT d ≤ 1099511627776) := by omega
  clear hx ih hso hv hT h1 h2 h3 hd hbt hA hB HD HBT HO HA HX HI HVK HSZ hs hkl
  generalize trimN (.mk k e n d ks) = tx at *
  have HB0 := Lib.hid (fun o1 o2 => ((Below.refl w.heap.size w).alloc (Nat.le_refl _) o1).alloc (by simp) o2)
  go_enter Tryd.func21, Tryd.ntmps21
  go_wp2_with fail
  refine abs_code10 (F := fun W => Blk W w.heap.size #[.int .i64 k, .int .i64 e, .int .i64 n, .slice A d.length c, .slice B ks.length c2] ∧ Blk W (w.heap.size + 1) #[.int .i64 0, .int .i64 0, .int .i64 0, .slice none 0 0, .slice none 0 0] ∧ Below w.heap.size w W) ⟨(Blk.fresh _ _ _).alloc _, Blk.new (by simp), HB0.out _ _⟩ ?_
  rintro W ⟨hB1, hB2, hbw⟩
  have HW1 := Lib.hid hB1
  have HW2 := Lib.hid hB2
  have HWB := Lib.hid hbw
  obtain ⟨x1, y1, z1⟩ := hB1
  clear hB2 hbw
  go_region
  have HW1n := Lib.hid HW1.out.drew
  have HW2n := Lib.hid HW2.out.drew
  have HWBn := Lib.hid (bel_drew HWB.out)
  clear HW1 HW2 HWB y1 z1
  have HW1 := HW1n
  have HW2 := HW2n
  have HWB := HWBn
  clear HW1n HW2n HWBn
  have hc3 : (k = 1 ∧ 8 * wordsT d = D ∧ ptrsT ks = K ∧ 8 * wordsT d < d.length) ∨ (k = 1 ∧ d.length = D ∧ ptrsT ks = K ∧ 8 * wordsT d = d.length) ∨ (k ≠ 1 ∧ d.length = D ∧ ks.length = K) := by omega
  clear hcase
  rcases hc3 with ⟨h1, hDD, hPP, hD8⟩ | ⟨h1, hDD, hPP, hD8⟩ | ⟨h1, hDD, hPP⟩
  focus
    have t1 : (k == 1) = true := by simpa using h1
    have hwb' := hwb hDD
    have m1 : ¬ ((d.length : Int) ≤ 8 * ((wordsT d : Nat) : Int)) := by omega
    have EDN : Hid ((8 * ((wordsT d : Nat) : Int)).toNat = D) := Lib.hid (by omega)
    have EDM : Hid (8 * wordsT d = D) := Lib.hid hDD
    have EPP : Hid (ptrsT ks = K) := Lib.hid hPP
    clear h1 hDD hPP hwb
    go_wp2_with fail
    refine (HWD.out _ HWB.out).mono ?_
    rintro r w' ⟨rfl, rfl⟩
    go_wp2_with fail
    refine (HPT.out _ HWB.out).mono ?_
    rintro r w' ⟨rfl, hb2⟩
    have HW1n := Lib.hid (HW1.out.below hb2)
    have HW2n := Lib.hid (HW2.out.below hb2)
    have HWBn := Lib.hid (bel_on HWB.out hb2)
    clear HW1 HW2 HWB x1 hb2
    have HW1 := HW1n
    have HW2 := HW2n
    have HWB := HWBn
    clear HW1n HW2n HWBn
    have x1 := HW1.out.cell
    go_wp2_with fail
    simp only [EDN.out, EDM.out, EPP.out]
    clear EDN EDM EPP
  rotate_left
  focus
    have t1 : (k == 1) = true := by simpa using h1
    have hwb' := hwb (hD8.trans hDD)
    have m1 : (d.length : Int) ≤ 8 * ((wordsT d : Nat) : Int) := by omega
    have EDM : Hid (d.length = D) := Lib.hid hDD
    clear hD8
    have EPP : Hid (ptrsT ks = K) := Lib.hid hPP
    clear h1 hDD hPP hwb
    go_wp2_with fail
    refine (HWD.out _ HWB.out).mono ?_
    rintro r w' ⟨rfl, rfl⟩
    go_wp2_with fail
    refine (HPT.out _ HWB.out).mono ?_
    rintro r w' ⟨rfl, hb2⟩
    have HW1n := Lib.hid (HW1.out.below hb2)
    have HW2n := Lib.hid (HW2.out.below hb2)
    have HWBn := Lib.hid (bel_on HWB.out hb2)
    clear HW1 HW2 HWB x1 hb2
    have HW1 := HW1n
    have HW2 := HW2n
    have HWB := HWBn
    clear HW1n HW2n HWBn
    have x1 := HW1.out.cell
    go_wp2_with fail
    simp only [EDM.out, EPP.out]
    clear EDM EPP
  rotate_left
  focus
    have t1 : (k == 1) = false := by simpa using h1
    have EDM : Hid (d.length = D) := Lib.hid hDD
    have EPP : Hid (ks.length = K) := Lib.hid hPP
    clear h1 hDD hPP hwb
    go_wp2_with fail
    simp only [EDM.out, EPP.out]
    clear EDM EPP
  all_goals
    refine abs_world (F := fun W => Blk W w.heap.size #[.int .i64 k, .int .i64 e, .int .i64 n, .slice A d.length c, .slice B ks.length c2] ∧ Blk W (w.heap.size + 1) #[.int .i64 0, .int .i64 0, .int .i64 0, .slice none 0 0, .slice none 0 0] ∧ Below w.heap.size w W) ⟨HW1.out, HW2.out, HWB.out⟩ ?_
    clear HW1 HW2 HWB x1
    rintro W5 ⟨h1, h2, hb⟩
    have HW1 := Lib.hid h1
    have HW2 := Lib.hid h2
    have HWB := Lib.hid hb
    clear h1 h2 hb
    refine (HCL.out _ HWB.out).mono ?_
    rintro r w6 ⟨v, rfl, hg, hb6⟩
    obtain ⟨A5, c5, rfl, -⟩ := hg.slice
    have hz6 : w.heap.size + 1 < W5.heap.size := HW2.out.lt
    have HG := Lib.hid hg
    have HW1n := Lib.hid (HW1.out.below hb6)
    have HW2n := Lib.hid (HW2.out.below hb6)
    have HWBn := Lib.hid (bel_on HWB.out hb6)
    have hz56 := hb6.size
    clear HW1 HW2 HWB hg hb6
    have x1 := HW1n.out.cell
    have y1 := HW1n.out.free
    rw [← HDL.out] at HG
    rw [← HDL.out]
    go_wp2_with fail
    refine abs_world (F := fun W => Blk W w.heap.size #[.int .i64 k, .int .i64 e, .int .i64 n, .slice A5 D c5, .slice B ks.length c2] ∧ Blk W (w.heap.size + 1) #[.int .i64 0, .int .i64 0, .int .i64 0, .slice none 0 0, .slice none 0 0] ∧ Below w.heap.size w W ∧ Got W W5.heap.size 5 .u8 (.slice A5 D c5) (d.take D) ∧ w6.heap.size ≤ W.heap.size) ⟨?_, ?_, ?_, ?_, ?_⟩ ?_
    · exact HW1n.out.set 3 (by simp) _
    · exact HW2n.out.other (by show w.heap.size ≠ w.heap.size + 1; omega) _
    · exact HWBn.out.setCell (by show w.heap.size ≤ w.heap.size; omega) _
    · exact HG.out.far (by show w.heap.size < W5.heap.size; omega) _
    · simp
    clear HW1n HW2n HWBn HG x1 y1
    rintro W7 ⟨h1, h2, hb, hg, hz7⟩
    have HW1 := Lib.hid h1
    have HW2 := Lib.hid h2
    have HWB := Lib.hid hb
    have HG := Lib.hid hg
    clear h1 h2 hb hg
    refine (HTM.out _ HWB.out).mono ?_
    rintro r w8 ⟨rfl, hrow, hb8⟩
    have HRW := Lib.hid hrow
    have HW1n := Lib.hid (HW1.out.below hb8)
    have HW2n := Lib.hid (HW2.out.below hb8)
    have HWBn := Lib.hid (bel_on HWB.out hb8)
    have HGn := Lib.hid (HG.out.below hb8 (Nat.le_refl _))
    clear HW1 HW2 HWB HG hb8 hrow
    obtain ⟨q, hq⟩ : ∃ q, q = W7.heap.size := ⟨_, rfl⟩
    rw [← hq] at HRW hz7
    rw [← hq]
    clear hq
    have x1 := HW1n.out.cell
    have y1 := HW1n.out.free
    have x2 := HW2n.out.cell
    have y2 := HW2n.out.free
    go_wp2
    have hq1 : w.heap.size + 1 < q := by omega
    refine abs_post (F := fun W => Blk W (w.heap.size + 1) #[.int .i64 k, .int .i64 e, .int .i64 n, .slice A5 D c5, .slice (some ⟨q, 0, none⟩) K K] ∧ NodV w.heap.size tx (.agg #[.int .i64 k, .int .i64 e, .int .i64 n, .slice A5 D c5, .slice (some ⟨q, 0, none⟩) K K]) W ∧ Below w.heap.size w W) ⟨?_, ?_, ?_⟩ ?_
    · exact (((((HW2n.out.other (p := ⟨w.heap.size, 4, none⟩) (by show w.heap.size ≠ w.heap.size + 1; omega) _).set 0 (by simp) _).set 1 (by simp) _).set 2 (by simp) _).set 3 (by simp) _).set 4 (by simp) _
    · have hf : w.heap.size < W5.heap.size := by omega
      refine HFIN.out q W5.heap.size _ A5 c5 ?_ (by omega) (by omega) ?_
      · exact (((((HRW.out.other (p := ⟨w.heap.size, 4, none⟩) (by show w.heap.size < q; omega) _).other (p := ⟨w.heap.size + 1, 0, none⟩) hq1 _).other (p := ⟨w.heap.size + 1, 1, none⟩) hq1 _).other (p := ⟨w.heap.size + 1, 2, none⟩) hq1 _).other (p := ⟨w.heap.size + 1, 3, none⟩) hq1 _).other (p := ⟨w.heap.size + 1, 4, none⟩) hq1 _
      · rw [← HDL.out]
        exact (((((HGn.out.far (p := ⟨w.heap.size, 4, none⟩) hf _).far (p := ⟨w.heap.size + 1, 0, none⟩) hz6 _).far (p := ⟨w.heap.size + 1, 1, none⟩) hz6 _).far (p := ⟨w.heap.size + 1, 2, none⟩) hz6 _).far (p := ⟨w.heap.size + 1, 3, none⟩) hz6 _).far (p := ⟨w.heap.size + 1, 4, none⟩) hz6 _
    · refine Below.setCell (Below.setCell (Below.setCell (Below.setCell (Below.setCell (Below.setCell HWBn.out ?_ _) ?_ _) ?_ _) ?_ _) ?_ _) ?_ _ <;> (first | (show w.heap.size ≤ w.heap.size; omega) | (show w.heap.size ≤ w.heap.size + 1; omega))
    rintro W9 ⟨B6, hN, hbw⟩
    exact bodyPost_ret (v := .agg #[.int .i64 k, .int .i64 e, .int .i64 n, .slice A5 D c5, .slice (some ⟨q, 0, none⟩) K K]) (by simp [results, Tryd.results21, go_sem, B6.cell]) rfl ⟨_, rfl, hN, hbw⟩
end Go.Proofs.YtnmanhediiooaaaDoor

/- Package denote: the values of the pointers of an object. -/
namespace Go.Proofs.YtnmanhediiooaaaDoor
open Go.ChangeShapes Go.WideShapes Go.ChangeAt Go.RowKit
set_option linter.unusedVariables false
set_option linter.unusedSimpArgs false
set_option maxRecDepth 100000
attribute [local simp] AllK KnowsV look Is

/-- what value does, r nested objects to go -/
def ValL (b : Nat) (A : Option Addr) (c : Nat) (ls : List (List Int)) (D X O : Int) (w0 : World) (r : Nat) : Prop := ∀ (m s a dep : Int) (w : World), Below b w0 w → Blk w b #[.slice A ls.length c, .int .i64 D, .int .i64 X, .int .i64 O, .int .i64 m] →
  0 ≤ m → m ≤ 4611686018427387904 → 0 ≤ s → s ≤ 1000 → 0 ≤ a → a ≤ 200000000000 → 0 ≤ dep → dep ≤ 901 → (D - dep + 1).toNat = r →
  Calls Tryd.prog 23 #[.pointer (some ⟨b, 0, none⟩), .int .i64 s, .int .i64 a, .int .i64 dep] w fun e w' => Keeps (KB b) w w' ∧ Blk w' b #[.slice A ls.length c, .int .i64 D, .int .i64 X, .int .i64 O, .int .i64 (valV ls r m s a).m] ∧
    (((valV ls r m s a).e = 0 ∧ ∃ v, e = .returned v ∧ NodF w.heap.size (valV ls r m s a).n v w') ∨ ((valV ls r m s a).e ≠ 0 ∧ e = failE (valV ls r m s a).e))

theorem ptrO_bd {ls : List (List Int)} {o : Ob} {x y : Int} (ho : ObOK ls o) (h : ptrO o = (x, y)) : 0 ≤ x ∧ x ≤ 150000000000 ∧ 0 ≤ y ∧ y ≤ 536870911 := by
  obtain ⟨hk0, hsg, hat, hd, hp, hel, hn, hby⟩ := ho
  unfold ptrO at h
  split at h
  · simp only [Prod.mk.injEq] at h; omega
  · split at h
    · simp only [Prod.mk.injEq] at h; omega
    · simp only [Prod.mk.injEq] at h; omega

set_option maxHeartbeats 4000000 in
theorem kids_any (b : Nat) (A : Option Addr) (c : Nat) (ls : List (List Int)) (D X O : Int) (w0 : World) (r : Nat) (E : EnvD b A ls w0) (m : Int) (o : Ob) (dep : Int) (hV : 0 < (ptrO o).2 → dep ≤ 900 ∧ ValL b A c ls D X O w0 r) (w : World) (hb : Below b w0 w) (hk : Blk w b #[.slice A ls.length c, .int .i64 D, .int .i64 X, .int .i64 O, .int .i64 m])
    (hm0 : 0 ≤ m) (hm1 : m ≤ 4611686018427387904) (ho : ObOK ls o) (hd0 : 0 ≤ dep) (hd1 : dep ≤ 901) (hr : (D - dep).toNat = r) :
    Calls Tryd.prog 57 #[.pointer (some ⟨b, 0, none⟩), .agg #[.int .i64 o.k, .int .i64 o.sg, .int .i64 o.at', .int .i64 o.d, .int .i64 o.p, .int .i64 o.el, .int .i64 o.n, .int .i64 o.cost], .int .i64 dep] w fun e w' => Keeps (KB b) w w' ∧ Blk w' b #[.slice A ls.length c, .int .i64 D, .int .i64 X, .int .i64 O, .int .i64 (kidR (valV ls r) o m).m] ∧
      (((kidR (valV ls r) o m).e = 0 ∧ ∃ q N, e = .returned (.slice (some ⟨q, 0, none⟩) N N) ∧ w.heap.size ≤ q ∧ RowG q N (kidR (valV ls r) o m).ks w' ∧ (kidR (valV ls r) o m).ks.length = N ∧ N ≤ 536870911) ∨ ((kidR (valV ls r) o m).e ≠ 0 ∧ e = failE (kidR (valV ls r) o m).e)) := by
  obtain ⟨i0, hi, hz0, hz1, hz2⟩ := info_parts node_info
  have hlt := hk.lt
  obtain ⟨x, y, hxy⟩ : ∃ x y, ptrO o = (x, y) := ⟨_, _, rfl⟩
  obtain ⟨hx0, hx1, hy0, hy1⟩ := ptrO_bd ho hxy
  obtain ⟨n, rfl⟩ := Int.eq_ofNat_of_zero_le hy0
  have hn1 : n ≤ 536870911 := by omega
  have hkR : kidR (valV ls r) o m = runK (fun (m : Int) (i : Nat) => valV ls r m o.sg (x + (i : Int))) m n := by unfold kidR; rw [hxy]; simp
  rw [hkR]
  have hval := valV_m E.wd E.m E.f r
  obtain ⟨f, hf⟩ : ∃ f : Int → Nat → Val, f = fun (m : Int) (i : Nat) => valV ls r m o.sg (x + (i : Int)) := ⟨_, rfl⟩
  have HMR : Hid (∀ j, 0 ≤ (runK f m j).m ∧ (runK f m j).m ≤ m) := Lib.hid (fun j => runK_ind (fun z => 0 ≤ z ∧ z ≤ m) ⟨hm0, Int.le_refl _⟩ j (fun m' i _ hm => by
    subst hf
    have := hval m' o.sg (x + i) hm.1
    exact ⟨this.1, Int.le_trans this.2 hm.2⟩))
  have HV : Hid (∀ (R : Int) (j : Nat) (wr : World), Below b w0 wr → Blk wr b #[.slice A ls.length c, .int .i64 D, .int .i64 X, .int .i64 O, .int .i64 R] → 0 ≤ R → R ≤ m → j < n →
      Calls Tryd.prog 23 #[.pointer (some ⟨b, 0, none⟩), .int .i64 o.sg, .int .i64 (x + j), .int .i64 (dep + 1)] wr fun e w' => Keeps (KB b) wr w' ∧ Blk w' b #[.slice A ls.length c, .int .i64 D, .int .i64 X, .int .i64 O, .int .i64 (f R j).m] ∧
        (((f R j).e = 0 ∧ ∃ v, e = .returned v ∧ NodF wr.heap.size (f R j).n v w') ∨ ((f R j).e ≠ 0 ∧ e = failE (f R j).e))) := Lib.hid (fun R j wr h1 h2 h3 h4 h5 => by
    subst hf
    obtain ⟨hdd, hVV⟩ := hV (by rw [hxy]; show (0 : Int) < n; omega)
    exact hVV R o.sg (x + j) (dep + 1) wr h1 h2 h3 (by omega) (by have := ho.sg; omega) (by have := ho.sg; omega) (by omega) (by omega) (by omega) (by omega) (by rw [← hr]; congr 1; omega))
  rw [← hf]
  have HPT := Lib.hid (fun w2 => RPointers_is o.k o.sg o.at' o.d o.p o.el o.n o.cost x n w2 ho.at'.1 (by have := ho.at'; omega) ho.d.1 ho.d.2 hxy)
  have HB1 := Lib.hid ((Below.refl w.heap.size w).alloc (Nat.le_refl _) (.cells (obA o) 77))
  have HT1 := Lib.hid (hk.alloc (.cells (obA o) 77))
  have HO1 : Hid (Blk (w.alloc (.cells (obA o) 77)) w.heap.size (obA o)) := Lib.hid (Blk.fresh _ _ _)
  have HB0 := Lib.hid (fun (wr : World) (h : Keeps (KB b) w wr) => hb.trans (bel_keeps h (Nat.le_of_lt hlt)))
  have HL : Hid (b < w.heap.size) := Lib.hid hlt
  unfold obA at HB1 HT1 HO1
  clear hb hk hlt hkR hval hV hr ho hxy hy0 hy1 hf E
  obtain ⟨x2, y2, z2⟩ := HO1.out
  go_enter Tryd.func57, Tryd.ntmps57
  go_wp2_with fail
  refine (HPT.out _).mono ?_
  rintro e w1 ⟨rfl, hb1⟩
  have HT2 := Lib.hid (HT1.out.below hb1)
  have HO2 := Lib.hid (HO1.out.below hb1)
  have HB2 : Hid (Below w.heap.size w w1) := Lib.hid (bel_on HB1.out hb1)
  clear HT1 HO1 HB1 hb1 x2 y2 z2 HPT
  go_wp2_with (at_make; refine wpList_make_full _ rfl _ _ 28 rfl w1.heap.size 30 i0 _ 5 Tryd.underlying28 hi hz0 hz1 .i64 .i64 _ _ n rfl rfl (by omega) (by omega) (by rw [hz2]; omega) (by unfold maxLen; omega) (Nat.le_refl _) ?_; intro w3 hown0 hgrow0)
  have hR0 : RowG w1.heap.size n [] w3 := RowG.made hown0
  have hb3 : Below w1.heap.size w1 w3 := (Below.refl _ _).grown hgrow0 (Nat.le_refl _) (fun g hg => by cases hg)
  have HT3 := Lib.hid (HT2.out.below hb3)
  have HO3 := Lib.hid (HO2.out.below hb3)
  have HK3 : Hid (Keeps (KB b) w w3) := Lib.hid (keeps_of (bel_on HB2.out hb3))
  have hq0 : w.heap.size < w1.heap.size := HO2.out.lt
  clear hown0 hgrow0 HT2 HO2 HB2 hb3
  generalize w1.heap.size = q at *
  go_loopw [20] (fun i wr => ∃ j : Nat, j ≤ n ∧ i = .int .i64 j ∧ (runK f m j).e = 0 ∧ RowG q n (runK f m j).ks wr ∧ Blk wr b #[.slice A ls.length c, .int .i64 D, .int .i64 X, .int .i64 O, .int .i64 (runK f m j).m] ∧ Keeps (KB b) w wr ∧ Blk wr w.heap.size #[.int .i64 o.k, .int .i64 o.sg, .int .i64 o.at', .int .i64 o.d, .int .i64 o.p, .int .i64 o.el, .int .i64 o.n, .int .i64 o.cost]) (fun i _ => n - (intOf i).toNat)
  case atStart => exact ⟨0, by omega, rfl, rfl, hR0, HT3.out, HK3.out, HO3.out⟩
  case round =>
    clear hR0 HT3 HO3 HK3
    obtain ⟨j, hj, rfl, he, hrow, hbt, hkp, hbo⟩ := hrel
    have HRE := Lib.hid he
    have HW := Lib.hid hrow
    have HT := Lib.hid hbt
    have HK := Lib.hid hkp
    have HO := Lib.hid hbo
    clear he hrow hbt hkp
    by_cases hlt : j < n
    · have hj1 : (j : Int) < (n : Int) := by omega
      have hj2 : (j : Int) < 536870912 := by omega
      have HMJ := Lib.hid (HMR.out j)
      have HKL : Hid ((runK f m j).ks.length = j) := Lib.hid (runK_length HRE.out)
      have HNX : Hid (∀ h : (f (runK f m j).m j).e = 0, runK f m (j + 1) = ⟨(runK f m j).ks ++ [(f (runK f m j).m j).n], (f (runK f m j).m j).m, 0⟩) := Lib.hid (fun h => runK_ok HRE.out h)
      have HNO : Hid (∀ h : (f (runK f m j).m j).e ≠ 0, (runK f m n).m = (f (runK f m j).m j).m ∧ (runK f m n).e = (f (runK f m j).m j).e) := Lib.hid (fun h => by
        have h1 := runK_no HRE.out h
        have h2 : runK f m n = runK f m (j + 1) := runK_keep (by rw [h1]; exact h) (by omega)
        rw [h2, h1]
        exact ⟨rfl, rfl⟩)
      obtain ⟨x2, y2, z2⟩ := hbo
      go_wp2_with fail
      refine (HV.out (runK f m j).m j wr (HB0.out _ HK.out) HT.out HMJ.out.1 HMJ.out.2 hlt).mono ?_
      rintro e w4 ⟨hk4, hbt4, ⟨he4, v, rfl, hnd⟩ | ⟨he4, rfl⟩⟩
      · obtain ⟨A5, c5, B5, e5, hi5, rfl, hh5, ho5⟩ := hnd
        have hqr : q < wr.heap.size := HW.out.lt
        have HW4 := Lib.hid (HW.out.keeps hk4 (by have := HL.out; omega))
        have HT4 := Lib.hid hbt4
        have HK4 := Lib.hid (HK.out.trans hk4)
        have HO4 := Lib.hid (HO.out.keeps hk4 (by have := HL.out; unfold KB; omega))
        have HO5 := Lib.hid ho5
        have HN4 := Lib.hid (HNX.out he4)
        clear hk4 hbt4 ho5 x2 y2 z2 hz0 HW HT HK HO HNX HNO he4
        obtain ⟨u0, y0⟩ := HW4.out.cell (j * 5) (by omega)
        obtain ⟨u1, y1⟩ := HW4.out.cell (j * 5 + 1) (by omega)
        obtain ⟨u2, y2⟩ := HW4.out.cell (j * 5 + 2) (by omega)
        obtain ⟨u3, y3⟩ := HW4.out.cell (j * 5 + 3) (by omega)
        obtain ⟨u4, y4⟩ := HW4.out.cell (j * 5 + 4) (by omega)
        have z := HW4.out.free
        generalize (f (runK f m j).m j).n = kx at *
        generalize (f (runK f m j).m j).m = m4 at *
        go_wp2
        go_roundw
        case rel =>
          refine ⟨j + 1, by omega, by go_num, by rw [HN4.out], ?_, ?_, ?_, ?_⟩
          · rw [HN4.out]
            exact HW4.out.next HKL.out hlt (lo := wr.heap.size) (hi' := hi5) (by omega) hh5 HO5.out
          · rw [HN4.out]
            have hne : q ≠ b := by have := HL.out; omega
            exact ((((HT4.out.other (p := ⟨q, j * 5, none⟩) hne _).other (p := ⟨q, j * 5 + 1, none⟩) hne _).other (p := ⟨q, j * 5 + 2, none⟩) hne _).other (p := ⟨q, j * 5 + 3, none⟩) hne _).other (p := ⟨q, j * 5 + 4, none⟩) hne _
          · refine keeps_set (keeps_set (keeps_set (keeps_set (keeps_set HK4.out ?_ _) ?_ _) ?_ _) ?_ _) ?_ _ <;> exact .inr (by show w.heap.size ≤ q; omega)
          · have hne : q ≠ w.heap.size := by omega
            exact ((((HO4.out.other (p := ⟨q, j * 5, none⟩) hne _).other (p := ⟨q, j * 5 + 1, none⟩) hne _).other (p := ⟨q, j * 5 + 2, none⟩) hne _).other (p := ⟨q, j * 5 + 3, none⟩) hne _).other (p := ⟨q, j * 5 + 4, none⟩) hne _
        case measure => simp [intOf]; omega
      · obtain ⟨h1, h2⟩ := HNO.out he4
        have HK4 := Lib.hid (HK.out.trans hk4)
        rw [← h1] at hbt4
        rw [← h2] at he4
        unfold failE
        go_wp2
        exact ⟨rfl, HK4.out, hbt4, .inr ⟨he4, by rw [h2]; rfl⟩⟩
    · obtain rfl : j = n := by omega
      go_wp2
      go_ret
      exact ⟨HK.out, HT.out, .inl ⟨HRE.out, q, j, rfl, by omega, HW.out, runK_length HRE.out, by omega⟩⟩
end Go.Proofs.YtnmanhediiooaaaDoor

/- Package denote: an object that is no composite list, as a node. -/
namespace Go.Proofs.YtnmanhediiooaaaDoor
open Go.ChangeShapes Go.WideShapes Go.ChangeAt Go.RowKit
set_option linter.unusedVariables false
set_option linter.unusedSimpArgs false
set_option maxRecDepth 100000
attribute [local simp] AllK KnowsV look Is

theorem keeps_undrew {b : Nat} {w wc : World} (h : Keeps (KB b) w.drew wc) : Keeps (KB b) w wc := ⟨h.os, h.tape, h.output, h.size, h.block⟩
theorem keeps_on' {b : Nat} {w W wc w' : World} (h1 : Below w.heap.size w W) (h2 : Below W.heap.size W wc) (h3 : Keeps (KB b) wc w') : Keeps (KB b) w w' := (keeps_of (bel_on h1 h2)).trans h3
theorem stableK_datg {b lo : Nat} {xs : List Int} (hb : b < lo) : stableK (KB b) (DatG lo xs) := fun v w w' h hk => got_keeps h hk hb
theorem stableK_nod {b lo : Nat} {x : Nd} (hb : b < lo) : stableK (KB b) (NodF lo x) := fun v w w' h hk => NodF.keeps h hk hb
/-- v is a row of the nodes ks, and the traversal's block holds cs -/
def KidF (b lo : Nat) (ks : List Nd) (cs : Array Value) (e : Int) : Fact := fun v w => (∃ q N, v = .slice (some ⟨q, 0, none⟩) N N ∧ lo ≤ q ∧ RowG q N ks w ∧ ks.length = N ∧ N ≤ 536870911) ∧ Blk w b cs ∧ e = 0
theorem stable_kidf (b lo : Nat) (ks : List Nd) (cs : Array Value) (e : Int) : stable (KidF b lo ks cs e) := fun v w w' ⟨⟨q, N, h1, h2, h3, h4, h5⟩, h6, h7⟩ hb => ⟨⟨q, N, h1, h2, h3.below hb, h4, h5⟩, h6.below hb, h7⟩
theorem nodf_lower {lo lo' : Nat} {x : Nd} {v : Value} {w : World} (h : NodF lo x v w) (hl : lo' ≤ lo) : NodF lo' x v w := by
  obtain ⟨A, c, B, c2, hi, h1, h2, h3⟩ := h
  exact ⟨A, c, B, c2, hi, h1, h2, h3.wide hl (Nat.le_refl _)⟩
theorem NodF.set {lo : Nat} {x : Nd} {v : Value} {w : World} (h : NodF lo x v w) {p : Addr} (hp : p.block < lo) (u : Value) : NodF lo x v (w.setCell p u) := by
  obtain ⟨A, c, B, c2, hi, h1, h2, h3⟩ := h
  exact ⟨A, c, B, c2, hi, h1, by simpa using h2, h3.to fun k k1 k2 => Below.heap_setCell _ _ _ _ (by omega)⟩
theorem datO_bts {ls : List (List Int)} {o : Ob} (ho : ObOK ls o) : Bts (datO ls o) := by
  unfold datO
  split
  · exact bytesOf_bts _
  · split
    · exact trimL_bts (bytesOf_bts _) _ _
    · intro z hz; cases hz

set_option maxHeartbeats 4000000 in
theorem contents_any (b : Nat) (A : Option Addr) (c : Nat) (ls : List (List Int)) (D X O : Int) (w0 : World) (r : Nat) (E : EnvD b A ls w0) (m : Int) (o : Ob) (dep : Int) (hV : 0 < (ptrO o).2 → dep ≤ 900 ∧ ValL b A c ls D X O w0 r) (w : World) (hb : Below b w0 w) (hk : Blk w b #[.slice A ls.length c, .int .i64 D, .int .i64 X, .int .i64 O, .int .i64 m])
    (hm0 : 0 ≤ m) (hm1 : m ≤ 4611686018427387904) (ho : ObOK ls o) (h7 : o.el ≠ 7) (hd0 : 0 ≤ dep) (hd1 : dep ≤ 901) (hr : (D - dep).toNat = r) :
    Calls Tryd.prog 43 #[.pointer (some ⟨b, 0, none⟩), .agg #[.int .i64 o.k, .int .i64 o.sg, .int .i64 o.at', .int .i64 o.d, .int .i64 o.p, .int .i64 o.el, .int .i64 o.n, .int .i64 o.cost], .int .i64 dep] w fun e w' => Keeps (KB b) w w' ∧ Blk w' b #[.slice A ls.length c, .int .i64 D, .int .i64 X, .int .i64 O, .int .i64 (contK (valV ls r) ls m o).m] ∧
      (((contK (valV ls r) ls m o).e = 0 ∧ ∃ v, e = .returned v ∧ NodF w.heap.size (contK (valV ls r) ls m o).n v w') ∨ ((contK (valV ls r) ls m o).e ≠ 0 ∧ e = failE (contK (valV ls r) ls m o).e)) := by
  have hlt := hk.lt
  have HDA := Lib.hid (fun w2 h1 h2 => data_any b A c ls D X O m o w0 w2 E ho h7 h1 h2)
  have HKI := Lib.hid (fun w2 h1 h2 => kids_any b A c ls D X O w0 r E m o dep hV w2 h1 h2 hm0 hm1 ho hd0 hd1 hr)
  have hcy : (kidR (valV ls r) o m).e = 0 → contK (valV ls r) ls m o = ⟨.mk o.k o.el o.n (datO ls o) (kidR (valV ls r) o m).ks, (kidR (valV ls r) o m).m, 0⟩ := fun h => by unfold contK; rw [if_neg (by rw [h]; simp)]
  have HCE : Hid ((kidR (valV ls r) o m).e ≠ 0 → contK (valV ls r) ls m o = errV (kidR (valV ls r) o m).m (kidR (valV ls r) o m).e) := Lib.hid (fun h => by unfold contK; rw [if_pos h])
  have HCY := Lib.hid hcy
  have HDB := Lib.hid (datO_bts ho)
  have HIK : Hid ((-9223372036854775808 ≤ o.k ∧ o.k ≤ 9223372036854775807) ∧ (-9223372036854775808 ≤ o.el ∧ o.el ≤ 9223372036854775807) ∧ (-9223372036854775808 ≤ o.n ∧ o.n ≤ 9223372036854775807)) := Lib.hid (by have := ho.k; have := ho.el; have := ho.n; omega)
  generalize kidR (valV ls r) o m = R at *
  generalize contK (valV ls r) ls m o = CV at *
  have HB1 := Lib.hid (((Below.refl w.heap.size w).alloc (Nat.le_refl _) (.cells (obA o) 77)).alloc (by simp) (.cells #[.int .i64 0, .int .i64 0, .int .i64 0, .slice none 0 0, .slice none 0 0] 30))
  have HT1 := Lib.hid ((hk.alloc (.cells (obA o) 77)).alloc (.cells #[.int .i64 0, .int .i64 0, .int .i64 0, .slice none 0 0, .slice none 0 0] 30))
  have HO1 : Hid (Blk ((w.alloc (.cells (obA o) 77)).alloc (.cells #[.int .i64 0, .int .i64 0, .int .i64 0, .slice none 0 0, .slice none 0 0] 30)) w.heap.size (obA o)) := Lib.hid ((Blk.fresh _ _ _).alloc _)
  have HR1 : Hid (Blk ((w.alloc (.cells (obA o) 77)).alloc (.cells #[.int .i64 0, .int .i64 0, .int .i64 0, .slice none 0 0, .slice none 0 0] 30)) (w.heap.size + 1) #[.int .i64 0, .int .i64 0, .int .i64 0, .slice none 0 0, .slice none 0 0]) := Lib.hid (Blk.new (by simp))
  have HNO : Hid (¬ KB b w.heap.size) := Lib.hid (by unfold KB; omega)
  have HNR : Hid (¬ KB b (w.heap.size + 1)) := Lib.hid (by unfold KB; omega)
  unfold obA at HB1 HT1 HO1 HR1
  clear hk hm0 hm1 ho h7 hd0 hd1 hr hV hcy E
  go_enter Tryd.func43, Tryd.ntmps43
  go_wp2_with fail
  refine abs_code10 (F := fun W => W = (w.alloc (.cells #[.int .i64 o.k, .int .i64 o.sg, .int .i64 o.at', .int .i64 o.d, .int .i64 o.p, .int .i64 o.el, .int .i64 o.n, .int .i64 o.cost] 77)).alloc (.cells #[.int .i64 0, .int .i64 0, .int .i64 0, .slice none 0 0, .slice none 0 0] 30)) rfl ?_
  rintro W1 hW1
  rw [← hW1] at HB1 HT1 HO1 HR1
  have HZ1 : Hid (w.heap.size + 1 < W1.heap.size) := Lib.hid HR1.out.lt
  have HL : Hid (b < W1.heap.size) := Lib.hid HT1.out.lt
  have HB := Lib.hid (fun (w2 : World) (h : Below W1.heap.size W1 w2) => hb.trans ((bel_on HB1.out h).mono (Nat.le_of_lt hlt)))
  clear hW1 hb hlt
  refine wp_region_p14 12 (KB b) (by kernel_rfl) (by kernel_rfl) ?_
  refine p_val_l (u := ?_) [4] (by kernel_rfl) rfl (by kernel_rfl) trivial (fun ρ wc hkc hcn hq => ?_) ?_; rotate_left
  · obtain ⟨hcn, hfn⟩ := hcn
    simp at hq
    go_simp
    rfl
  refine p_val_l (u := ?_) [7] (by kernel_rfl) rfl (by kernel_rfl) trivial (fun ρ wc hkc hcn hq => ?_) ?_; rotate_left
  · obtain ⟨hcn, hfn⟩ := hcn
    simp at hq
    have x2 := (HO1.out.keeps (keeps_undrew hkc) HNO.out).cell
    go_simp
    rfl
  refine p_val_l (u := ?_) [4] (by kernel_rfl) rfl (by kernel_rfl) trivial (fun ρ wc hkc hcn hq => ?_) ?_; rotate_left
  · obtain ⟨hcn, hfn⟩ := hcn
    simp at hq
    go_simp
    rfl
  refine p_val_l (u := ?_) [9] (by kernel_rfl) rfl (by kernel_rfl) trivial (fun ρ wc hkc hcn hq => ?_) ?_; rotate_left
  · obtain ⟨hcn, hfn⟩ := hcn
    simp at hq
    have x2 := (HO1.out.keeps (keeps_undrew hkc) HNO.out).cell
    go_simp
    rfl
  refine p_val_l (u := ?_) [4] (by kernel_rfl) rfl (by kernel_rfl) trivial (fun ρ wc hkc hcn hq => ?_) ?_; rotate_left
  · obtain ⟨hcn, hfn⟩ := hcn
    simp at hq
    go_simp
    rfl
  refine p_val_l (u := ?_) [11] (by kernel_rfl) rfl (by kernel_rfl) trivial (fun ρ wc hkc hcn hq => ?_) ?_; rotate_left
  · obtain ⟨hcn, hfn⟩ := hcn
    simp at hq
    have x2 := (HO1.out.keeps (keeps_undrew hkc) HNO.out).cell
    go_simp
    rfl
  refine p_val_l (u := ?_) [0] (by kernel_rfl) rfl (by kernel_rfl) trivial (fun ρ wc hkc hcn hq => ?_) ?_; rotate_left
  · obtain ⟨hcn, hfn⟩ := hcn
    simp at hq
    go_simp
    rfl
  refine p_val_l (u := ?_) [4] (by kernel_rfl) rfl (by kernel_rfl) trivial (fun ρ wc hkc hcn hq => ?_) ?_; rotate_left
  · obtain ⟨hcn, hfn⟩ := hcn
    simp at hq
    have x2 := (HO1.out.keeps (keeps_undrew hkc) HNO.out).cell
    go_simp
    rfl
  refine p_call (T := DatG W1.heap.size (datO ls o)) 56 [13, 14] (by kernel_rfl) rfl rfl (by kernel_rfl) trivial (stable_datg _ _) (stableK_datg HL.out) (fun ρ wc hbc hcn hq => ?_) ?_
  · obtain ⟨hcn, hfn⟩ := hcn
    simp at hq
    refine ⟨_, by go_simp; rfl, ?_⟩
    refine (HDA.out _ (HB.out _ (bel_undrew hbc)) (HT1.out.drew.below hbc)).mono ?_
    rintro e w' ⟨v, rfl, hg, hbq⟩
    exact ⟨_, rfl, hg.mono hbc.size, hbq⟩
  refine p_val (u := ?_) [0] (by kernel_rfl) rfl rfl (by kernel_rfl) trivial (fun ρ wc hbc hcn hq => ?_) ?_; rotate_left
  · obtain ⟨hcn, hfn⟩ := hcn
    simp at hq
    go_simp
    rfl
  refine p_val (u := ?_) [4] (by kernel_rfl) rfl rfl (by kernel_rfl) trivial (fun ρ wc hbc hcn hq => ?_) ?_; rotate_left
  · obtain ⟨hcn, hfn⟩ := hcn
    simp at hq
    have x2 := (HO1.out.drew.below hbc).cell
    go_simp
    rfl
  refine p_val (u := ?_) [2] (by kernel_rfl) rfl rfl (by kernel_rfl) trivial (fun ρ wc hbc hcn hq => ?_) ?_; rotate_left
  · obtain ⟨hcn, hfn⟩ := hcn
    simp at hq
    go_simp
    rfl
  refine p_sp (T := KidF b W1.heap.size R.ks #[.slice A ls.length c, .int .i64 D, .int .i64 X, .int .i64 O, .int .i64 R.m] R.e) 57 [16, 17, 18] rfl rfl (by kernel_rfl) trivial (stable_kidf _ _ _ _ _) (fun ρ wc hbc hcn hq => ?_) ?_
  · obtain ⟨hcn, hfn⟩ := hcn
    simp at hq
    refine ⟨_, by go_simp; rfl, ?_⟩
    refine (HKI.out _ (HB.out _ (bel_undrew hbc)) (HT1.out.drew.below hbc)).mono ?_
    rintro e w' ⟨hkk, hbt, ⟨he, q, N, rfl, hq1, hrow, hN, hN2⟩ | ⟨he, rfl⟩⟩
    · exact .inl ⟨_, rfl, ⟨⟨q, N, rfl, Nat.le_trans hbc.size hq1, hrow, hN, hN2⟩, hbt, he⟩, hkk⟩
    · refine .inr ⟨_, rfl, fun a ha => ⟨ha, keeps_on' HB1.out (bel_undrew hbc) hkk, ?_, ?_⟩⟩
      · rw [HCE.out he]
        exact hbt
      · exact .inr ⟨by rw [HCE.out he]; exact he, by rw [HCE.out he]; rfl⟩
  refine p_new_l (T := NodF W1.heap.size (.mk o.k o.el o.n (datO ls o) R.ks)) [8, 10, 12, 15, 19] (by kernel_rfl) rfl (by kernel_rfl) trivial (stable_nod _ _) (stableK_nod HL.out) (fun ρ wc hkc hcn hq => ?_) ?_
  · obtain ⟨hcn, hfn⟩ := hcn
    simp at hq
    obtain ⟨h8, h10, h12, h15, ⟨q, N, h19, hq1, hrow, hN, hN2⟩, -⟩ := hq
    obtain ⟨A1, c1, e15, -⟩ := Got.full h15
    rw [e15] at h15
    refine ⟨_, wc, by go_simp; rfl, ?_, Below.refl _ _⟩
    exact RowG.nod hrow (Nat.le_refl _) hq1 hN (by unfold maxLen; omega) HIK.out.1 HIK.out.2.1 HIK.out.2.2 h15 HDB.out

  refine p_end_lit 21 rfl (fun ff w5 hk5 hk => ?_)
  have h19 : KidF b W1.heap.size R.ks #[.slice A ls.length c, .int .i64 D, .int .i64 X, .int .i64 O, .int .i64 R.m] R.e (ff 19) w5 := allN_atF hk 19 (by decide) (by decide)
  have h20 : NodF W1.heap.size (.mk o.k o.el o.n (datO ls o) R.ks) (ff 20) w5 := allN_atF hk 20 (by decide) (by decide)
  simp [AllN] at hk
  simp only [frameL, hk, Nat.zero_add, Nat.reduceAdd]
  clear hk
  obtain ⟨-, hbt5, hre⟩ := h19
  have HT5 := Lib.hid hbt5
  have HK5 := Lib.hid (keeps_on' HB1.out (Below.refl _ _) (keeps_undrew hk5))
  have HR5 := Lib.hid (HR1.out.keeps (keeps_undrew hk5) HNR.out)
  have HO5 := Lib.hid (HO1.out.keeps (keeps_undrew hk5) HNO.out)
  have HN5 := Lib.hid h20
  obtain ⟨A5, c5, B5, e5, hi5, e20, -⟩ := h20
  have HCV := Lib.hid (HCY.out hre)
  rw [e20] at HN5
  rw [e20]
  simp only [Nd.k, Nd.e, Nd.n, Nd.d, Nd.ks] at HN5 ⊢
  clear e20 hbt5 hk5 hre HCE HCY HDB HDA HKI HT1 HO1 HR1 HB HB1
  generalize (datO ls o).length = dl at *
  generalize R.ks.length = kl at *
  obtain ⟨x2, y2, z2⟩ := HR5.out
  go_wp2_with fail
  refine abs_post (F := fun W => Blk W (w.heap.size + 1) #[.int .i64 o.k, .int .i64 o.el, .int .i64 o.n, .slice A5 dl c5, .slice B5 kl e5] ∧ Keeps (KB b) w W ∧ Blk W b #[.slice A ls.length c, .int .i64 D, .int .i64 X, .int .i64 O, .int .i64 R.m] ∧ NodF W1.heap.size (.mk o.k o.el o.n (datO ls o) R.ks) (.agg #[.int .i64 o.k, .int .i64 o.el, .int .i64 o.n, .slice A5 dl c5, .slice B5 kl e5]) W) ⟨?_, ?_, ?_, ?_⟩ ?_
  · exact ((((HR5.out.set 0 (by simp) _).set 1 (by simp) _).set 2 (by simp) _).set 3 (by simp) _).set 4 (by simp) _
  · refine keeps_set (keeps_set (keeps_set (keeps_set (keeps_set HK5.out ?_ _) ?_ _) ?_ _) ?_ _) ?_ _ <;> exact .inr (by show w.heap.size ≤ w.heap.size + 1; omega)
  · have hne : w.heap.size + 1 ≠ b := fun e => HNR.out (by unfold KB; exact e)
    exact ((((HT5.out.other (p := ⟨w.heap.size + 1, 0, none⟩) hne _).other (p := ⟨w.heap.size + 1, 1, none⟩) hne _).other (p := ⟨w.heap.size + 1, 2, none⟩) hne _).other (p := ⟨w.heap.size + 1, 3, none⟩) hne _).other (p := ⟨w.heap.size + 1, 4, none⟩) hne _
  · have hl := HZ1.out
    exact ((((HN5.out.set (p := ⟨w.heap.size + 1, 0, none⟩) hl _).set (p := ⟨w.heap.size + 1, 1, none⟩) hl _).set (p := ⟨w.heap.size + 1, 2, none⟩) hl _).set (p := ⟨w.heap.size + 1, 3, none⟩) hl _).set (p := ⟨w.heap.size + 1, 4, none⟩) hl _
  rintro V ⟨B6, hkv, ht, hn⟩
  exact bodyPost_ret (v := .agg #[.int .i64 o.k, .int .i64 o.el, .int .i64 o.n, .slice A5 dl c5, .slice B5 kl e5]) (by simp [results, Tryd.results43, go_sem, B6.cell]) rfl ⟨hkv, by rw [HCV.out]; exact ht, .inl ⟨by rw [HCV.out], _, rfl, nodf_lower (by rw [HCV.out]; exact hn) (by have := HZ1.out; omega)⟩⟩
end Go.Proofs.YtnmanhediiooaaaDoor

/- Package denote: composite lists, and the value of a pointer. -/
namespace Go.Proofs.YtnmanhediiooaaaDoor
open Go.ChangeShapes Go.WideShapes Go.ChangeAt Go.RowKit
set_option linter.unusedVariables false
set_option linter.unusedSimpArgs false
set_option maxRecDepth 100000
attribute [local simp] AllK KnowsV look Is

theorem contK_m {ls : List (List Int)} (hw : Wd2 ls) (hm : ls.length ≤ 40) (hf : ∀ j, (seg ls j).length ≤ 20000000) (r : Nat) (m : Int) (o : Ob) (h : 0 ≤ m) : 0 ≤ (contK (valV ls r) ls m o).m ∧ (contK (valV ls r) ls m o).m ≤ m := by
  have h1 : 0 ≤ (kidR (valV ls r) o m).m ∧ (kidR (valV ls r) o m).m ≤ m := runK_ind (fun z => 0 ≤ z ∧ z ≤ m) ⟨h, Int.le_refl _⟩ _ (fun m' i _ hm' => by
    have := valV_m hw hm hf r m' o.sg ((ptrO o).1 + i) hm'.1
    exact ⟨this.1, Int.le_trans this.2 hm'.2⟩)
  unfold contK
  split
  · exact h1
  · exact h1

set_option maxHeartbeats 4000000 in
theorem elements_any (b : Nat) (A : Option Addr) (c : Nat) (ls : List (List Int)) (D X O : Int) (w0 : World) (r : Nat) (E : EnvD b A ls w0) (hV : ValL b A c ls D X O w0 r) (m : Int) (o : Ob) (dep : Int) (w : World) (hb : Below b w0 w) (hk : Blk w b #[.slice A ls.length c, .int .i64 D, .int .i64 X, .int .i64 O, .int .i64 m])
    (hm0 : 0 ≤ m) (hm1 : m ≤ 4611686018427387904) (ho : ObOK ls o) (hoe : ∀ j : Nat, (j : Int) < o.n → ObOK ls (eleO o j)) (hat : o.at' ≤ 281474976710656) (hd0 : 0 ≤ dep) (hd1 : dep ≤ 900) (hr : (D - dep).toNat = r) :
    Calls Tryd.prog 42 #[.pointer (some ⟨b, 0, none⟩), .agg #[.int .i64 o.k, .int .i64 o.sg, .int .i64 o.at', .int .i64 o.d, .int .i64 o.p, .int .i64 o.el, .int .i64 o.n, .int .i64 o.cost], .int .i64 dep] w fun e w' => Keeps (KB b) w w' ∧ Blk w' b #[.slice A ls.length c, .int .i64 D, .int .i64 X, .int .i64 O, .int .i64 (elsR (valV ls r) ls o m).m] ∧
      (((elsR (valV ls r) ls o m).e = 0 ∧ ∃ q N, e = .returned (.slice (some ⟨q, 0, none⟩) N N) ∧ w.heap.size ≤ q ∧ RowG q N (elsR (valV ls r) ls o m).ks w' ∧ (elsR (valV ls r) ls o m).ks.length = N ∧ N ≤ 536870911) ∨ ((elsR (valV ls r) ls o m).e ≠ 0 ∧ e = failE (elsR (valV ls r) ls o m).e)) := by
  obtain ⟨i0, hi, hz0, hz1, hz2⟩ := info_parts node_info
  have hlt := hk.lt
  obtain ⟨n, hn⟩ := Int.eq_ofNat_of_zero_le ho.n.1
  have hn1 : n ≤ 536870911 := by have := ho.n.2; omega
  have hkR : elsR (valV ls r) ls o m = runK (fun (m : Int) (i : Nat) => contK (valV ls r) ls m (eleO o (i : Int))) m n := by unfold elsR; rw [hn]; simp
  rw [hkR]
  have hval := contK_m E.wd E.m E.f r
  obtain ⟨f, hf⟩ : ∃ f : Int → Nat → Val, f = fun (m : Int) (i : Nat) => contK (valV ls r) ls m (eleO o (i : Int)) := ⟨_, rfl⟩
  have HMR : Hid (∀ j, 0 ≤ (runK f m j).m ∧ (runK f m j).m ≤ m) := Lib.hid (fun j => runK_ind (fun z => 0 ≤ z ∧ z ≤ m) ⟨hm0, Int.le_refl _⟩ j (fun m' i _ hm => by
    subst hf
    have := hval m' (eleO o (i : Int)) hm.1
    exact ⟨this.1, Int.le_trans this.2 hm.2⟩))
  have HV : Hid (∀ (R : Int) (j : Nat) (wr : World), Below b w0 wr → Blk wr b #[.slice A ls.length c, .int .i64 D, .int .i64 X, .int .i64 O, .int .i64 R] → 0 ≤ R → R ≤ m → j < n →
      Calls Tryd.prog 43 #[.pointer (some ⟨b, 0, none⟩), .agg #[.int .i64 1, .int .i64 o.sg, .int .i64 (o.at' + j * (o.d + o.p)), .int .i64 o.d, .int .i64 o.p, .int .i64 0, .int .i64 0, .int .i64 0], .int .i64 dep] wr fun e w' => Keeps (KB b) wr w' ∧ Blk w' b #[.slice A ls.length c, .int .i64 D, .int .i64 X, .int .i64 O, .int .i64 (f R j).m] ∧
        (((f R j).e = 0 ∧ ∃ v, e = .returned v ∧ NodF wr.heap.size (f R j).n v w') ∨ ((f R j).e ≠ 0 ∧ e = failE (f R j).e))) := Lib.hid (fun R j wr h1 h2 h3 h4 h5 => by
    subst hf
    exact contents_any b A c ls D X O w0 r E R (eleO o (j : Int)) dep (fun _ => ⟨by omega, hV⟩) wr h1 h2 h3 (by omega) (hoe j (by omega)) (by show (0 : Int) ≠ 7; omega) hd0 (by omega) hr)
  rw [← hf]
  have HEM := Lib.hid (fun w2 (j : Nat) (hj : j < n) => RElement_any o.k o.sg o.at' o.d o.p o.el o.n o.cost j w2 (by omega) (by omega) ho.at'.1 hat ho.d.1 ho.d.2 ho.p.1 ho.p.2)
  have HB1 := Lib.hid ((Below.refl w.heap.size w).alloc (Nat.le_refl _) (.cells (obA o) 77))
  have HT1 := Lib.hid (hk.alloc (.cells (obA o) 77))
  have HO1 : Hid (Blk (w.alloc (.cells (obA o) 77)) w.heap.size (obA o)) := Lib.hid (Blk.fresh _ _ _)
  have HB0 := Lib.hid (fun (wr : World) (h : Keeps (KB b) w wr) => hb.trans (bel_keeps h (Nat.le_of_lt hlt)))
  have HL : Hid (b < w.heap.size) := Lib.hid hlt
  unfold obA at HB1 HT1 HO1
  obtain ⟨on, hon⟩ : ∃ on, on = o.n := ⟨_, rfl⟩
  rw [← hon] at HEM HB1 HT1 HO1 hn ⊢
  subst hn
  clear hb hk hlt hkR hval hV hr ho hoe hat hf E hon
  obtain ⟨x2, y2, z2⟩ := HO1.out
  go_enter Tryd.func42, Tryd.ntmps42
  go_wp2_with (at_make; refine wpList_make_full _ rfl _ _ 28 rfl (w.alloc (.cells #[.int .i64 o.k, .int .i64 o.sg, .int .i64 o.at', .int .i64 o.d, .int .i64 o.p, .int .i64 o.el, .int .i64 n, .int .i64 o.cost] 77)).heap.size 30 i0 _ 5 Tryd.underlying28 hi hz0 hz1 .i64 .i64 _ _ n rfl rfl (by omega) (by omega) (by rw [hz2]; omega) (by unfold maxLen; omega) (Nat.le_refl _) ?_; intro w3 hown0 hgrow0)
  have hR0 : RowG (w.heap.size + 1) n [] w3 := by
    have := RowG.made hown0
    simpa using this
  have hb3 : Below (w.alloc (.cells #[.int .i64 o.k, .int .i64 o.sg, .int .i64 o.at', .int .i64 o.d, .int .i64 o.p, .int .i64 o.el, .int .i64 n, .int .i64 o.cost] 77)).heap.size (w.alloc (.cells #[.int .i64 o.k, .int .i64 o.sg, .int .i64 o.at', .int .i64 o.d, .int .i64 o.p, .int .i64 o.el, .int .i64 n, .int .i64 o.cost] 77)) w3 := (Below.refl _ _).grown hgrow0 (Nat.le_refl _) (fun g hg => by cases hg)
  have HT3 := Lib.hid (HT1.out.below hb3)
  have HO3 := Lib.hid (HO1.out.below hb3)
  have HK3 : Hid (Keeps (KB b) w w3) := Lib.hid (keeps_of (bel_on HB1.out hb3))
  have hq0 : w.heap.size < w.heap.size + 1 := Nat.lt_succ_self _
  clear hown0 hgrow0 HT1 HO1 HB1 hb3 x2 y2 z2
  generalize w.heap.size + 1 = q at *
  go_loopw [14] (fun i wr => ∃ j : Nat, j ≤ n ∧ i = .int .i64 j ∧ (runK f m j).e = 0 ∧ RowG q n (runK f m j).ks wr ∧ Blk wr b #[.slice A ls.length c, .int .i64 D, .int .i64 X, .int .i64 O, .int .i64 (runK f m j).m] ∧ Keeps (KB b) w wr ∧ Blk wr w.heap.size #[.int .i64 o.k, .int .i64 o.sg, .int .i64 o.at', .int .i64 o.d, .int .i64 o.p, .int .i64 o.el, .int .i64 n, .int .i64 o.cost]) (fun i _ => n - (intOf i).toNat)
  case atStart => exact ⟨0, by omega, rfl, rfl, hR0, HT3.out, HK3.out, HO3.out⟩
  case round =>
    clear hR0 HT3 HO3 HK3
    obtain ⟨j, hj, rfl, he, hrow, hbt, hkp, hbo⟩ := hrel
    have HRE := Lib.hid he
    have HW := Lib.hid hrow
    have HT := Lib.hid hbt
    have HK := Lib.hid hkp
    have HO := Lib.hid hbo
    clear he hrow hbt hkp
    by_cases hlt : j < n
    · have hj1 : (j : Int) < (n : Int) := by omega
      have hj2 : (j : Int) < 536870912 := by omega
      have HMJ := Lib.hid (HMR.out j)
      have HKL : Hid ((runK f m j).ks.length = j) := Lib.hid (runK_length HRE.out)
      have HNX : Hid (∀ h : (f (runK f m j).m j).e = 0, runK f m (j + 1) = ⟨(runK f m j).ks ++ [(f (runK f m j).m j).n], (f (runK f m j).m j).m, 0⟩) := Lib.hid (fun h => runK_ok HRE.out h)
      have HNO : Hid (∀ h : (f (runK f m j).m j).e ≠ 0, (runK f m n).m = (f (runK f m j).m j).m ∧ (runK f m n).e = (f (runK f m j).m j).e) := Lib.hid (fun h => by
        have h1 := runK_no HRE.out h
        have h2 : runK f m n = runK f m (j + 1) := runK_keep (by rw [h1]; exact h) (by omega)
        rw [h2, h1]
        exact ⟨rfl, rfl⟩)
      obtain ⟨x2, y2, z2⟩ := hbo
      go_wp2_with fail
      refine (HEM.out wr j hlt).mono ?_
      rintro e wd ⟨rfl, hbd⟩
      have HVJ := Lib.hid (HV.out (runK f m j).m j wd)
      generalize o.at' + (j : Int) * (o.d + o.p) = a2 at HVJ ⊢
      have HWd := Lib.hid (HW.out.below hbd)
      have HTd := Lib.hid (HT.out.below hbd)
      have HKd := Lib.hid (keeps_on HK.out hbd)
      have HOd := Lib.hid (HO.out.below hbd)
      clear HW HT HK HO hbd
      have HW := HWd
      have HT := HTd
      have HK := HKd
      have HO := HOd
      clear HWd HTd HKd HOd x2 y2 z2
      go_wp2_with fail
      refine (HVJ.out (HB0.out _ HK.out) HT.out HMJ.out.1 HMJ.out.2 hlt).mono ?_
      rintro e w4 ⟨hk4, hbt4, ⟨he4, v, rfl, hnd⟩ | ⟨he4, rfl⟩⟩
      · obtain ⟨A5, c5, B5, e5, hi5, rfl, hh5, ho5⟩ := hnd
        have hqr : q < wd.heap.size := HW.out.lt
        have HW4 := Lib.hid (HW.out.keeps hk4 (by have := HL.out; omega))
        have HT4 := Lib.hid hbt4
        have HK4 := Lib.hid (HK.out.trans hk4)
        have HO4 := Lib.hid (HO.out.keeps hk4 (by have := HL.out; unfold KB; omega))
        have HO5 := Lib.hid ho5
        have HN4 := Lib.hid (HNX.out he4)
        clear hk4 hbt4 ho5 hz0 HVJ HW HT HK HO HNX HNO he4
        obtain ⟨u0, y0⟩ := HW4.out.cell (j * 5) (by omega)
        obtain ⟨u1, y1⟩ := HW4.out.cell (j * 5 + 1) (by omega)
        obtain ⟨u2, y2⟩ := HW4.out.cell (j * 5 + 2) (by omega)
        obtain ⟨u3, y3⟩ := HW4.out.cell (j * 5 + 3) (by omega)
        obtain ⟨u4, y4⟩ := HW4.out.cell (j * 5 + 4) (by omega)
        have z := HW4.out.free
        generalize (f (runK f m j).m j).n = kx at *
        generalize (f (runK f m j).m j).m = m4 at *
        go_wp2
        go_roundw
        case rel =>
          refine ⟨j + 1, by omega, by go_num, by rw [HN4.out], ?_, ?_, ?_, ?_⟩
          · rw [HN4.out]
            exact HW4.out.next HKL.out hlt (lo := wd.heap.size) (hi' := hi5) (by omega) hh5 HO5.out
          · rw [HN4.out]
            have hne : q ≠ b := by have := HL.out; omega
            exact ((((HT4.out.other (p := ⟨q, j * 5, none⟩) hne _).other (p := ⟨q, j * 5 + 1, none⟩) hne _).other (p := ⟨q, j * 5 + 2, none⟩) hne _).other (p := ⟨q, j * 5 + 3, none⟩) hne _).other (p := ⟨q, j * 5 + 4, none⟩) hne _
          · refine keeps_set (keeps_set (keeps_set (keeps_set (keeps_set HK4.out ?_ _) ?_ _) ?_ _) ?_ _) ?_ _ <;> exact .inr (by show w.heap.size ≤ q; omega)
          · have hne : q ≠ w.heap.size := by omega
            exact ((((HO4.out.other (p := ⟨q, j * 5, none⟩) hne _).other (p := ⟨q, j * 5 + 1, none⟩) hne _).other (p := ⟨q, j * 5 + 2, none⟩) hne _).other (p := ⟨q, j * 5 + 3, none⟩) hne _).other (p := ⟨q, j * 5 + 4, none⟩) hne _
        case measure => simp [intOf]; omega
      · obtain ⟨h1, h2⟩ := HNO.out he4
        have HK4 := Lib.hid (HK.out.trans hk4)
        rw [← h1] at hbt4
        rw [← h2] at he4
        unfold failE
        go_wp2
        exact ⟨rfl, HK4.out, hbt4, .inr ⟨he4, by rw [h2]; rfl⟩⟩
    · obtain rfl : j = n := by omega
      go_wp2
      go_ret
      exact ⟨HK.out, HT.out, .inl ⟨HRE.out, q, j, rfl, by omega, HW.out, runK_length HRE.out, by omega⟩⟩

end Go.Proofs.YtnmanhediiooaaaDoor

/- Package denote: the value of a pointer. -/
namespace Go.Proofs.YtnmanhediiooaaaDoor
open Go.ChangeShapes Go.WideShapes Go.ChangeAt Go.RowKit
set_option linter.unusedVariables false
set_option linter.unusedSimpArgs false
set_option maxRecDepth 100000
attribute [local simp] AllK KnowsV look Is

theorem object_any (b : Nat) (A : Option Addr) (c : Nat) (ls : List (List Int)) (D X O : Int) (w0 : World) (E : EnvD b A ls w0) (m s a dep : Int) (w : World) (hb : Below b w0 w) (hk : Blk w b #[.slice A ls.length c, .int .i64 D, .int .i64 X, .int .i64 O, .int .i64 m])
    (hm0 : 0 ≤ m) (hm1 : m ≤ 4611686018427387904) (hs0 : 0 ≤ s) (hs1 : s ≤ 1000) (ha0 : 0 ≤ a) (ha1 : a ≤ 200000000000) :
    Calls Tryd.prog 41 #[.pointer (some ⟨b, 0, none⟩), .int .i64 s, .int .i64 a, .int .i64 dep] w fun e w' => Keeps (KB b) w w' ∧ Blk w' b #[.slice A ls.length c, .int .i64 D, .int .i64 X, .int .i64 O, .int .i64 (locD ls D m s a dep).m] ∧
      (((locD ls D m s a dep).e = 0 ∧ e = .returned (obV (locD ls D m s a dep).o)) ∨ ((locD ls D m s a dep).e ≠ 0 ∧ e = failE (locD ls D m s a dep).e)) :=
  object_walk b A ls.length c D X O m s a dep (followF ls s a) (objF ls s a) w0 w hb hk
    (Lib.hid (fun w2 h => FFollow_any A c ls s a w2 (E.sgAt h) E.wd E.m2 E.f2 (by omega) (by omega) (by omega) (by omega)))
    (Lib.hid (fun w2 h => RObject_any A c ls s a w2 (E.tabAt h) (E.sgAt h) E.wd E.m2 E.f2 (by omega) (by omega) (by omega) (by omega)))
    (Lib.hid (fun w2 => BCharge_any m _ w2 (by omega) (by omega) (objF_num E.wd E.m E.f s a rfl).2.2.2.2.2.2.2.2.2.2.2.2.2.2.1))

theorem datD_inB {ls : List (List Int)} {s a n : Int} (h : inB ls s a n = true) : (datW ls s a n).length = n.toNat := by
  have h9 := inB_iff.1 h
  unfold datW
  rw [if_pos h]
  unfold sliceL
  rw [List.length_take, List.length_drop]
  omega
/-- what is known of a located object -/
theorem loc_ok {ls : List (List Int)} (hw : Wd2 ls) (hm : ls.length ≤ 40) (hf : ∀ j, (seg ls j).length ≤ 20000000) (D m s a dep : Int) (hm0 : 0 ≤ m) (L : Loc) (hL : locD ls D m s a dep = L) (he : L.e = 0) :
    ObOK ls L.o ∧ 0 ≤ L.m ∧ L.m ≤ m ∧ L.o.at' ≤ 281474976710656 ∧ (0 < (ptrO L.o).2 → dep ≤ D) ∧ (L.o.el = 7 → dep ≤ D ∧ ∀ j : Nat, (j : Int) < L.o.n → ObOK ls (eleO L.o j)) := by
  have hC := objF_cases hw (by omega) (fun j => by have := hf j; omega) s a
  have hN := objF_num hw hm hf s a rfl
  have h0 : ObOK ls ob0 := ⟨by decide, by decide, by decide, by decide, by decide, by decide, by decide, fun h => absurd h (by decide)⟩
  have h1 : ¬ 0 < (ptrO ob0).2 := by decide
  have h2 : ob0.el ≠ 7 := by decide
  subst hL
  unfold locD locQ at he ⊢
  generalize followF ls s a = q at *
  generalize objF ls s a = r at *
  by_cases c1 : q.e ≠ 0 ∨ q.w = 0
  · simp only [if_pos c1] at he ⊢
    exact ⟨h0, hm0, Int.le_refl _, by decide, fun h => absurd h h1, fun h => absurd h h2⟩
  by_cases c2 : D < dep
  · simp only [if_neg c1, if_pos c2] at he
    exact absurd he (by decide)
  by_cases c3 : r.2 ≠ 0
  · simp only [if_neg c1, if_neg c2, if_pos c3] at he
    exact absurd he c3
  by_cases c4 : m < r.1.cost
  · simp only [if_neg c1, if_neg c2, if_neg c3, if_pos c4] at he
    exact absurd he (by decide)
  simp only [if_neg c1, if_neg c2, if_neg c3, if_neg c4] at he ⊢
  obtain ⟨⟨k, sg, at', d, p, el, n, cost⟩, e⟩ := r
  simp only [ob0, Ob.mk.injEq] at hC hN c3 c4 ⊢
  obtain ⟨n1, n2, n3, n4, n5, n6, n7, n8, n9, n10, n11, n12, n13, n14, n15, n16, n17, n18, n19, n20⟩ := hN
  refine ⟨⟨⟨n1, n2⟩, ⟨n3, n4⟩, ⟨n5, by show at' ≤ 100000000000; omega⟩, ⟨n7, n8⟩, ⟨n9, n10⟩, ⟨n11, n12⟩, ⟨n13, n14⟩, fun hk hel => ?_⟩, by show 0 ≤ m - cost; omega, by show m - cost ≤ m; omega, by show at' ≤ 281474976710656; omega, fun _ => by omega, fun hel => ⟨by omega, fun j hj => ?_⟩⟩
  · simp only at hk hel ⊢
    rcases hC with ⟨⟨rfl, rfl, rfl, rfl, rfl, rfl, rfl, rfl⟩, -⟩ | ⟨-, h4, -⟩ | ⟨-, -, h4, h5, h6, h7, rfl, rfl, rfl, h8⟩ | ⟨-, -, h4, -⟩
    · exact absurd hk (by decide)
    · omega
    · rw [datD_inB h8]
      have h9 := inB_iff.1 h8
      have h10 := bitsI_mul el n h6
      unfold wordsI bytesI at *
      rw [if_neg (by omega)] at *
      omega
    · omega
  · have hj : (j : Int) < n := hj
    have hdp : 0 ≤ d + p := by omega
    have h5 : (j : Int) * (d + p) ≤ n * (d + p) := Int.mul_le_mul_of_nonneg_right (by omega) hdp
    have h6 : 0 ≤ (j : Int) * (d + p) := Int.mul_nonneg (by omega) hdp
    exact ⟨by show (0 : Int) ≤ 1 ∧ (1 : Int) ≤ 2; omega, by show 0 ≤ sg ∧ sg ≤ 40; omega, by show 0 ≤ at' + j * (d + p) ∧ at' + j * (d + p) ≤ 100000000000; omega, by show 0 ≤ d ∧ d ≤ 65535; omega, by show 0 ≤ p ∧ p ≤ 65535; omega, by show (0 : Int) ≤ 0 ∧ (0 : Int) ≤ 7; omega, by show (0 : Int) ≤ 0 ∧ (0 : Int) ≤ 536870911; omega, fun h => absurd h (by show (1 : Int) ≠ 2; omega)⟩

set_option maxHeartbeats 4000000 in
theorem value_step (b : Nat) (A : Option Addr) (c : Nat) (ls : List (List Int)) (D X O : Int) (w0 : World) (r : Nat) (E : EnvD b A ls w0) (hD : D ≤ 900) (hV : ∀ r', r = r' + 1 → ValL b A c ls D X O w0 r') : ValL b A c ls D X O w0 r := by
  intro m s a dep w hb hk hm0 hm1 hs0 hs1 ha0 ha1 hd0 hd1 hr
  have hlt := hk.lt
  have hVL := valV_loc E.wd E.m E.f D m s a dep r hr
  have hOK := loc_ok E.wd E.m E.f D m s a dep hm0
  have HOB := Lib.hid (fun w2 h1 h2 => object_any b A c ls D X O w0 E m s a dep w2 h1 h2 hm0 hm1 hs0 hs1 ha0 ha1)
  generalize locD ls D m s a dep = L at *
  have hr1 : (D - dep).toNat = r - 1 := by omega
  have hVr : dep ≤ D → ValL b A c ls D X O w0 (r - 1) := fun h => hV (r - 1) (by omega)
  have HCO := Lib.hid (fun (he : L.e = 0) (h7 : L.o.el ≠ 7) w2 h1 h2 => contents_any b A c ls D X O w0 (r - 1) E L.m L.o dep (fun h => ⟨by have := (hOK L rfl he).2.2.2.2.1 h; omega, hVr ((hOK L rfl he).2.2.2.2.1 h)⟩) w2 h1 h2 (hOK L rfl he).2.1 (by have := (hOK L rfl he).2.2.1; omega) (hOK L rfl he).1 h7 hd0 hd1 hr1)
  have HELS := Lib.hid (fun (he : L.e = 0) (h7 : L.o.el = 7) w2 h1 h2 => elements_any b A c ls D X O w0 (r - 1) E (hVr ((hOK L rfl he).2.2.2.2.2 h7).1) L.m L.o dep w2 h1 h2 (hOK L rfl he).2.1 (by have := (hOK L rfl he).2.2.1; omega) (hOK L rfl he).1 ((hOK L rfl he).2.2.2.2.2 h7).2 (hOK L rfl he).2.2.2.1 hd0 (by have := ((hOK L rfl he).2.2.2.2.2 h7).1; omega) hr1)
  have hIK : L.e = 0 → (-9223372036854775808 ≤ L.o.k ∧ L.o.k ≤ 9223372036854775807) ∧ (-9223372036854775808 ≤ L.o.el ∧ L.o.el ≤ 9223372036854775807) ∧ (-9223372036854775808 ≤ L.o.n ∧ L.o.n ≤ 9223372036854775807) := fun he => by have h := (hOK L rfl he).1; have := h.k; have := h.el; have := h.n; omega
  have hVE : L.e ≠ 0 → valV ls r m s a = errV L.m L.e := fun h => by rw [hVL, if_pos h]
  have hVC : L.e = 0 → L.o.el ≠ 7 → valV ls r m s a = contK (valV ls (r - 1)) ls L.m L.o := fun h h7 => by rw [hVL, if_neg (by rw [h]; simp)]; unfold bodyK; rw [if_neg h7]
  have hVB : L.e = 0 → L.o.el = 7 → (elsR (valV ls (r - 1)) ls L.o L.m).e ≠ 0 → valV ls r m s a = errV (elsR (valV ls (r - 1)) ls L.o L.m).m (elsR (valV ls (r - 1)) ls L.o L.m).e := fun h h7 h8 => by rw [hVL, if_neg (by rw [h]; simp)]; unfold bodyK; rw [if_pos h7, if_pos h8]
  have hVD : L.e = 0 → L.o.el = 7 → (elsR (valV ls (r - 1)) ls L.o L.m).e = 0 → valV ls r m s a = ⟨.mk L.o.k L.o.el L.o.n [] (elsR (valV ls (r - 1)) ls L.o L.m).ks, (elsR (valV ls (r - 1)) ls L.o L.m).m, 0⟩ := fun h h7 h8 => by rw [hVL, if_neg (by rw [h]; simp)]; unfold bodyK; rw [if_pos h7, if_neg (by rw [h8]; simp)]
  generalize valV ls r m s a = CV at *
  generalize contK (valV ls (r - 1)) ls L.m L.o = KV at *
  generalize elsR (valV ls (r - 1)) ls L.o L.m = R at *
  obtain ⟨o, lm, le⟩ := L
  simp only at *
  have HVE := Lib.hid hVE
  have HVC := Lib.hid hVC
  have HVB := Lib.hid hVB
  have HVD := Lib.hid hVD
  have HIK0 := Lib.hid hIK
  have HB0 := Lib.hid (fun (wr : World) (h : Keeps (KB b) w wr) => hb.trans (bel_keeps h (Nat.le_of_lt hlt)))
  have HT1 := Lib.hid (hk.alloc (.cells #[.int .i64 0, .int .i64 0, .int .i64 0, .slice none 0 0, .slice none 0 0] 30))
  have HK1 : Hid (Keeps (KB b) w (w.alloc (.cells #[.int .i64 0, .int .i64 0, .int .i64 0, .slice none 0 0, .slice none 0 0] 30))) := Lib.hid (keeps_alloc (Keeps.refl _ _) _)
  have HR1 : Hid (Blk (w.alloc (.cells #[.int .i64 0, .int .i64 0, .int .i64 0, .slice none 0 0, .slice none 0 0] 30)) w.heap.size #[.int .i64 0, .int .i64 0, .int .i64 0, .slice none 0 0, .slice none 0 0]) := Lib.hid (Blk.fresh _ _ _)
  have HNR : Hid (¬ KB b w.heap.size) := Lib.hid (by unfold KB; omega)
  clear hb hk hlt hm0 hm1 hs0 hs1 ha0 ha1 hd0 hd1 hr hV hVL hOK hr1 hVr hIK hVE hVC hVB hVD E hD
  go_enter Tryd.func23, Tryd.ntmps23
  go_wp2_with fail
  refine (HOB.out _ (HB0.out _ HK1.out) HT1.out).mono ?_
  rintro e w3 ⟨hk3, hbt3, ⟨hle, rfl⟩ | ⟨hle, rfl⟩⟩
  rotate_left
  · have HKK := HK1.out.trans hk3
    have h1 := HVE.out hle
    unfold failE
    go_wp2
    rw [h1]
    exact ⟨rfl, HKK, hbt3, .inr ⟨hle, rfl⟩⟩
  have HLE := Lib.hid hle
  have HT3 := Lib.hid (hbt3.alloc (.cells #[.int .i64 o.k, .int .i64 o.sg, .int .i64 o.at', .int .i64 o.d, .int .i64 o.p, .int .i64 o.el, .int .i64 o.n, .int .i64 o.cost] 77))
  have HR3 := Lib.hid ((HR1.out.keeps hk3 HNR.out).alloc (.cells #[.int .i64 o.k, .int .i64 o.sg, .int .i64 o.at', .int .i64 o.d, .int .i64 o.p, .int .i64 o.el, .int .i64 o.n, .int .i64 o.cost] 77))
  have HK3 := Lib.hid (keeps_alloc (HK1.out.trans hk3) (.cells #[.int .i64 o.k, .int .i64 o.sg, .int .i64 o.at', .int .i64 o.d, .int .i64 o.p, .int .i64 o.el, .int .i64 o.n, .int .i64 o.cost] 77))
  have HO3 : Hid (Blk (w3.alloc (.cells #[.int .i64 o.k, .int .i64 o.sg, .int .i64 o.at', .int .i64 o.d, .int .i64 o.p, .int .i64 o.el, .int .i64 o.n, .int .i64 o.cost] 77)) w3.heap.size #[.int .i64 o.k, .int .i64 o.sg, .int .i64 o.at', .int .i64 o.d, .int .i64 o.p, .int .i64 o.el, .int .i64 o.n, .int .i64 o.cost]) := Lib.hid (Blk.fresh _ _ _)
  have HZ3 : Hid (w.heap.size < w3.heap.size ∧ b < w3.heap.size) := Lib.hid ⟨(HR1.out.keeps hk3 HNR.out).lt, hbt3.lt⟩
  clear hk3 hbt3 hle HT1 HK1 HR1 HOB HVE
  unfold obV
  obtain ⟨x2, y2, z2⟩ := HO3.out
  by_cases h7 : o.el = 7
  · have t7 : (o.el == 7) = true := by simpa using h7
    have HEL := Lib.hid (HELS.out HLE.out h7)
    have HCE := Lib.hid (HVB.out HLE.out h7)
    have HCY := Lib.hid (HVD.out HLE.out h7)
    have HIK := Lib.hid (HIK0.out HLE.out)
    clear h7 HELS HVB HVD HVC HCO HIK0 HLE
    go_wp2_with fail
    clear x2 y2 z2
    refine abs_code10 (F := fun W => Blk W b #[.slice A ls.length c, .int .i64 D, .int .i64 X, .int .i64 O, .int .i64 lm] ∧ Blk W w.heap.size #[.int .i64 0, .int .i64 0, .int .i64 0, .slice none 0 0, .slice none 0 0] ∧ Keeps (KB b) w W ∧ Blk W w3.heap.size #[.int .i64 o.k, .int .i64 o.sg, .int .i64 o.at', .int .i64 o.d, .int .i64 o.p, .int .i64 o.el, .int .i64 o.n, .int .i64 o.cost]) ⟨HT3.out, HR3.out, HK3.out, HO3.out⟩ ?_
    rintro W1 ⟨h1, h2, h3, h4⟩
    have HT1 := Lib.hid h1
    have HR1 := Lib.hid h2
    have HK1 := Lib.hid h3
    have HO1 := Lib.hid h4
    have HL : Hid (b < W1.heap.size) := Lib.hid h1.lt
    have HB := Lib.hid (fun (w2 : World) (h : Below W1.heap.size W1 w2) => HB0.out w2 (keeps_on h3 h))
    have HNO : Hid (¬ KB b w3.heap.size) := Lib.hid (by have := HZ3.out; unfold KB; omega)
    clear h1 h2 h3 h4 HT3 HR3 HK3 HO3
    generalize w3.heap.size = o9 at *
    refine wp_region_p11 9 (KB b) (by kernel_rfl) (by kernel_rfl) ?_
    refine p_val_l (u := ?_) [9] (by kernel_rfl) rfl (by kernel_rfl) trivial (fun ρ wc hkc hcn hq => ?_) ?_; rotate_left
    · obtain ⟨hcn, hfn⟩ := hcn
      simp at hq
      go_simp
      rfl
    refine p_val_l (u := ?_) [18] (by kernel_rfl) rfl (by kernel_rfl) trivial (fun ρ wc hkc hcn hq => ?_) ?_; rotate_left
    · obtain ⟨hcn, hfn⟩ := hcn
      simp at hq
      have x2 := (HO1.out.keeps (keeps_undrew hkc) HNO.out).cell
      go_simp
      rfl
    refine p_val_l (u := ?_) [9] (by kernel_rfl) rfl (by kernel_rfl) trivial (fun ρ wc hkc hcn hq => ?_) ?_; rotate_left
    · obtain ⟨hcn, hfn⟩ := hcn
      simp at hq
      go_simp
      rfl
    refine p_val_l (u := ?_) [20] (by kernel_rfl) rfl (by kernel_rfl) trivial (fun ρ wc hkc hcn hq => ?_) ?_; rotate_left
    · obtain ⟨hcn, hfn⟩ := hcn
      simp at hq
      have x2 := (HO1.out.keeps (keeps_undrew hkc) HNO.out).cell
      go_simp
      rfl
    refine p_val_l (u := ?_) [9] (by kernel_rfl) rfl (by kernel_rfl) trivial (fun ρ wc hkc hcn hq => ?_) ?_; rotate_left
    · obtain ⟨hcn, hfn⟩ := hcn
      simp at hq
      go_simp
      rfl
    refine p_val_l (u := ?_) [22] (by kernel_rfl) rfl (by kernel_rfl) trivial (fun ρ wc hkc hcn hq => ?_) ?_; rotate_left
    · obtain ⟨hcn, hfn⟩ := hcn
      simp at hq
      have x2 := (HO1.out.keeps (keeps_undrew hkc) HNO.out).cell
      go_simp
      rfl
    refine p_val (u := ?_) [0] (by kernel_rfl) rfl rfl (by kernel_rfl) trivial (fun ρ wc hbc hcn hq => ?_) ?_; rotate_left
    · obtain ⟨hcn, hfn⟩ := hcn
      simp at hq
      go_simp
      rfl
    refine p_val (u := ?_) [9] (by kernel_rfl) rfl rfl (by kernel_rfl) trivial (fun ρ wc hbc hcn hq => ?_) ?_; rotate_left
    · obtain ⟨hcn, hfn⟩ := hcn
      simp at hq
      have x2 := (HO1.out.drew.below hbc).cell
      go_simp
      rfl
    refine p_val (u := ?_) [3] (by kernel_rfl) rfl rfl (by kernel_rfl) trivial (fun ρ wc hbc hcn hq => ?_) ?_; rotate_left
    · obtain ⟨hcn, hfn⟩ := hcn
      simp at hq
      go_simp
      rfl
    refine p_sp (T := KidF b W1.heap.size R.ks #[.slice A ls.length c, .int .i64 D, .int .i64 X, .int .i64 O, .int .i64 R.m] R.e) 42 [24, 25, 26] rfl rfl (by kernel_rfl) trivial (stable_kidf _ _ _ _ _) (fun ρ wc hbc hcn hq => ?_) ?_
    · obtain ⟨hcn, hfn⟩ := hcn
      simp at hq
      refine ⟨_, by go_simp; rfl, ?_⟩
      refine (HEL.out _ (HB.out _ (bel_undrew hbc)) (HT1.out.drew.below hbc)).mono ?_
      rintro e w' ⟨hkk, hbt, ⟨he, q, N, rfl, hq1, hrow, hN, hN2⟩ | ⟨he, rfl⟩⟩
      · exact .inl ⟨_, rfl, ⟨⟨q, N, rfl, Nat.le_trans hbc.size hq1, hrow, hN, hN2⟩, hbt, he⟩, hkk⟩
      · refine .inr ⟨_, rfl, fun a ha => ⟨ha, (keeps_on HK1.out (bel_undrew hbc)).trans hkk, ?_, ?_⟩⟩
        · rw [HCE.out he]
          exact hbt
        · exact .inr ⟨by rw [HCE.out he]; exact he, by rw [HCE.out he]; rfl⟩
    refine p_new_l (T := NodF W1.heap.size (.mk o.k o.el o.n [] R.ks)) [19, 21, 23, 27] (by kernel_rfl) rfl (by kernel_rfl) trivial (stable_nod _ _) (stableK_nod HL.out) (fun ρ wc hkc hcn hq => ?_) ?_
    · obtain ⟨hcn, hfn⟩ := hcn
      simp at hq
      obtain ⟨h8, h10, h12, ⟨q, N, h19, hq1, hrow, hN, hN2⟩, -⟩ := hq
      refine ⟨_, wc, by go_simp; rfl, ?_, Below.refl _ _⟩
      exact RowG.nod hrow (Nat.le_refl _) hq1 hN (by unfold maxLen; omega) HIK.out.1 HIK.out.2.1 HIK.out.2.2 (Got.empty _ _ _ _) (fun z hz => by cases hz)
    refine p_end_lit 33 rfl (fun ff w5 hk5 hk => ?_)
    have h19 : KidF b W1.heap.size R.ks #[.slice A ls.length c, .int .i64 D, .int .i64 X, .int .i64 O, .int .i64 R.m] R.e (ff 27) w5 := allN_atF hk 27 (by decide) (by decide)
    have h20 : NodF W1.heap.size (.mk o.k o.el o.n [] R.ks) (ff 28) w5 := allN_atF hk 28 (by decide) (by decide)
    simp [AllN] at hk
    simp only [frameL, hk, Nat.zero_add, Nat.reduceAdd]
    clear hk
    obtain ⟨-, hbt5, hre⟩ := h19
    have HT5 := Lib.hid hbt5
    have HK5 := Lib.hid (HK1.out.trans (keeps_undrew hk5))
    have HR5 := Lib.hid (HR1.out.keeps (keeps_undrew hk5) HNR.out)
    have HN5 := Lib.hid h20
    have HZ1 : Hid (w.heap.size < W1.heap.size) := Lib.hid HR1.out.lt
    obtain ⟨A5, c5, B5, e5, hi5, e20, -⟩ := h20
    have HCV := Lib.hid (HCY.out hre)
    rw [e20] at HN5
    rw [e20]
    simp only [Nd.k, Nd.e, Nd.n, Nd.d, Nd.ks] at HN5 ⊢
    clear e20 hbt5 hk5 hre HCE HCY HEL HT1 HO1 HR1 HB HK1
    generalize R.ks.length = kl at *
    generalize ([] : List Int).length = dl at *
    obtain ⟨x2, y2, z2⟩ := HR5.out
    go_wp2_with fail
    refine abs_post (F := fun W => Blk W w.heap.size #[.int .i64 o.k, .int .i64 o.el, .int .i64 o.n, .slice A5 dl c5, .slice B5 kl e5] ∧ Keeps (KB b) w W ∧ Blk W b #[.slice A ls.length c, .int .i64 D, .int .i64 X, .int .i64 O, .int .i64 R.m] ∧ NodF W1.heap.size (.mk o.k o.el o.n [] R.ks) (.agg #[.int .i64 o.k, .int .i64 o.el, .int .i64 o.n, .slice A5 dl c5, .slice B5 kl e5]) W) ⟨?_, ?_, ?_, ?_⟩ ?_
    · exact ((((HR5.out.set 0 (by simp) _).set 1 (by simp) _).set 2 (by simp) _).set 3 (by simp) _).set 4 (by simp) _
    · refine keeps_set (keeps_set (keeps_set (keeps_set (keeps_set HK5.out ?_ _) ?_ _) ?_ _) ?_ _) ?_ _ <;> exact .inr (Nat.le_refl _)
    · have hne : w.heap.size ≠ b := fun e => HNR.out (by unfold KB; exact e)
      exact ((((HT5.out.other (p := ⟨w.heap.size, 0, none⟩) hne _).other (p := ⟨w.heap.size, 1, none⟩) hne _).other (p := ⟨w.heap.size, 2, none⟩) hne _).other (p := ⟨w.heap.size, 3, none⟩) hne _).other (p := ⟨w.heap.size, 4, none⟩) hne _
    · have hl := HZ1.out
      exact ((((HN5.out.set (p := ⟨w.heap.size, 0, none⟩) hl _).set (p := ⟨w.heap.size, 1, none⟩) hl _).set (p := ⟨w.heap.size, 2, none⟩) hl _).set (p := ⟨w.heap.size, 3, none⟩) hl _).set (p := ⟨w.heap.size, 4, none⟩) hl _
    rintro V ⟨B6, hkv, ht, hn⟩
    exact bodyPost_ret (v := .agg #[.int .i64 o.k, .int .i64 o.el, .int .i64 o.n, .slice A5 dl c5, .slice B5 kl e5]) (by simp [results, Tryd.results23, go_sem, B6.cell]) rfl ⟨hkv, by rw [HCV.out]; exact ht, .inl ⟨by rw [HCV.out], _, rfl, nodf_lower (by rw [HCV.out]; exact hn) (by have := HZ1.out; omega)⟩⟩
  · have t7 : (o.el == 7) = false := by simpa using h7
    have HC := Lib.hid (HCO.out HLE.out h7)
    have HCV := Lib.hid (HVC.out HLE.out h7)
    clear h7 HELS HVB HVD HVC HCO HIK0 HLE
    go_wp2_with fail
    refine (HC.out _ (HB0.out _ HK3.out) HT3.out).mono ?_
    rintro e w5 ⟨hk5, hbt5, ⟨he5, v, rfl, hnd⟩ | ⟨he5, rfl⟩⟩
    rotate_left
    · have HKK := HK3.out.trans hk5
      have h1 := HCV.out
      unfold failE
      go_wp2
      rw [h1]
      exact ⟨rfl, HKK, hbt5, .inr ⟨he5, rfl⟩⟩
    have HZ1 : Hid (w.heap.size < (w3.alloc (.cells #[.int .i64 o.k, .int .i64 o.sg, .int .i64 o.at', .int .i64 o.d, .int .i64 o.p, .int .i64 o.el, .int .i64 o.n, .int .i64 o.cost] 77)).heap.size) := Lib.hid HR3.out.lt
    generalize (w3.alloc (.cells #[.int .i64 o.k, .int .i64 o.sg, .int .i64 o.at', .int .i64 o.d, .int .i64 o.p, .int .i64 o.el, .int .i64 o.n, .int .i64 o.cost] 77)).heap.size = lo at *
    have HT5 := Lib.hid hbt5
    have HK5 := Lib.hid (HK3.out.trans hk5)
    have HR5 := Lib.hid (HR3.out.keeps hk5 HNR.out)
    have HN5 := Lib.hid hnd
    have HE5 := Lib.hid he5
    obtain ⟨A5, c5, B5, e5, hi5, rfl, -⟩ := hnd
    clear hk5 hbt5 he5 x2 y2 z2 HC HT3 HR3 HK3 HO3
    obtain ⟨x2, y2, z2⟩ := HR5.out
    go_wp2_with fail
    refine abs_post (F := fun W => Blk W w.heap.size #[.int .i64 KV.n.k, .int .i64 KV.n.e, .int .i64 KV.n.n, .slice A5 KV.n.d.length c5, .slice B5 KV.n.ks.length e5] ∧ Keeps (KB b) w W ∧ Blk W b #[.slice A ls.length c, .int .i64 D, .int .i64 X, .int .i64 O, .int .i64 KV.m] ∧ NodF lo KV.n (.agg #[.int .i64 KV.n.k, .int .i64 KV.n.e, .int .i64 KV.n.n, .slice A5 KV.n.d.length c5, .slice B5 KV.n.ks.length e5]) W) ⟨?_, ?_, ?_, ?_⟩ ?_
    · exact ((((HR5.out.set 0 (by simp) _).set 1 (by simp) _).set 2 (by simp) _).set 3 (by simp) _).set 4 (by simp) _
    · refine keeps_set (keeps_set (keeps_set (keeps_set (keeps_set HK5.out ?_ _) ?_ _) ?_ _) ?_ _) ?_ _ <;> exact .inr (Nat.le_refl _)
    · have hne : w.heap.size ≠ b := fun e => HNR.out (by unfold KB; exact e)
      exact ((((HT5.out.other (p := ⟨w.heap.size, 0, none⟩) hne _).other (p := ⟨w.heap.size, 1, none⟩) hne _).other (p := ⟨w.heap.size, 2, none⟩) hne _).other (p := ⟨w.heap.size, 3, none⟩) hne _).other (p := ⟨w.heap.size, 4, none⟩) hne _
    · have hl := HZ1.out
      exact ((((HN5.out.set (p := ⟨w.heap.size, 0, none⟩) hl _).set (p := ⟨w.heap.size, 1, none⟩) hl _).set (p := ⟨w.heap.size, 2, none⟩) hl _).set (p := ⟨w.heap.size, 3, none⟩) hl _).set (p := ⟨w.heap.size, 4, none⟩) hl _
    rintro V ⟨B6, hkv, ht, hn⟩
    exact bodyPost_ret (v := .agg #[.int .i64 KV.n.k, .int .i64 KV.n.e, .int .i64 KV.n.n, .slice A5 KV.n.d.length c5, .slice B5 KV.n.ks.length e5]) (by simp [results, Tryd.results23, go_sem, B6.cell]) rfl ⟨hkv, by rw [HCV.out]; exact ht, .inl ⟨by rw [HCV.out]; exact HE5.out, _, rfl, nodf_lower (by rw [HCV.out]; exact hn) (by have := HZ1.out; omega)⟩⟩

theorem value_any (b : Nat) (A : Option Addr) (c : Nat) (ls : List (List Int)) (D X O : Int) (w0 : World) (E : EnvD b A ls w0) (hD : D ≤ 900) : ∀ r, ValL b A c ls D X O w0 r
  | 0 => value_step b A c ls D X O w0 0 E hD (fun r' h => by omega)
  | r + 1 => value_step b A c ls D X O w0 (r + 1) E hD (fun r' h => by
    obtain rfl : r = r' := by omega
    exact value_any b A c ls D X O w0 E hD r)
end Go.Proofs.YtnmanhediiooaaaDoor
