/- The texts Ref12n, Den3, DenM (what is wanted of them), one after the other. -/
import Derived.Test.YtcmljjhnfpfcfaaDoorMg1
import Derived.Test.YtcmljjhnfpfcfaaDoorMg2
import Derived.Test.YtcmljjhnfpfcfaaDoorMg3
import Derived.Test.YtcmljjhnfpfcfaaDoorMg4
import Derived.Test.YtcmljjhnfpfcfaaDoorMg5
import Derived.Test.YtcmljjhnfpfcfaaDoorMg6
import Derived.Test.YtcmljjhnfpfcfaaDoorMg7
import Derived.Test.YtcmljjhnfpfcfaaDoorMg8
import Derived.Test.YtcmljjhnfpfcfaaDoorMg9
import Derived.Test.YtcmljjhnfpfcfaaDoorMg10
import Derived.Test.YtcmljjhnfpfcfaaDoorMg11
import Derived.Test.YtcmljjhnfpfcfaaDoorMg13
import Derived.Test.YtcmljjhnfpfcfaaDoorMg14
import Derived.Test.YtcmljjhnfpfcfaaDoorMg17
import Derived.Test.YtcmljjhnfpfcfaaDoorMg18
import Derived.Test.YtcmljjhnfpfcfaaDoorMg19
import Derived.Test.YtcmljjhnfpfcfaaDoorMg20
import Derived.Test.YtcmljjhnfpfcfaaDoorMg21
import Derived.Test.YtcmljjhnfpfcfaaDoorMg22
import Derived.Test.YtcmljjhnfpfcfaaDoorMg23
import Derived.Test.YtcmljjhnfpfcfaaDoorMg24
import Derived.Test.YtcmljjhnfpfcfaaDoorMg25
import Derived.Test.YtcmljjhnfpfcfaaDoorMg26
import Derived.Test.YtcmljjhnfpfcfaaDoorMg27
import Derived.Test.YtcmljjhnfpfcfaaDoorMg28
import Derived.Test.YtcmljjhnfpfcfaaDoorMg29
/- The reference's Measure. -/
namespace Go.Proofs.YtcmljjhnfpfcfaaDoor
open Go.ChangeShapes Go.WideShapes Go.ChangeAt Go.RowKit
set_option linter.unusedVariables false
set_option linter.unusedSimpArgs false
set_option maxRecDepth 100000
/-- what was charged, and the error -/
def measV (ls : List (List Int)) (D X : Int) : Int × Int := if 0 < ls.length ∧ (seg ls 0).length = 0 then (0, 0) else if (valV ls D.toNat (startI X) 0 0).e ≠ 0 then (0, (valV ls D.toNat (startI X) 0 0).e) else (startI X - (valV ls D.toNat (startI X) 0 0).m, 0)

set_option maxHeartbeats 2000000 in
set_option maxRecDepth 100000 in
theorem RefMeasure12_some (A : Option Addr) (c : Nat) (ls : List (List Int)) (D X O : Int) (hw : Wd2 ls) (hm : ls.length ≤ 40) (hf : ∀ j, (seg ls j).length ≤ 20000000) (hD : D ≤ 900) (hX : X ≤ 1000000) (w : World) (hs : Sg w A ls) (hz : ¬ (seg ls 0).length = 0) (hl : 0 < ls.length) :
    Calls Tryd.prog 18 #[.slice A ls.length c, .agg #[.int .i64 D, .int .i64 X, .int .i64 O]] w fun e w' => e = .returned (.tuple #[.int .i64 (measV ls D X).1, .int .i64 (measV ls D X).2]) ∧ Below w.heap.size w w' := by
  have hx0 : 0 ≤ startI X ∧ startI X ≤ 1000000 := by unfold startI; split <;> omega
  have Hs := Lib.hid hs
  have HVC := Lib.hid (fun w' hs' => RefValue12 A c ls D X O hw hm hf hD D.toNat (startI X) 0 0 1 w' hs' hx0.1 (by omega) (by omega) (by omega) (by congr 1; omega))
  have HVM := Lib.hid (valV_m hw hm hf D.toNat (startI X) 0 0 hx0.1)
  have HMS : Hid (measV ls D X = if (valV ls D.toNat (startI X) 0 0).e ≠ 0 then (0, (valV ls D.toNat (startI X) 0 0).e) else (startI X - (valV ls D.toNat (startI X) 0 0).m, 0)) := Lib.hid (by unfold measV; rw [if_neg (by omega)])
  generalize valV ls D.toNat (startI X) 0 0 = sv at *
  generalize measV ls D X = mv at *
  obtain ⟨b, off, A', c', rfl, hc, -, -, -, -⟩ := ((Hs.out.below ((Below.refl _ _).alloc (Nat.le_refl _) (.cells #[.int .i64 D, .int .i64 X, .int .i64 O] 33)) (Nat.le_refl _))).one hl
  simp only [Nat.add_zero] at hc
  have t1 : decide ((0 : Int) < ls.length) = true := decide_eq_true (by omega)
  have t2 : (((seg ls 0).length : Int) == 0) = false := beq_eq_false_iff_ne.2 (by omega)
  clear hs hw hf
  generalize (seg ls 0).length = l0 at *
  go_enter Tryd.func18, Tryd.ntmps18
  go_wp2_with fail
  refine (RefStart_any D X O _).mono ?_
  rintro e w1 ⟨rfl, hb⟩
  have B0 := (Blk.fresh w #[.int .i64 D, .int .i64 X, .int .i64 O] 33).below hb
  have HB : Hid (Below w.heap.size w w1) := Lib.hid (((Below.refl _ _).alloc (Nat.le_refl _) _).trans (hb.mono (by simp)))
  clear hb
  have H0 := Lib.hid B0
  obtain ⟨x0, y0, z0⟩ := B0
  go_wp2_with fail
  refine (HVC.out _ ((Hs.out.below HB.out (Nat.le_refl _)).alloc _)).mono ?_
  rintro e w2 ⟨v, rfl, ⟨Ak, ck, Bk, ek, hik, rfl, -, -⟩, hb⟩
  have B6 := (Blk.fresh w1 #[.int .i64 (startI X)] 47).below hb
  have hz1 := HB.out.size
  have HB : Hid (Below w.heap.size w w2) := Lib.hid ((HB.out.alloc hz1 _).trans (hb.mono (by simp; omega)))
  clear hb x0 y0 z0 H0
  obtain ⟨x6, y6, z6⟩ := B6
  have hvm := HVM.out
  by_cases he : sv.e = 0
  · have t3 : (sv.e != 0) = false := by rw [he]; rfl
    rw [if_neg (by rw [he]; simp)] at HMS
    clear he
    go_wp2_with fail
    go_ret2
    refine ⟨by rw [HMS.out]; rfl, ?_⟩
    repeat (with_reducible first | exact HB.out | refine bel_drewN ?_ _ | refine bel_drew ?_ | refine Below.alloc ?_ (by have := HB.out.size; simp [World.setCell]; try omega) _ | refine Below.setCell ?_ (by have := HB.out.size; first | (simp; done) | (simp; omega)) _)
  · have t3 : (sv.e != 0) = true := bne_iff_ne.2 he
    rw [if_pos he] at HMS
    clear he
    go_wp2_with fail
    go_ret2
    refine ⟨by rw [HMS.out]; rfl, ?_⟩
    repeat (with_reducible first | exact HB.out | refine bel_drewN ?_ _ | refine bel_drew ?_ | refine Below.alloc ?_ (by have := HB.out.size; simp [World.setCell]; try omega) _ | refine Below.setCell ?_ (by have := HB.out.size; first | (simp; done) | (simp; omega)) _)

set_option maxHeartbeats 2000000 in
set_option maxRecDepth 100000 in
theorem RefMeasure12_none (A : Option Addr) (c : Nat) (ls : List (List Int)) (D X O : Int) (hw : Wd2 ls) (hm : ls.length ≤ 40) (hf : ∀ j, (seg ls j).length ≤ 20000000) (hD : D ≤ 900) (hX : X ≤ 1000000) (w : World) (hs : Sg w A ls) (hl : ls.length = 0) :
    Calls Tryd.prog 18 #[.slice A ls.length c, .agg #[.int .i64 D, .int .i64 X, .int .i64 O]] w fun e w' => e = .returned (.tuple #[.int .i64 (measV ls D X).1, .int .i64 (measV ls D X).2]) ∧ Below w.heap.size w w' := by
  have hx0 : 0 ≤ startI X ∧ startI X ≤ 1000000 := by unfold startI; split <;> omega
  have Hs := Lib.hid hs
  have HVC := Lib.hid (fun w' hs' => RefValue12 A c ls D X O hw hm hf hD D.toNat (startI X) 0 0 1 w' hs' hx0.1 (by omega) (by omega) (by omega) (by congr 1; omega))
  have HVM := Lib.hid (valV_m hw hm hf D.toNat (startI X) 0 0 hx0.1)
  have HMS : Hid (measV ls D X = if (valV ls D.toNat (startI X) 0 0).e ≠ 0 then (0, (valV ls D.toNat (startI X) 0 0).e) else (startI X - (valV ls D.toNat (startI X) 0 0).m, 0)) := Lib.hid (by unfold measV; rw [if_neg (by omega)])
  generalize valV ls D.toNat (startI X) 0 0 = sv at *
  generalize measV ls D X = mv at *
  have t1 : ¬ ((0 : Int) < ls.length) := by omega
  clear hs hw hf hl
  go_enter Tryd.func18, Tryd.ntmps18
  go_wp2_with fail
  refine (RefStart_any D X O _).mono ?_
  rintro e w1 ⟨rfl, hb⟩
  have B0 := (Blk.fresh w #[.int .i64 D, .int .i64 X, .int .i64 O] 33).below hb
  have HB : Hid (Below w.heap.size w w1) := Lib.hid (((Below.refl _ _).alloc (Nat.le_refl _) _).trans (hb.mono (by simp)))
  clear hb
  have H0 := Lib.hid B0
  obtain ⟨x0, y0, z0⟩ := B0
  go_wp2_with fail
  refine (HVC.out _ ((Hs.out.below HB.out (Nat.le_refl _)).alloc _)).mono ?_
  rintro e w2 ⟨v, rfl, ⟨Ak, ck, Bk, ek, hik, rfl, -, -⟩, hb⟩
  have B6 := (Blk.fresh w1 #[.int .i64 (startI X)] 47).below hb
  have hz1 := HB.out.size
  have HB : Hid (Below w.heap.size w w2) := Lib.hid ((HB.out.alloc hz1 _).trans (hb.mono (by simp; omega)))
  clear hb x0 y0 z0 H0
  obtain ⟨x6, y6, z6⟩ := B6
  have hvm := HVM.out
  by_cases he : sv.e = 0
  · have t3 : (sv.e != 0) = false := by rw [he]; rfl
    rw [if_neg (by rw [he]; simp)] at HMS
    clear he
    go_wp2_with fail
    go_ret2
    refine ⟨by rw [HMS.out]; rfl, ?_⟩
    repeat (with_reducible first | exact HB.out | refine bel_drewN ?_ _ | refine bel_drew ?_ | refine Below.alloc ?_ (by have := HB.out.size; simp [World.setCell]; try omega) _ | refine Below.setCell ?_ (by have := HB.out.size; first | (simp; done) | (simp; omega)) _)
  · have t3 : (sv.e != 0) = true := bne_iff_ne.2 he
    rw [if_pos he] at HMS
    clear he
    go_wp2_with fail
    go_ret2
    refine ⟨by rw [HMS.out]; rfl, ?_⟩
    repeat (with_reducible first | exact HB.out | refine bel_drewN ?_ _ | refine bel_drew ?_ | refine Below.alloc ?_ (by have := HB.out.size; simp [World.setCell]; try omega) _ | refine Below.setCell ?_ (by have := HB.out.size; first | (simp; done) | (simp; omega)) _)

set_option maxRecDepth 100000 in
theorem RefMeasure12_nul (A : Option Addr) (c : Nat) (ls : List (List Int)) (D X O : Int) (w : World) (hs : Sg w A ls) (hz : (seg ls 0).length = 0) (hl : 0 < ls.length) :
    Calls Tryd.prog 18 #[.slice A ls.length c, .agg #[.int .i64 D, .int .i64 X, .int .i64 O]] w fun e w' => e = .returned (.tuple #[.int .i64 (measV ls D X).1, .int .i64 (measV ls D X).2]) ∧ Below w.heap.size w w' := by
  have HMS : Hid (measV ls D X = (0, 0)) := Lib.hid (by unfold measV; rw [if_pos ⟨hl, hz⟩])
  generalize measV ls D X = mv at *
  obtain ⟨b, off, A', c', rfl, hc, -, -, -, -⟩ := ((hs.below ((Below.refl _ _).alloc (Nat.le_refl _) (.cells #[.int .i64 D, .int .i64 X, .int .i64 O] 33)) (Nat.le_refl _))).one hl
  simp only [Nat.add_zero] at hc
  have t1 : decide ((0 : Int) < ls.length) = true := decide_eq_true (by omega)
  rw [hz] at hc
  clear hs hz
  go_enter Tryd.func18, Tryd.ntmps18
  go_wp2_with fail
  go_ret2
  exact ⟨by rw [HMS.out]; rfl, (Below.refl _ _).alloc (Nat.le_refl _) _⟩

theorem RefMeasure12 (A : Option Addr) (c : Nat) (ls : List (List Int)) (D X O : Int) (w : World) (hs : Sg w A ls) (hw : Wd2 ls) (hm : ls.length ≤ 40) (hf : ∀ j, (seg ls j).length ≤ 20000000) (hD : D ≤ 900) (hX : X ≤ 1000000) :
    Calls Tryd.prog 18 #[.slice A ls.length c, .agg #[.int .i64 D, .int .i64 X, .int .i64 O]] w fun e w' => e = .returned (.tuple #[.int .i64 (measV ls D X).1, .int .i64 (measV ls D X).2]) ∧ Below w.heap.size w w' := by
  by_cases hl : ls.length = 0
  · exact RefMeasure12_none A c ls D X O hw hm hf hD hX w hs hl
  · by_cases hz : (seg ls 0).length = 0
    · exact RefMeasure12_nul A c ls D X O w hs hz (by omega)
    · exact RefMeasure12_some A c ls D X O hw hm hf hD hX w hs hz (by omega)
end Go.Proofs.YtcmljjhnfpfcfaaDoor

/- The traversal as a function: depth, errors, other limits, longer messages. -/
namespace Go.Proofs.YtcmljjhnfpfcfaaDoor
open Go.ChangeShapes Go.WideShapes Go.ChangeAt Go.RowKit
set_option linter.unusedVariables false
set_option linter.unusedSimpArgs false
set_option maxRecDepth 100000

/-! ## Depth -/
theorem depthK_all {r : Nat} : ∀ ks : List Nd, (∀ y ∈ ks, depthN y ≤ r) → depthK ks ≤ r
  | [], _ => Nat.zero_le _
  | x :: xs, h => by
    have h1 := h x (List.mem_cons_self ..)
    have h2 := depthK_all xs fun y hy => h y (List.mem_cons_of_mem _ hy)
    show max (depthN x) (depthK xs) ≤ r
    omega
theorem depthG_all {r : Nat} : ∀ ks : List Nd, (∀ y ∈ ks, depthK y.ks ≤ r) → depthG ks ≤ r
  | [], _ => Nat.zero_le _
  | .mk k e n d l :: xs, h => by
    have h1 : depthK l ≤ r := h _ (List.mem_cons_self ..)
    have h2 := depthG_all xs fun y hy => h y (List.mem_cons_of_mem _ hy)
    show max (depthK l) (depthG xs) ≤ r
    omega
theorem structV_depth {val : Int → Int → Int → Val} {r : Nat} (hv : ∀ m s a, depthN (val m s a).n ≤ r) (ls : List (List Int)) (m : Int) (o : Ob) : depthN (structV val ls m o).n ≤ r + 1 ∧ depthK (structV val ls m o).n.ks ≤ r := by
  unfold structV
  split
  · exact ⟨Nat.zero_le _, Nat.zero_le _⟩
  · have h : depthK (runK (fun m i => val m o.sg (o.at' + o.d + i)) m o.p.toNat).ks ≤ r := depthK_all _ (runK_all (fun y => depthN y ≤ r) _ fun m i _ _ => hv m _ _)
    refine ⟨?_, h⟩
    show (if (1 : Int) = 0 then 0 else 1 + if (1 : Int) = 2 ∧ (0 : Int) = 7 then _ else depthK _) ≤ r + 1
    rw [if_neg (by omega), if_neg (by omega)]
    omega
theorem listV_depth {val : Int → Int → Int → Val} {r : Nat} (hv : ∀ m s a, depthN (val m s a).n ≤ r) (ls : List (List Int)) (m : Int) (o : Ob) (h6 : 6 ≤ o.el) (h7 : o.el ≤ 7) : depthN (listV val ls m o).n ≤ r + 1 := by
  unfold listV
  split
  · exact Nat.zero_le _
  · show (if (2 : Int) = 0 then 0 else 1 + if (2 : Int) = 2 ∧ o.el = 7 then depthG _ else depthK _) ≤ r + 1
    rw [if_neg (by omega)]
    split
    · rename_i h
      have hg : depthG (runK (elemV val ls o) m o.n.toNat).ks ≤ r := depthG_all _ (runK_all (fun y => depthK y.ks ≤ r) _ fun m i _ _ => by
        unfold elemV
        rw [if_neg (by omega)]
        exact (structV_depth hv ls m (eleO o i)).2)
      omega
    · rename_i h
      have hk : depthK (runK (elemV val ls o) m o.n.toNat).ks ≤ r := depthK_all _ (runK_all (fun y => depthN y ≤ r) _ fun m i _ _ => by
        unfold elemV
        rw [if_pos (by omega)]
        exact hv m _ _)
      omega
theorem valV_depth {ls : List (List Int)} (hw : Wd2 ls) (hm : ls.length ≤ 40) (hf : ∀ j, (seg ls j).length ≤ 20000000) : ∀ r m s a, depthN (valV ls r m s a).n ≤ r
  | 0, m, s, a => by
    unfold valV
    split <;> exact Nat.zero_le _
  | r + 1, m, s, a => by
    have ih := fun m s a => valV_depth hw hm hf r m s a
    have hb := objF_num hw hm hf s a rfl
    unfold valV
    split
    · exact Nat.zero_le _
    · unfold bodyV
      generalize objF ls s a = q at *
      split
      · exact Nat.zero_le _
      · split
        · exact Nat.zero_le _
        · split
          · exact (structV_depth ih ls _ q.1).1
          · split
            · rename_i h
              show (if (2 : Int) = 0 then 0 else 1 + if (2 : Int) = 2 ∧ q.1.el = 7 then _ else depthK []) ≤ r + 1
              rw [if_neg (by omega), if_neg (by omega)]
              show 1 + 0 ≤ r + 1
              omega
            · exact listV_depth ih ls _ q.1 (by omega) (by omega)

/-! ## Errors -/
/-! ## Another budget, a greater depth, a longer message: what succeeds there -/
theorem runK_succ0 {f : Int → Nat → Val} {m : Int} {n : Nat} (h : (runK f m (n + 1)).e = 0) : (runK f m n).e = 0 ∧ (f (runK f m n).m n).e = 0 := by
  by_cases h1 : (runK f m n).e = 0
  · by_cases h2 : (f (runK f m n).m n).e = 0
    · exact ⟨h1, h2⟩
    · rw [runK_no h1 h2] at h; exact absurd h h2
  · rw [runK_keep h1 (Nat.le_succ n)] at h; exact absurd h h1
/-- all that is in bounds of ls is there in ls', too -/
structure ExtM (ls ls' : List (List Int)) : Prop where
  has : ∀ s a, hasB ls s a = true → hasB ls' s a = true
  word : ∀ s a, hasB ls s a = true → wordV ls' s a = wordV ls s a
  inb : ∀ s a n, inB ls s a n = true → inB ls' s a n = true
  dat : ∀ s a n, inB ls s a n = true → sliceL ls' s a n = sliceL ls s a n
theorem ExtM.refl (ls : List (List Int)) : ExtM ls ls := ⟨fun _ _ h => h, fun _ _ _ => rfl, fun _ _ _ h => h, fun _ _ _ _ => rfl⟩
theorem ExtM.datW {ls ls' : List (List Int)} (h : ExtM ls ls') (s a n : Int) (hi : inB ls s a n = true) : datW ls' s a n = datW ls s a n := by
  unfold Proofs.YtcmljjhnfpfcfaaDoor.datW
  rw [if_pos hi, if_pos (h.inb s a n hi), h.dat s a n hi]
/-! ## One word too few -/
end Go.Proofs.YtcmljjhnfpfcfaaDoor

/- What a message denotes: numbers, other limits, longer messages. -/
namespace Go.Proofs.YtcmljjhnfpfcfaaDoor
open Go.ChangeShapes Go.WideShapes Go.ChangeAt Go.RowKit
set_option linter.unusedVariables false
set_option linter.unusedSimpArgs false
set_option maxRecDepth 100000

section
variable {ls : List (List Int)} (hw : Wd2 ls) (hm : ls.length ≤ 40) (hf : ∀ j, (seg ls j).length ≤ 20000000) (D X : Int)
theorem startI_bd (X : Int) : 0 ≤ startI X := by unfold startI; split <;> omega
include hw hm hf
theorem msg_valid : validN (msgV ls D X).1 = true ∧ trimmedN (msgV ls D X).1 = true ∧ depthN (msgV ls D X).1 ≤ D.toNat := by
  have h0 : validN nd0 = true ∧ trimmedN nd0 = true ∧ depthN nd0 ≤ D.toNat := ⟨by decide, by decide, Nat.zero_le _⟩
  unfold msgV
  split
  · exact h0
  · split
    · exact h0
    · have hv := valV_valid hw hm hf D.toNat (startI X) 0 0
      refine ⟨valid_trim _ hv, trimmed_trim _ hv, ?_⟩
      rw [depth_trim]
      exact valV_depth hw hm hf _ _ _ _
theorem msg_size : (sizeN (msgV ls D X).1 : Int) ≤ 1 + 10 * startI X := by
  have h0 : (sizeN nd0 : Int) = 1 := by decide
  have h1 := startI_bd X
  unfold msgV
  split
  · show (sizeN nd0 : Int) ≤ _; omega
  · split
    · show (sizeN nd0 : Int) ≤ _; omega
    · have hs := (valV_size hw hm hf D.toNat (startI X) 0 0).2
      have hv := valV_m hw hm hf D.toNat (startI X) 0 0 h1
      have ht := size_trim (valV ls D.toNat (startI X) 0 0).n
      show (sizeN (trimN (valV ls D.toNat (startI X) 0 0).n) : Int) ≤ _
      omega
end
end Go.Proofs.YtcmljjhnfpfcfaaDoor
