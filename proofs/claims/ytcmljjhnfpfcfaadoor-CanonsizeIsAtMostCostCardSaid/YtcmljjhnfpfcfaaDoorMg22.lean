/- The texts ObjNum, Ref09, Den, NodeZ, NodeK (what is wanted of them), one after the other. -/
import Derived.Test.YtcmljjhnfpfcfaaDoorMg1
import Derived.Test.YtcmljjhnfpfcfaaDoorMg2
import Derived.Test.YtcmljjhnfpfcfaaDoorMg3
import Derived.Test.YtcmljjhnfpfcfaaDoorMg4
import Derived.Test.YtcmljjhnfpfcfaaDoorMg5
import Derived.Test.YtcmljjhnfpfcfaaDoorMg7
import Derived.Test.YtcmljjhnfpfcfaaDoorMg9
import Derived.Test.YtcmljjhnfpfcfaaDoorMg10
import Derived.Test.YtcmljjhnfpfcfaaDoorMg13
import Derived.Test.YtcmljjhnfpfcfaaDoorMg17
import Derived.Test.YtcmljjhnfpfcfaaDoorMg18
import Derived.Test.YtcmljjhnfpfcfaaDoorMg19
import Derived.Test.YtcmljjhnfpfcfaaDoorMg20
import Derived.Test.YtcmljjhnfpfcfaaDoorMg21
/- What a resolved object is like: numbers alone. -/
namespace Go.Proofs.YtcmljjhnfpfcfaaDoor
open Go.ChangeShapes Go.WideShapes Go.ChangeAt Go.RowKit
set_option linter.unusedVariables false
set_option linter.unusedSimpArgs false
set_option maxRecDepth 100000

theorem inB_iff {ls : List (List Int)} {s a n : Int} : inB ls s a n = true ↔ 0 ≤ s ∧ s < ls.length ∧ 0 ≤ a ∧ 0 ≤ n ∧ a + n ≤ (seg ls s.toNat).length := by
  unfold inB
  rw [decide_eq_true_iff]
  constructor <;> intro h <;> omega

/-- the ways of an object: an error or null with the zero object; a struct; a plain list; a composite list with c words behind its tag -/
theorem objF_cases {ls : List (List Int)} (hw : Wd2 ls) (hm : ls.length ≤ 140737488355328) (hf : ∀ j, (seg ls j).length ≤ 140737488355328) (s a : Int) :
    ((objF ls s a).1 = ob0 ∧ ((objF ls s a).2 = 0 ∨ 2 ≤ (objF ls s a).2 ∧ (objF ls s a).2 ≤ 6)) ∨
    ((objF ls s a).2 = 0 ∧ (objF ls s a).1.k = 1 ∧ (objF ls s a).1.el = 0 ∧ (objF ls s a).1.n = 0 ∧ 0 ≤ (objF ls s a).1.d ∧ (objF ls s a).1.d ≤ 65535 ∧ 0 ≤ (objF ls s a).1.p ∧ (objF ls s a).1.p ≤ 65535 ∧ (objF ls s a).1.cost = (objF ls s a).1.d + (objF ls s a).1.p ∧ inB ls (objF ls s a).1.sg (objF ls s a).1.at' ((objF ls s a).1.d + (objF ls s a).1.p) = true) ∨
    ((objF ls s a).2 = 0 ∧ (objF ls s a).1.k = 2 ∧ 0 ≤ (objF ls s a).1.el ∧ (objF ls s a).1.el ≤ 6 ∧ 0 ≤ (objF ls s a).1.n ∧ (objF ls s a).1.n ≤ 536870911 ∧ (objF ls s a).1.d = 0 ∧ (objF ls s a).1.p = 0 ∧ (objF ls s a).1.cost = wordsI (objF ls s a).1.el (objF ls s a).1.n ∧ inB ls (objF ls s a).1.sg (objF ls s a).1.at' (objF ls s a).1.cost = true) ∨
    ((objF ls s a).2 = 0 ∧ (objF ls s a).1.k = 2 ∧ (objF ls s a).1.el = 7 ∧ 0 ≤ (objF ls s a).1.n ∧ (objF ls s a).1.n ≤ 536870911 ∧ 0 ≤ (objF ls s a).1.d ∧ (objF ls s a).1.d ≤ 65535 ∧ 0 ≤ (objF ls s a).1.p ∧ (objF ls s a).1.p ≤ 65535 ∧
      ∃ c, 0 ≤ c ∧ c ≤ 536870911 ∧ (objF ls s a).1.n * ((objF ls s a).1.d + (objF ls s a).1.p) ≤ c ∧ inB ls (objF ls s a).1.sg ((objF ls s a).1.at' - 1) (c + 1) = true ∧ (objF ls s a).1.cost = c + 1 + if (objF ls s a).1.d + (objF ls s a).1.p = 0 then (objF ls s a).1.n else 0) := by
  have hbd := followF_bd hw hm hf s a
  have hpd := decP_bd (followF ls s a).w hbd.1 hbd.2.1
  have he : (followF ls s a).e = 0 ∨ 2 ≤ (followF ls s a).e ∧ (followF ls s a).e ≤ 3 := by
    unfold followF
    repeat' split
    all_goals simp [folE]
  unfold objF
  generalize followF ls s a = q at *
  by_cases h1 : q.e ≠ 0 ∨ q.w = 0
  · rw [if_pos h1]
    exact .inl ⟨rfl, by show q.e = 0 ∨ 2 ≤ q.e ∧ q.e ≤ 6; omega⟩
  rw [if_neg h1]
  unfold objP
  generalize decP q.w = p at *
  by_cases h3 : p.k = 3
  · rw [if_pos h3]
    refine .inl ⟨rfl, .inr ?_⟩
    show 2 ≤ (if p.lo = 0 then (6 : Int) else 4) ∧ (if p.lo = 0 then (6 : Int) else 4) ≤ 6
    split <;> omega
  rw [if_neg h3]
  by_cases h4 : p.k = 0
  · rw [if_pos h4]
    by_cases h5 : inB ls q.s (q.b + p.o) (p.d + p.p) = true
    · rw [if_pos h5]
      exact .inr (.inl ⟨rfl, rfl, rfl, rfl, by show 0 ≤ p.d; omega, by show p.d ≤ 65535; omega, by show 0 ≤ p.p; omega, by show p.p ≤ 65535; omega, rfl, h5⟩)
    · rw [if_neg h5]
      exact .inl ⟨rfl, .inr ⟨by show (2 : Int) ≤ 2; omega, by show (2 : Int) ≤ 6; omega⟩⟩
  rw [if_neg h4]
  by_cases h5 : inB ls q.s (q.b + p.o) (wordsI p.el p.c) = false
  · rw [if_pos h5]
    exact .inl ⟨rfl, .inr ⟨by show (2 : Int) ≤ 2; omega, by show (2 : Int) ≤ 6; omega⟩⟩
  rw [if_neg h5]
  have h5' : inB ls q.s (q.b + p.o) (wordsI p.el p.c) = true := by simpa using h5
  by_cases h7 : p.el = 7
  · rw [if_pos h7]
    have hwd := wordV_bd hw q.s (q.b + p.o)
    have htd := decP_bd _ hwd.1 hwd.2
    unfold compF
    generalize decP (wordV ls q.s (q.b + p.o)) = t at *
    by_cases h8 : t.k ≠ 0 ∨ t.o < 0 ∨ p.c < t.o * (t.d + t.p)
    · rw [if_pos h8]
      exact .inl ⟨rfl, .inr ⟨by show (2 : Int) ≤ 5; omega, by show (5 : Int) ≤ 6; omega⟩⟩
    · rw [if_neg h8]
      rw [h7] at h5'
      refine .inr (.inr (.inr ⟨rfl, rfl, rfl, by show 0 ≤ t.o; omega, by show t.o ≤ 536870911; omega, by show 0 ≤ t.d; omega, by show t.d ≤ 65535; omega, by show 0 ≤ t.p; omega, by show t.p ≤ 65535; omega, p.c, by omega, by omega, by show t.o * (t.d + t.p) ≤ p.c; omega, ?_, ?_⟩))
      · show inB ls q.s (q.b + p.o + 1 - 1) (p.c + 1) = true
        rw [show q.b + p.o + 1 - 1 = q.b + p.o by omega]
        exact h5'
      · show (if t.d + t.p = 0 then wordsI p.el p.c + t.o else wordsI p.el p.c) = p.c + 1 + if t.d + t.p = 0 then t.o else 0
        rw [h7]
        show (if t.d + t.p = 0 then p.c + 1 + t.o else p.c + 1) = _
        split <;> omega
  · rw [if_neg h7]
    exact .inr (.inr (.inl ⟨rfl, rfl, by show 0 ≤ p.el; omega, by show p.el ≤ 6; omega, by show 0 ≤ p.c; omega, by show p.c ≤ 536870911; omega, rfl, rfl, rfl, h5'⟩))

end Go.Proofs.YtcmljjhnfpfcfaaDoor

/- What the reference functions of layer 9 do, each by a contract. -/
namespace Go.Proofs.YtcmljjhnfpfcfaaDoor
open Go.ChangeShapes Go.WideShapes Go.ChangeAt Go.RowKit
set_option linter.unusedVariables false
set_option linter.unusedSimpArgs false
set_option maxRecDepth 100000

def startI (x : Int) : Int := if x < 0 then 0 else x
def chargeI (m c : Int) : Int := if m < c then m else m - c
def chargeE (m c : Int) : Int := if m < c then 8 else 0

theorem RefStart_any (d x o : Int) (w : World) : Calls Tryd.prog 32 #[.agg #[.int .i64 d, .int .i64 x, .int .i64 o]] w fun e w' => e = .returned (.agg #[.int .i64 (startI x)]) ∧ Below w.heap.size w w' := by
  by_cases h : x < 0
  · have HS : Hid (startI x = 0) := Lib.hid (by simp [startI, h])
    go_enter Tryd.func32, Tryd.ntmps32
    go_wp2
    refine bodyPost_ret (v := .agg #[.int .i64 0]) (by simp [results, Tryd.results32, go_sem]) rfl ⟨by rw [HS.out], ?_⟩
    exact ((Below.refl _ _).alloc (Nat.le_refl _) _).alloc (by simp) _
  · have HS : Hid (startI x = x) := Lib.hid (by simp [startI, h])
    go_enter Tryd.func32, Tryd.ntmps32
    go_wp2
    refine bodyPost_ret (v := .agg #[.int .i64 x]) (by simp [results, Tryd.results32, go_sem]) rfl ⟨by rw [HS.out], ?_⟩
    exact ((Below.refl _ _).alloc (Nat.le_refl _) _).alloc (by simp) _

theorem RefCharge_any (m c : Int) (w : World) (hm0 : -9223372036854775808 ≤ m) (hm1 : m ≤ 9223372036854775807) (hc : 0 ≤ c) :
    Calls Tryd.prog 45 #[.agg #[.int .i64 m], .int .i64 c] w fun e w' => e = .returned (.tuple #[.agg #[.int .i64 (chargeI m c)], .int .i64 (chargeE m c)]) ∧ Below w.heap.size w w' := by
  by_cases h : m < c
  · have HS : Hid (chargeI m c = m) := Lib.hid (by simp [chargeI, h])
    have HE : Hid (chargeE m c = 8) := Lib.hid (by simp [chargeE, h])
    go_enter Tryd.func45, Tryd.ntmps45
    go_wp2
    refine bodyPost_ret (v := .tuple #[.agg #[.int .i64 m], .int .i64 8]) (by simp [results, Tryd.results45, go_sem]) rfl ⟨by rw [HS.out, HE.out], ?_⟩
    exact ((Below.refl _ _).alloc (Nat.le_refl _) _).alloc (by simp) _
  · have HS : Hid (chargeI m c = m - c) := Lib.hid (by simp [chargeI, h])
    have HE : Hid (chargeE m c = 0) := Lib.hid (by simp [chargeE, h])
    go_enter Tryd.func45, Tryd.ntmps45
    go_wp2
    refine bodyPost_ret (v := .tuple #[.agg #[.int .i64 (m - c)], .int .i64 0]) (by simp [results, Tryd.results45, go_sem]) rfl ⟨by rw [HS.out, HE.out], ?_⟩
    exact ((Below.refl _ _).alloc (Nat.le_refl _) _).alloc (by simp) _
end Go.Proofs.YtcmljjhnfpfcfaaDoor

/- The traversal of a message as a function: the value of a pointer, what is left of the budget, the error. -/
namespace Go.Proofs.YtcmljjhnfpfcfaaDoor
open Go.ChangeShapes Go.WideShapes Go.ChangeAt Go.RowKit
set_option linter.unusedVariables false
set_option linter.unusedSimpArgs false
set_option maxRecDepth 100000

structure Val where
  n : Nd
  m : Int
  e : Int
def errV (m e : Int) : Val := ⟨nd0, m, e⟩
structure Vls where
  ks : List Nd
  m : Int
  e : Int
/-- the first i values of a row, one after the other -/
def runK (f : Int → Nat → Val) (m : Int) : Nat → Vls
  | 0 => ⟨[], m, 0⟩
  | i + 1 => if (runK f m i).e ≠ 0 then runK f m i else if (f (runK f m i).m i).e ≠ 0 then ⟨[], (f (runK f m i).m i).m, (f (runK f m i).m i).e⟩ else ⟨(runK f m i).ks ++ [(f (runK f m i).m i).n], (f (runK f m i).m i).m, 0⟩
def datW (ls : List (List Int)) (s a n : Int) : List Int := if inB ls s a n = true then sliceL ls s a n else []
def structV (val : Int → Int → Int → Val) (ls : List (List Int)) (m : Int) (o : Ob) : Val :=
  if (runK (fun m i => val m o.sg (o.at' + o.d + i)) m o.p.toNat).e ≠ 0 then errV (runK (fun m i => val m o.sg (o.at' + o.d + i)) m o.p.toNat).m (runK (fun m i => val m o.sg (o.at' + o.d + i)) m o.p.toNat).e
  else ⟨.mk 1 0 0 (bytesOf (datW ls o.sg o.at' o.d)) (runK (fun m i => val m o.sg (o.at' + o.d + i)) m o.p.toNat).ks, (runK (fun m i => val m o.sg (o.at' + o.d + i)) m o.p.toNat).m, 0⟩
/-- the elements of a list -/
def elemV (val : Int → Int → Int → Val) (ls : List (List Int)) (o : Ob) (m : Int) (i : Nat) : Val := if o.el = 6 then val m o.sg (o.at' + i) else structV val ls m (eleO o i)
def listV (val : Int → Int → Int → Val) (ls : List (List Int)) (m : Int) (o : Ob) : Val :=
  if (runK (elemV val ls o) m o.n.toNat).e ≠ 0 then errV (runK (elemV val ls o) m o.n.toNat).m (runK (elemV val ls o) m o.n.toNat).e
  else ⟨.mk 2 o.el o.n [] (runK (elemV val ls o) m o.n.toNat).ks, (runK (elemV val ls o) m o.n.toNat).m, 0⟩
/-- the value of an object that is located -/
def bodyV (val : Int → Int → Int → Val) (ls : List (List Int)) (m : Int) (q : Ob × Int) : Val :=
  if q.2 ≠ 0 then errV m q.2
  else if m < q.1.cost then errV m 8
  else if q.1.k = 1 then structV val ls (m - q.1.cost) q.1
  else if q.1.el < 6 then ⟨.mk 2 q.1.el q.1.n (trimL (bytesOf (datW ls q.1.sg q.1.at' q.1.cost)) q.1.el q.1.n) [], m - q.1.cost, 0⟩
  else listV val ls (m - q.1.cost) q.1
/-- the value of the pointer at a position, where r nested objects may still be entered -/
def valV (ls : List (List Int)) : Nat → Int → Int → Int → Val
  | 0, m, s, a => if (followF ls s a).e ≠ 0 ∨ (followF ls s a).w = 0 then errV m (followF ls s a).e else errV m 7
  | r + 1, m, s, a => if (followF ls s a).e ≠ 0 ∨ (followF ls s a).w = 0 then errV m (followF ls s a).e else bodyV (valV ls r) ls m (objF ls s a)

theorem runK_keep {f : Int → Nat → Val} {m : Int} {i j : Nat} (h : (runK f m i).e ≠ 0) (hij : i ≤ j) : runK f m j = runK f m i := by
  induction j with
  | zero => obtain rfl : i = 0 := by omega
            rfl
  | succ j ih =>
    by_cases e : i = j + 1
    · subst e; rfl
    · have := ih (by omega)
      show (if (runK f m j).e ≠ 0 then runK f m j else _) = _
      rw [this, if_pos h]
theorem runK_ok {f : Int → Nat → Val} {m : Int} {i : Nat} (h : (runK f m i).e = 0) (hf : (f (runK f m i).m i).e = 0) : runK f m (i + 1) = ⟨(runK f m i).ks ++ [(f (runK f m i).m i).n], (f (runK f m i).m i).m, 0⟩ := by
  show (if (runK f m i).e ≠ 0 then runK f m i else if (f (runK f m i).m i).e ≠ 0 then _ else _) = _
  rw [if_neg (by rw [h]; simp), if_neg (by rw [hf]; simp)]
theorem runK_no {f : Int → Nat → Val} {m : Int} {i : Nat} (h : (runK f m i).e = 0) (hf : (f (runK f m i).m i).e ≠ 0) : runK f m (i + 1) = ⟨[], (f (runK f m i).m i).m, (f (runK f m i).m i).e⟩ := by
  show (if (runK f m i).e ≠ 0 then runK f m i else if (f (runK f m i).m i).e ≠ 0 then _ else _) = _
  rw [if_neg (by rw [h]; simp), if_pos hf]
theorem runK_length {f : Int → Nat → Val} {m : Int} : ∀ {i : Nat}, (runK f m i).e = 0 → (runK f m i).ks.length = i
  | 0, _ => rfl
  | i + 1, h => by
    by_cases h1 : (runK f m i).e = 0
    · by_cases h2 : (f (runK f m i).m i).e = 0
      · rw [runK_ok h1 h2]
        simp [runK_length h1]
      · rw [runK_no h1 h2] at h
        exact absurd h h2
    · rw [runK_keep h1 (Nat.le_succ i)] at h
      exact absurd h h1
/-- a property of meters that each step keeps -/
theorem runK_ind {f : Int → Nat → Val} {m : Int} (P : Int → Prop) (h0 : P m) : ∀ n, (∀ m i, i < n → P m → P (f m i).m) → P (runK f m n).m
  | 0, _ => h0
  | n + 1, hs => by
    have ih := runK_ind P h0 n (fun m i hi => hs m i (by omega))
    by_cases h1 : (runK f m n).e = 0
    · have h3 := hs _ n (by omega) ih
      by_cases h2 : (f (runK f m n).m n).e = 0
      · rw [runK_ok h1 h2]; exact h3
      · rw [runK_no h1 h2]; exact h3
    · rw [runK_keep h1 (Nat.le_succ n)]; exact ih
/-- the meter never grows and never falls below zero -/
theorem structV_m {val : Int → Int → Int → Val} (hv : ∀ m s a, 0 ≤ m → 0 ≤ (val m s a).m ∧ (val m s a).m ≤ m) (ls : List (List Int)) (m : Int) (o : Ob) (h : 0 ≤ m) : 0 ≤ (structV val ls m o).m ∧ (structV val ls m o).m ≤ m := by
  have h1 := runK_ind (f := fun m i => val m o.sg (o.at' + o.d + i)) (m := m) (fun x => 0 ≤ x ∧ x ≤ m) ⟨h, Int.le_refl _⟩ o.p.toNat (fun m' i _ hm => by
    have := hv m' o.sg (o.at' + o.d + i) hm.1
    show 0 ≤ (val m' o.sg (o.at' + o.d + i)).m ∧ _
    omega)
  unfold structV
  split
  · exact h1
  · exact h1
theorem listV_m {val : Int → Int → Int → Val} (hv : ∀ m s a, 0 ≤ m → 0 ≤ (val m s a).m ∧ (val m s a).m ≤ m) (ls : List (List Int)) (m : Int) (o : Ob) (h : 0 ≤ m) : 0 ≤ (listV val ls m o).m ∧ (listV val ls m o).m ≤ m := by
  have h1 := runK_ind (f := elemV val ls o) (m := m) (fun x => 0 ≤ x ∧ x ≤ m) ⟨h, Int.le_refl _⟩ o.n.toNat (fun m' i _ hm => by
    unfold elemV
    split
    · have := hv m' o.sg (o.at' + i) hm.1; omega
    · have := structV_m hv ls m' (eleO o i) hm.1; omega)
  unfold listV
  split
  · exact h1
  · exact h1
/-- the numbers of an object are small (larger messages) -/
theorem objF_bd2 {ls : List (List Int)} (hw : Wd2 ls) (hm : ls.length ≤ 40) (hf : ∀ j, (seg ls j).length ≤ 20000000) (s a k sg at' d p el n cost e : Int) (hq : objF ls s a = (⟨k, sg, at', d, p, el, n, cost⟩, e)) :
    0 ≤ k ∧ k ≤ 2 ∧ 0 ≤ sg ∧ sg ≤ 40 ∧ 0 ≤ at' ∧ at' ≤ 20000001 ∧ 0 ≤ d ∧ d ≤ 65535 ∧ 0 ≤ p ∧ p ≤ 65535 ∧ 0 ≤ el ∧ el ≤ 7 ∧ 0 ≤ n ∧ n ≤ 536870911 ∧ 0 ≤ cost ∧ cost ≤ 1073741824 ∧ 0 ≤ e ∧ e ≤ 6 ∧ 0 ≤ n * (d + p) ∧ n * (d + p) ≤ 20000000 := by
  have h := objF_cases hw (by omega) (fun j => by have := hf j; omega) s a
  rw [hq] at h
  simp only [ob0, Ob.mk.injEq] at h
  rcases h with ⟨⟨rfl, rfl, rfl, rfl, rfl, rfl, rfl, rfl⟩, h2⟩ | ⟨rfl, rfl, rfl, rfl, h1, h2, h3, h4, rfl, h5⟩ | ⟨rfl, rfl, h1, h2, h3, h4, rfl, rfl, rfl, h5⟩ | ⟨rfl, rfl, rfl, h1, h2, h3, h4, h5, h6, c, h7, h8, h9, h10, rfl⟩
  · omega
  · have h6 := inB_iff.1 h5
    have h7 := hf sg.toNat
    have h8 : (0 : Int) * (d + p) = 0 := Int.zero_mul _
    omega
  · have h6 := inB_iff.1 h5
    have h7 := hf sg.toNat
    have h8 : n * (0 + 0) = 0 := Int.mul_zero _
    have h9 := wordsI_lim el n h3 h4
    omega
  · have h11 := inB_iff.1 h10
    have h12 := hf sg.toNat
    have h13 : 0 ≤ n * (d + p) := Int.mul_nonneg (by omega) (by omega)
    split <;> omega
/-- the numbers of a located object of a small message -/
theorem objF_num {ls : List (List Int)} (hw : Wd2 ls) (hm : ls.length ≤ 40) (hf : ∀ j, (seg ls j).length ≤ 20000000) (s a : Int) {q : Ob × Int} (hq : objF ls s a = q) :
    0 ≤ q.1.k ∧ q.1.k ≤ 2 ∧ 0 ≤ q.1.sg ∧ q.1.sg ≤ 40 ∧ 0 ≤ q.1.at' ∧ q.1.at' ≤ 20000001 ∧ 0 ≤ q.1.d ∧ q.1.d ≤ 65535 ∧ 0 ≤ q.1.p ∧ q.1.p ≤ 65535 ∧ 0 ≤ q.1.el ∧ q.1.el ≤ 7 ∧ 0 ≤ q.1.n ∧ q.1.n ≤ 536870911 ∧ 0 ≤ q.1.cost ∧ q.1.cost ≤ 1073741824 ∧ 0 ≤ q.2 ∧ q.2 ≤ 6 ∧ 0 ≤ q.1.n * (q.1.d + q.1.p) ∧ q.1.n * (q.1.d + q.1.p) ≤ 20000000 := by
  obtain ⟨⟨k, sg, at', d, p, el, n, cost⟩, e⟩ := q
  exact objF_bd2 hw hm hf s a k sg at' d p el n cost e hq
theorem valV_m {ls : List (List Int)} (hw : Wd2 ls) (hm : ls.length ≤ 40) (hf : ∀ j, (seg ls j).length ≤ 20000000) : ∀ r m s a, 0 ≤ m → 0 ≤ (valV ls r m s a).m ∧ (valV ls r m s a).m ≤ m
  | 0, m, s, a, h => by
    unfold valV
    split <;> exact ⟨h, Int.le_refl _⟩
  | r + 1, m, s, a, h => by
    have ih := fun m s a h => valV_m hw hm hf r m s a h
    unfold valV
    split
    · exact ⟨h, Int.le_refl _⟩
    · have hc : 0 ≤ (objF ls s a).1.cost := (objF_num hw hm hf s a rfl).2.2.2.2.2.2.2.2.2.2.2.2.2.2.1
      unfold bodyV
      generalize objF ls s a = q at *
      split
      · exact ⟨h, Int.le_refl _⟩
      · split
        · exact ⟨h, Int.le_refl _⟩
        · split
          · have := structV_m ih ls (m - q.1.cost) q.1 (by omega); omega
          · split
            · show 0 ≤ m - q.1.cost ∧ m - q.1.cost ≤ m; omega
            · have := listV_m ih ls (m - q.1.cost) q.1 (by omega); omega
end Go.Proofs.YtcmljjhnfpfcfaaDoor

/- What lies in memory although new variables of the type Node, whose first cell is still zero, are written: for statements that make a variable and what is stored into it in any order. -/
namespace Go.Proofs.YtcmljjhnfpfcfaaDoor
open Go.ChangeShapes Go.WideShapes Go.ChangeAt Go.RowKit
set_option linter.unusedVariables false
set_option linter.unusedSimpArgs false
set_option maxRecDepth 100000

theorem Ri.agree {w W : World} {k : IntKind} {A : Option Addr} {zs : List Int} (h : Ri w k A zs) {N : Nat} (hw : ∀ q, q < N → W.heap[q]? = w.heap[q]?) (hN : w.heap.size ≤ N) : Ri W k A zs := by
  rcases h with rfl | ⟨b, off, rfl, h⟩
  · exact .inl rfl
  · refine .inr ⟨b, off, rfl, fun j hj => ?_⟩
    have hlt : b < w.heap.size := World.block_lt_of_cell? w ⟨b, off + j, none⟩ (h j hj)
    rw [World.cell?_of_block (w := w) (hw b (by omega))]
    exact h j hj
theorem NdR.agree {w W : World} {A : Option Addr} {c : Nat} {B : Option Addr} {c2 : Nat} {x : Nd} (h : NdR w A c B c2 x) {N : Nat} (hw : ∀ q, q < N → W.heap[q]? = w.heap[q]?) (hN : w.heap.size ≤ N) : NdR W A c B c2 x := by
  induction h with
  | mk k e n d ks A c B c2 FA Fc FB Fc2 hk he hn hd hby hdl hc hA hkl hc2 hB hcell hsub ih =>
    refine .mk k e n d ks A c B c2 FA Fc FB Fc2 hk he hn (hd.agree hw hN) hby hdl hc hA hkl hc2 hB ?_ ih
    rcases hcell with h | ⟨b, off, hBe, hcs⟩
    · exact .inl h
    · refine .inr ⟨b, off, hBe, fun j x hj => ?_⟩
      obtain ⟨h0, h1, h2, h3, h4⟩ := hcs j x hj
      have hlt : b < w.heap.size := World.block_lt_of_cell? w ⟨b, off + j * 5, none⟩ h0
      have hc := fun o => World.cell?_of_block (w := w) (a := ⟨b, o, none⟩) (hw b (by omega))
      exact ⟨(hc _).trans h0, (hc _).trans h1, (hc _).trans h2, (hc _).trans h3, (hc _).trans h4⟩

/-- the blocks that are no new variable of the type Node (of those from B on, such with another first cell than zero) -/
def OkB (B : Nat) (w : World) (k : Nat) : Prop := k < w.heap.size ∧ (k < B ∨ w.cell? ⟨k, 0, none⟩ ≠ some (.int .i64 0))
/-- P holds in each world that agrees with w on these blocks -/
def Rob (B : Nat) (w : World) (P : World → Prop) : Prop := ∀ W : World, (∀ k, OkB B w k → W.heap[k]? = w.heap[k]?) → P W
theorem Rob.on {B : Nat} {w w' : World} {P : World → Prop} (h : Rob B w P) (hb : Below w.heap.size w w') : Rob B w' P := fun W hW => h W fun k hk => by
  have e := hb.block k hk.1
  refine (hW k ⟨Nat.lt_of_lt_of_le hk.1 hb.size, ?_⟩).trans e
  rw [World.cell?_of_block (w := w) (a := ⟨k, 0, none⟩) e]
  exact hk.2
/-- a store into such a variable -/
theorem Rob.to {B : Nat} {w W : World} {P : World → Prop} (h : Rob B w P) {b : Nat} (hB : B ≤ b) (hz : w.cell? ⟨b, 0, none⟩ = some (.int .i64 0)) (hW : ∀ k, k ≠ b → W.heap[k]? = w.heap[k]?) : P W := h W fun k hk => hW k fun e => by
  subst e
  rcases hk.2 with h1 | h1
  · omega
  · exact h1 hz
theorem Rob.and {B : Nat} {w : World} {P P2 : World → Prop} (h : Rob B w P) (h2 : Rob B w P2) : Rob B w fun W => P W ∧ P2 W := fun W hW => ⟨h W hW, h2 W hW⟩
end Go.Proofs.YtcmljjhnfpfcfaaDoor

/- Rows of the call's own of nodes that came in: 'append([]Node{}, a...)' as an operation that makes memory, and one node more. -/
namespace Go.Proofs.YtcmljjhnfpfcfaaDoor
open Go.ChangeShapes Go.WideShapes Go.ChangeAt Go.RowKit
set_option linter.unusedVariables false
set_option linter.unusedSimpArgs false
set_option maxRecDepth 100000

/-- one node more (its row stands in a block of its own; what it refers to came in) -/
theorem wpList_appK1 {ops : Array Oper} {rest : List Oper} {o : Oper} {a : Act} {Q : Exit → Act → World → Prop} {w W0 : World} (hgd : o.guard = none) (s x : Operand) (t : TypeId)
    (ho : o.op = .call { callee := .builtin .append, args := #[s, x], argTypes := #[t, t] }) (ht : Tryd.prog.underlying t = some (.slice 25))
    {base : Nat} {v : Value} {ts : List Nd} (hs : a.eval s = v) (hown : OwnK W0 w base v ts) {q : Nat} (hx : a.eval x = .slice (some ⟨q, 0, none⟩) 1 1) {y : Nd} {A' : Option Addr} {c' : Nat} {B' : Option Addr} {c2' : Nat}
    (hq : ∀ o, o < 5 → w.cell? ⟨q, o, none⟩ = (fiveC y A' c' B' c2')[o]?) (hy : NdR W0 A' c' B' c2' y) (hn : ts.length + 1 ≤ 1099511627776) (hbase : base ≤ w.heap.size)
    (h : ∀ v' w', OwnK W0 w' base v' (ts ++ [y]) → w.grownBy w' v.ownBlock → wpList Tryd.prog ops Q rest (a.put o.dst v') w') : wpList Tryd.prog ops Q (o :: rest) a w := by
  obtain ⟨i, hi', hz0, hz1, hz2⟩ := info_parts node_info
  obtain ⟨vs, h1, h2⟩ := hown
  have hlv : vs.length = ts.length * 5 := h1.1
  have hl5 : (fiveC y A' c' B' c2').length = 1 * 5 := rfl
  have hnews : ∀ j u, (fiveC y A' c' B' c2')[j]? = some u → w.cell? ((⟨q, 0, none⟩ : Addr).add j) = some u := by
    intro j u hu
    have hj : j < 5 := by
      rcases Nat.lt_or_ge j 5 with h0 | h0
      · exact h0
      · rw [List.getElem?_eq_none (by rw [hl5]; omega)] at hu; cases hu
    rw [add_plain, Nat.zero_add, hq j hj, hu]
  refine wpList_append_own _ hgd s x t ho base _ i _ 5 72 ht hi' hz0 hz1 hz2 rfl (by decide) v ts.length vs hs h1 ⟨q, 0, none⟩ 1 1 _ hx hl5 hnews (fiveC_one _ _ _ _ _) (by unfold maxLen; omega) (by omega) hbase ?_
  intro v' w' k1 k2 _
  refine h v' w' ⟨vs ++ fiveC y A' c' B' c2', by rw [List.length_append]; exact k1, fun j hj => ?_⟩ k2
  by_cases hjl : j < ts.length
  · obtain ⟨A1, c1, B1, c3, g4, g5⟩ := h2 j hjl
    rw [show (ts ++ [y])[j] = ts[j] from List.getElem_append_left hjl]
    exact ⟨A1, c1, B1, c3, g4, fun o ho => by rw [List.getElem?_append_left (by omega)]; exact g5 o ho⟩
  · rw [List.length_append] at hj
    simp only [List.length_cons, List.length_nil] at hj
    obtain rfl : j = ts.length := by omega
    have e : (ts ++ [y])[ts.length]'(by simp) = y := by simp
    rw [e]
    refine ⟨A', c', B', c2', hy, fun o ho => ?_⟩
    rw [List.getElem?_append_right (by omega), hlv]
    congr 1
    omega

theorem OwnK.below {W0 w w' : World} {base : Nat} {v : Value} {ts : List Nd} (h : OwnK W0 w base v ts) {N : Nat} (hb : Below N w w') (hN : w.heap.size ≤ N) : OwnK W0 w' base v ts := by
  obtain ⟨vs, h1, h2⟩ := h
  exact ⟨vs, ownsRow_below h1 hb hN, h2⟩
theorem OwnK.far {W0 w : World} {base : Nat} {v : Value} {ts : List Nd} (h : OwnK W0 w base v ts) {p : Addr} (hp : p.block < base) (u : Value) : OwnK W0 (w.setCell p u) base v ts := by
  obtain ⟨vs, h1, h2⟩ := h
  exact ⟨vs, ownsRow_setCell_below h1 hp u, h2⟩
end Go.Proofs.YtcmljjhnfpfcfaaDoor
