/- The texts Write (what is wanted of them), one after the other. -/
import Derived.Test.YtfigoblpkbpenaaDoorMg1
import Derived.Test.YtfigoblpkbpenaaDoorMg2
import Derived.Test.YtfigoblpkbpenaaDoorMg3
import Derived.Test.YtfigoblpkbpenaaDoorMg4
import Derived.Test.YtfigoblpkbpenaaDoorMg5
import Derived.Test.YtfigoblpkbpenaaDoorMg6
import Derived.Test.YtfigoblpkbpenaaDoorMg7
/- The canonical form of a node as a function on trees: pointers, bodies, the words of a node; their lengths. -/
namespace Go.Proofs.YtfigoblpkbpenaaDoor
open Go.ChangeShapes Go.WideShapes Go.ChangeAt Go.RowKit
set_option linter.unusedVariables false
set_option linter.unusedSimpArgs false
set_option maxRecDepth 100000

/-- bytes as n words, zeros behind -/
def padW (b : List Int) (n : Nat) : List Int := wordsOf (b ++ List.replicate (8 * n - b.length) 0)
/-- the pointer to an object whose first word lies o words behind the pointer's end -/
def ptrP (x : Nd) (o : Int) : Ptr :=
  if x.k = 1 then ⟨0, if canO x = 0 then -1 else o, ((x.d.length / 8 : Nat) : Int), x.ks.length, 0, 0, false, 0, 0, 0⟩
  else ⟨1, o, 0, 0, x.e, if x.e = 7 then canO x - 1 else x.n, false, 0, 0, 0⟩
def ptrW (x : Nd) (o : Int) : Int := if x.k = 0 then 0 else encW (ptrP x o)
/-- pointers in a row from place pos of an object on, whose targets' words begin at place nx -/
def ptrsW (pos nx : Int) : List Nd → List Int
  | [] => []
  | t :: ts => ptrW t (nx - pos - 1) :: ptrsW (pos + 1) (nx + canN t) ts
def elsW (a b : Nat) (pos nx : Int) : List Nd → List Int
  | [] => []
  | y :: ys => padW y.d a ++ (ptrsW (pos + a) nx (y.ks ++ List.replicate (b - y.ks.length) nd0) ++ elsW a b (pos + a + b) (nx + canK y.ks) ys)
def tagW (n : Int) (a b : Nat) : Int := encW ⟨0, n, a, b, 0, 0, false, 0, 0, 0⟩
/-- the words of the object alone -/
def bodyW (k e n : Int) (d : List Int) (ks : List Nd) : List Int :=
  if k = 0 then []
  else if k = 1 then wordsOf d ++ ptrsW ((d.length / 8 : Nat) : Int) (canOf k e n d ks) ks
  else if e = 7 then tagW n (uniD ks ks.length) (uniP ks ks.length) :: elsW (uniD ks ks.length) (uniP ks ks.length) 1 (canOf k e n d ks) ks
  else if e = 6 then ptrsW 0 (canOf k e n d ks) ks
  else padW d (wordsI e n).toNat
mutual
/-- the words of a node behind its pointer -/
def objW : Nd → List Int
  | .mk k e n d ks => bodyW k e n d ks ++ if k = 2 ∧ e = 7 then objG ks else objK ks
def objK : List Nd → List Int
  | [] => []
  | x :: xs => objW x ++ objK xs
def objG : List Nd → List Int
  | [] => []
  | .mk _ _ _ _ ks :: xs => objK ks ++ objG xs
end
def writeF (x : Nd) : List Int := ptrW x 0 :: objW x

theorem objK_append (a b : List Nd) : objK (a ++ b) = objK a ++ objK b := by
  induction a with
  | nil => simp [objK]
  | cons x xs ih => simp only [List.cons_append, objK, ih, List.append_assoc]
theorem objG_kk (l : List Nd) : objG l = objK (kk l) := by
  induction l with
  | nil => simp [objG, kk, objK]
  | cons x xs ih =>
    obtain ⟨k, e, n, d, ks⟩ := x
    have h : kk (.mk k e n d ks :: xs) = ks ++ kk xs := by simp [kk, Nd.ks]
    rw [h, objK_append]
    simp only [objG, ih]
def bodyN (x : Nd) : List Int := bodyW x.k x.e x.n x.d x.ks
theorem objW_eq (x : Nd) : objW x = bodyN x ++ objK (targN x) := by
  obtain ⟨k, e, n, d, ks⟩ := x
  simp only [objW, targN, bodyN, Nd.k, Nd.e, Nd.n, Nd.d, Nd.ks]
  by_cases h : k = 2 ∧ e = 7
  · rw [if_pos h, if_pos h, objG_kk]
  · rw [if_neg h, if_neg h]
theorem objK_take (l : List Nd) (j : Nat) (h : j < l.length) : objK (l.take (j + 1)) = objK (l.take j) ++ objW l[j] := by
  rw [List.take_succ_eq_append_getElem h, objK_append]
  simp [objK]
theorem objK_nulls (ts : List Nd) (q : Nat) : objK (ts ++ List.replicate q nd0) = objK ts := by
  rw [objK_append]
  have : ∀ q, objK (List.replicate q nd0) = [] := by
    intro q
    induction q with
    | zero => rfl
    | succ q ih => rw [List.replicate_succ]; show objW nd0 ++ objK (List.replicate q nd0) = []; rw [ih]; rfl
  rw [this, List.append_nil]

/-! ## Lengths -/
theorem padW_length {b : List Int} {n : Nat} (h : b.length ≤ 8 * n) : (padW b n).length = n := by
  rw [padW, wordsOf_length, List.length_append, List.length_replicate]
  omega
theorem ptrsW_length : ∀ (ts : List Nd) (pos nx : Int), (ptrsW pos nx ts).length = ts.length
  | [], _, _ => rfl
  | t :: ts, pos, nx => by simp only [ptrsW, List.length_cons, ptrsW_length ts]
theorem elsW_length (a b : Nat) : ∀ (ys : List Nd) (pos nx : Int), (∀ y ∈ ys, y.d.length ≤ 8 * a ∧ y.ks.length ≤ b) → (elsW a b pos nx ys).length = ys.length * (a + b)
  | [], _, _, _ => by simp [elsW]
  | y :: ys, pos, nx, h => by
    have h1 := h y (List.mem_cons_self ..)
    have ih := elsW_length a b ys (pos + a + b) (nx + canK y.ks) (fun z hz => h z (List.mem_cons_of_mem _ hz))
    simp only [elsW, List.length_append, padW_length h1.1, ptrsW_length, List.length_replicate, ih, List.length_cons]
    rw [Nat.add_mul]
    omega
/-- the elements of a composite list fit its uniform size -/
theorem comp_fit {n : Int} {d : List Int} {ks : List Nd} (h : validN (.mk 2 7 n d ks) = true) : ∀ y ∈ ks, y.d.length ≤ 8 * uniD ks ks.length ∧ y.ks.length ≤ uniP ks ks.length := by
  intro y hy
  obtain ⟨j, hj, rfl⟩ := List.getElem_of_mem hy
  refine ⟨uniD_covers ks (fun z hz => ?_) _ (Nat.le_refl _) j hj hj, uniP_covers ks _ (Nat.le_refl _) j hj hj⟩
  obtain ⟨hv, -⟩ := valid_mem h hz
  have hk := (valid_elem h hz).1
  obtain ⟨k', e', n', d', ks'⟩ := z
  simp only [validN, Bool.and_eq_true] at hv
  have h2 := hv.2
  simp only [Nd.k] at hk
  subst hk
  unfold headB at h2
  rw [if_neg (by omega), if_pos rfl, decide_eq_true_iff] at h2
  exact h2.2.2.1
theorem head_str {e n : Int} {d : List Int} {ks : List Nd} (h : validN (.mk 1 e n d ks) = true) : e = 0 ∧ n = 0 ∧ d.length % 8 = 0 ∧ d.length ≤ 524280 ∧ ks.length ≤ 65535 := by
  simp only [validN, Bool.and_eq_true] at h
  have h2 := h.2
  unfold headB at h2
  rw [if_neg (by omega), if_pos rfl, decide_eq_true_iff] at h2
  exact h2
theorem head_lst {e n : Int} {d : List Int} {ks : List Nd} (h : validN (.mk 2 e n d ks) = true) : 0 ≤ n ∧ n ≤ 536870911 ∧ 0 ≤ e ∧ e ≤ 7 ∧ (6 ≤ e → d.length = 0 ∧ (ks.length : Int) = n) ∧ (e < 6 → ks.length = 0 ∧ (d.length : Int) = bytesI e n ∧ trimL d e n = d) := by
  simp only [validN, Bool.and_eq_true] at h
  have h2 := h.2
  unfold headB at h2
  rw [if_neg (by omega), if_neg (by omega), if_pos rfl, decide_eq_true_iff] at h2
  exact h2
theorem head_nul {e n : Int} {d : List Int} {ks : List Nd} (h : validN (.mk 0 e n d ks) = true) : Nd.mk 0 e n d ks = nd0 := by
  simp only [validN, Bool.and_eq_true] at h
  have h2 := h.2
  unfold headB at h2
  rw [if_pos rfl, decide_eq_true_iff] at h2
  obtain ⟨rfl, rfl, h3, h4⟩ := h2
  rw [List.eq_nil_of_length_eq_zero h3, List.eq_nil_of_length_eq_zero h4]
  rfl
theorem body_length {x : Nd} (h : validN x = true) : ((bodyN x).length : Int) = canO x := by
  obtain ⟨k, e, n, d, ks⟩ := x
  have hk := valid_k h
  simp only [Nd.k] at hk
  simp only [bodyN, canO, Nd.k, Nd.e, Nd.n, Nd.d, Nd.ks]
  rcases hk with rfl | rfl | rfl
  · simp [bodyW, canOf]
  · simp only [bodyW, if_neg (show ¬ ((1 : Int) = 0) by omega), if_pos]
    rw [List.length_append, wordsOf_length, ptrsW_length]
    simp [canOf]
  · obtain ⟨g1, g2, g3, g4, g5, g6⟩ := head_lst h
    simp only [bodyW, if_neg (show ¬ ((2 : Int) = 0) by omega), if_neg (show ¬ ((2 : Int) = 1) by omega)]
    by_cases h7 : e = 7
    · subst h7
      rw [if_pos rfl, List.length_cons, elsW_length _ _ _ _ _ (comp_fit h)]
      simp only [canOf, if_neg (show ¬ ((2 : Int) = 0) by omega), if_neg (show ¬ ((2 : Int) = 1) by omega), if_pos]
      rw [← (g5 (by omega)).2]
      simp
      omega
    · rw [if_neg h7]
      simp only [canOf, if_neg (show ¬ ((2 : Int) = 0) by omega), if_neg (show ¬ ((2 : Int) = 1) by omega), if_neg h7]
      by_cases h6 : e = 6
      · subst h6
        rw [if_pos rfl, ptrsW_length, (g5 (by omega)).2]
        simp [wordsI, bitsI]
        omega
      · rw [if_neg h6]
        obtain ⟨g7, g8, -⟩ := g6 (by omega)
        have hb := bitsI_mul e n g1
        have hw : wordsI e n = (bitsI e * n + 63) / 64 := by unfold wordsI; rw [if_neg h7]
        have hB : bytesI e n = (bitsI e * n + 7) / 8 := rfl
        rw [padW_length (by omega)]
        omega
theorem objK_length {l : List Nd} (h : ∀ y ∈ l, ((objW y).length : Int) = canN y) : ((objK l).length : Int) = canK l := by
  induction l with
  | nil => simp [objK, canK]
  | cons y ys ih =>
    have h1 := h y (List.mem_cons_self ..)
    have h2 := ih (fun z hz => h z (List.mem_cons_of_mem _ hz))
    simp only [objK, canK, List.length_append]
    omega
theorem objW_length : ∀ x : Nd, validN x = true → ((objW x).length : Int) = canN x := size_ind (by
  intro x ih h
  have h1 := body_length h
  have h2 := objK_length (l := targN x) (fun y hy => ih y (targ_lt hy) (valid_targ h y hy))
  rw [objW_eq, canN_eq, List.length_append]
  omega)
theorem writeF_length {x : Nd} (h : validN x = true) : ((writeF x).length : Int) = canN x + 1 := by
  rw [writeF, List.length_cons, ← objW_length x h]
  simp

/-! ## Words are words -/
mutual
/-- all data are bytes -/
def bytN : Nd → Prop
  | .mk _ _ _ d ks => Bts d ∧ bytK ks
def bytK : List Nd → Prop
  | [] => True
  | x :: xs => bytN x ∧ bytK xs
end
theorem bytK_mem {l : List Nd} (h : bytK l) : ∀ y ∈ l, bytN y := by
  induction l with
  | nil => intro y hy; cases hy
  | cons x xs ih =>
    simp only [bytK] at h
    intro y hy
    rcases List.mem_cons.1 hy with rfl | hy
    · exact h.1
    · exact ih h.2 y hy
theorem bytK_of {l : List Nd} (h : ∀ y ∈ l, bytN y) : bytK l := by
  induction l with
  | nil => simp [bytK]
  | cons x xs ih => simp only [bytK]; exact ⟨h x (List.mem_cons_self ..), ih (fun y hy => h y (List.mem_cons_of_mem _ hy))⟩
theorem bytN_d {x : Nd} (h : bytN x) : Bts x.d := by
  obtain ⟨k, e, n, d, ks⟩ := x
  exact (by simpa only [bytN] using h : Bts d ∧ bytK ks).1
theorem bytN_ks {x : Nd} (h : bytN x) : ∀ y ∈ x.ks, bytN y := by
  obtain ⟨k, e, n, d, ks⟩ := x
  exact bytK_mem (by simpa only [bytN] using h : Bts d ∧ bytK ks).2
theorem bytN_targ {x : Nd} (h : bytN x) : ∀ y ∈ targN x, bytN y := by
  intro y hy
  have hk := bytN_ks h
  obtain ⟨k, e, n, d, ks⟩ := x
  rw [targN_mk] at hy
  split at hy
  · obtain ⟨z, hz, hyz⟩ := List.mem_flatMap.1 hy
    exact bytN_ks (hk z hz) y hyz
  · exact hk y hy
theorem NdR.byt {w : World} {A : Option Addr} {c : Nat} {B : Option Addr} {c2 : Nat} {x : Nd} (h : NdR w A c B c2 x) : bytN x := by
  induction h with
  | mk k e n d ks A c B c2 FA Fc FB Fc2 hk he hn hd hby hdl hc hA hkl hc2 hB hcell hsub ih =>
    simp only [bytN]
    refine ⟨hby, bytK_of fun y hy => ?_⟩
    obtain ⟨j, hj, rfl⟩ := List.getElem_of_mem hy
    exact ih j _ (List.getElem?_eq_getElem hj)
end Go.Proofs.YtfigoblpkbpenaaDoor
