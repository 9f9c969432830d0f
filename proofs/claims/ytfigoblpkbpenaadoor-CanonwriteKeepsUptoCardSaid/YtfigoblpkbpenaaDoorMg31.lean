/- The texts WriN, WriC (what is wanted of them), one after the other. -/
import Derived.Test.YtfigoblpkbpenaaDoorMg1
import Derived.Test.YtfigoblpkbpenaaDoorMg2
import Derived.Test.YtfigoblpkbpenaaDoorMg3
import Derived.Test.YtfigoblpkbpenaaDoorMg4
import Derived.Test.YtfigoblpkbpenaaDoorMg5
import Derived.Test.YtfigoblpkbpenaaDoorMg6
import Derived.Test.YtfigoblpkbpenaaDoorMg7
import Derived.Test.YtfigoblpkbpenaaDoorMg8
import Derived.Test.YtfigoblpkbpenaaDoorMg9
import Derived.Test.YtfigoblpkbpenaaDoorMg10
import Derived.Test.YtfigoblpkbpenaaDoorMg11
import Derived.Test.YtfigoblpkbpenaaDoorMg12
import Derived.Test.YtfigoblpkbpenaaDoorMg13
import Derived.Test.YtfigoblpkbpenaaDoorMg14
import Derived.Test.YtfigoblpkbpenaaDoorMg15
import Derived.Test.YtfigoblpkbpenaaDoorMg16
import Derived.Test.YtfigoblpkbpenaaDoorMg17
import Derived.Test.YtfigoblpkbpenaaDoorMg18
import Derived.Test.YtfigoblpkbpenaaDoorMg19
import Derived.Test.YtfigoblpkbpenaaDoorMg20
import Derived.Test.YtfigoblpkbpenaaDoorMg21
import Derived.Test.YtfigoblpkbpenaaDoorMg22
import Derived.Test.YtfigoblpkbpenaaDoorMg23
import Derived.Test.YtfigoblpkbpenaaDoorMg24
import Derived.Test.YtfigoblpkbpenaaDoorMg26
import Derived.Test.YtfigoblpkbpenaaDoorMg27
import Derived.Test.YtfigoblpkbpenaaDoorMg28
import Derived.Test.YtfigoblpkbpenaaDoorMg29
import Derived.Test.YtfigoblpkbpenaaDoorMg30
import Derived.Lib.SliceRun
/- Writing a node at a place: the words as they grow when the kids are placed one after the other. -/
namespace Go.Proofs.YtfigoblpkbpenaaDoor
open Go.ChangeShapes Go.WideShapes Go.ChangeAt Go.RowKit
set_option linter.unusedVariables false
set_option linter.unusedSimpArgs false
set_option maxRecDepth 100000

/-- kids placed one after the other, their pointers from a on -/
def placeK (ws : List Int) (a : Nat) : List Nd → List Int
  | [] => ws
  | t :: ts => placeK (placeF ws a t) (a + 1) ts
theorem placeK_snoc : ∀ (l : List Nd) (ws : List Int) (a : Nat) (t : Nd), placeK ws a (l ++ [t]) = placeF (placeK ws a l) (a + l.length) t
  | [], ws, a, t => rfl
  | x :: xs, ws, a, t => by
    simp only [List.cons_append, placeK, placeK_snoc xs, List.length_cons]
    congr 1
    omega
theorem placeK_take (ws : List Int) (a : Nat) (l : List Nd) (j : Nat) (h : j < l.length) : placeK ws a (l.take (j + 1)) = placeF (placeK ws a (l.take j)) (a + j) l[j] := by
  rw [List.take_succ_eq_append_getElem h, placeK_snoc, List.length_take]
  congr 1
  omega
theorem placeF_length {x : Nd} (hv : validN x = true) (ws : List Int) (a : Nat) : ((placeF ws a x).length : Int) = ws.length + canN x := by
  unfold placeF
  rw [List.length_append, List.length_set, ← objW_length x hv]
  omega
theorem placeK_length : ∀ (l : List Nd) (ws : List Int) (a : Nat), (∀ y ∈ l, validN y = true) → ((placeK ws a l).length : Int) = ws.length + canK l
  | [], ws, a, _ => by simp [placeK, canK]
  | t :: ts, ws, a, h => by
    have h1 := placeF_length (h t (List.mem_cons_self ..)) ws a
    have h2 := placeK_length ts (placeF ws a t) (a + 1) (fun y hy => h y (List.mem_cons_of_mem _ hy))
    simp only [placeK, canK]
    omega
/-- targets whose pointers lie side by side -/
theorem placeK_out {x : Nd} (hv : validN x = true) (ws : List Int) (a : Nat) : ∀ (ts : List Nd) (i p : Nat), (∀ j (hj : j < ts.length), (targN x)[i + j]? = some ts[j] ∧ (posL x).getD (i + j) 0 = p + j) →
    placeK (outF ws a x i) (ws.length + p) ts = outF ws a x (i + ts.length)
  | [], i, p, _ => rfl
  | t :: ts, i, p, h => by
    obtain ⟨h1, h2⟩ := h 0 (by simp)
    have hi : i < (targN x).length := (List.getElem?_eq_some_iff.1 h1).1
    obtain ⟨-, -, h3⟩ := outF_step hv ws a i hi
    have h4 : (targN x)[i] = t := by
      have := List.getElem?_eq_getElem hi
      rw [Nat.add_zero] at h1
      rw [h1] at this
      simpa using this.symm
    simp only [Nat.add_zero] at h2
    rw [h4, h2] at h3
    simp only [placeK]
    rw [h3, Nat.add_assoc, placeK_out hv ws a ts (i + 1) (p + 1) (fun j hj => ?_)]
    · simp only [List.length_cons]
      congr 1
      omega
    · have := h (j + 1) (by simpa using hj)
      rw [show i + 1 + j = i + (j + 1) by omega]
      simp only [List.getElem_cons_succ] at this
      exact ⟨this.1, by rw [this.2]; omega⟩
theorem outF_zero (ws : List Int) (a : Nat) (x : Nd) : outF ws a x 0 = ws.set a (ptrW x ((ws.length : Int) - a - 1)) ++ fillW x 0 := by
  unfold outF
  simp [objK]
/-- an object that is neither null nor composite: its data, room for its pointers -/
theorem plain_start {x : Nd} (hv : validN x = true) (hk : x.k ≠ 0) (h7 : ¬ (x.k = 2 ∧ x.e = 7)) :
    fillW x 0 = padW x.d ((x.d.length + 7) / 8) ++ List.replicate x.ks.length 0 ∧ targN x = x.ks ∧ ∀ j, j < x.ks.length → (posL x).getD j 0 = (x.d.length + 7) / 8 + j := by
  obtain ⟨k, e, n, d, ks⟩ := x
  have hkk := valid_k hv
  simp only [Nd.k, Nd.e, Nd.d, Nd.ks] at hkk hk h7 ⊢
  have hT : targN (.mk k e n d ks) = ks := by rw [targN_mk, if_neg h7]
  refine ⟨?_, hT, ?_⟩
  · unfold fillW
    rw [List.take_zero, List.nil_append, Nat.sub_zero, hT]
    rcases hkk with rfl | rfl | rfl
    · exact absurd rfl hk
    · obtain ⟨-, -, h8, -, -⟩ := head_str hv
      show wordsOf d ++ _ = _
      have e : (d.length + 7) / 8 = d.length / 8 := by omega
      rw [e, padW_len8 h8]
    · obtain ⟨g1, g2, g3, g4, g5, g6⟩ := head_lst hv
      have h7' : e ≠ 7 := fun h => h7 ⟨rfl, h⟩
      show bodyPW 2 e n d ks _ = _
      rw [bodyPW_2 h7']
      by_cases h6 : e = 6
      · subst h6
        obtain ⟨g7, -⟩ := g5 (by omega)
        rw [if_pos rfl, List.eq_nil_of_length_eq_zero g7]
        rfl
      · rw [if_neg h6]
        obtain ⟨g7, g8, -⟩ := g6 (by omega)
        rw [g7, List.replicate_zero, List.append_nil]
        congr 1
        have hb := bitsI_mul e n g1
        have hw : wordsI e n = (bitsI e * n + 63) / 64 := by unfold wordsI; rw [if_neg h7']
        have hB : bytesI e n = (bitsI e * n + 7) / 8 := rfl
        omega
  · intro j hj
    rcases hkk with rfl | rfl | rfl
    · exact absurd rfl hk
    · obtain ⟨-, -, h8, -, -⟩ := head_str hv
      have hP : posL (.mk 1 e n d ks) = (List.range ks.length).map (fun i => d.length / 8 + i) := rfl
      rw [hP, nat_getD_map _ _ _ hj]
      omega
    · obtain ⟨-, -, -, g4, g5, g6⟩ := head_lst hv
      have h7' : e ≠ 7 := fun h => h7 ⟨rfl, h⟩
      have hP : posL (.mk 2 e n d ks) = (List.range ks.length).map (fun i => 0 + i) := by
        show (if (2 : Int) = 1 then _ else if e = 7 then _ else _) = _
        rw [if_neg (by decide), if_neg h7']
        rfl
      rw [hP, nat_getD_map _ _ _ hj]
      by_cases h6 : e < 6
      · have := (g6 h6).1; omega
      · have := (g5 (by omega)).1; omega
theorem plain_place {x : Nd} (hv : validN x = true) (hk : x.k ≠ 0) (h7 : ¬ (x.k = 2 ∧ x.e = 7)) (ws : List Int) (a : Nat) :
    placeK ((ws.set a (ptrW x ((ws.length : Int) - a - 1)) ++ padW x.d ((x.d.length + 7) / 8)) ++ List.replicate x.ks.length 0) (ws.length + (x.d.length + 7) / 8) x.ks = placeF ws a x := by
  obtain ⟨h1, h2, h3⟩ := plain_start hv hk h7
  have h0 := placeK_out hv ws a x.ks 0 ((x.d.length + 7) / 8) (fun j hj => ⟨by rw [Nat.zero_add, h2]; exact List.getElem?_eq_getElem hj, by rw [Nat.zero_add]; exact h3 j hj⟩)
  rw [outF_zero, h1, ← List.append_assoc, Nat.zero_add] at h0
  rw [h0, ← outF_all hv ws a, h2]

/-! ## Composite lists -/
theorem posE_getD (a b : Nat) : ∀ (ys : List Nd) (s i : Nat) (hi : i < ys.length) (j : Nat), j < (ys[i]).ks.length → (posE a b s ys).getD ((kk (ys.take i)).length + j) 0 = s + i * (a + b) + a + j
  | [], _, i, hi, _, _ => by simp at hi
  | y :: ys, s, 0, _, j, hj => by
    simp only [List.take_zero, List.getElem_cons_zero] at hj ⊢
    simp only [posE]
    rw [show (kk ([] : List Nd)).length + j = j by simp [kk]]
    rw [getD_append_l _ _ _ (by simpa using hj), nat_getD_map _ _ _ hj]
    omega
  | y :: ys, s, i + 1, hi, j, hj => by
    have hi' : i < ys.length := by simpa using hi
    have ih := posE_getD a b ys (s + a + b) i hi' j (by simpa using hj)
    have hk : (kk ((y :: ys).take (i + 1))).length = y.ks.length + (kk (ys.take i)).length := by
      have : kk ((y :: ys).take (i + 1)) = y.ks ++ kk (ys.take i) := by simp [kk]
      rw [this, List.length_append]
    simp only [posE]
    rw [hk, getD_append_r _ _ _ (by simp; omega)]
    rw [show y.ks.length + (kk (ys.take i)).length + j - ((List.range y.ks.length).map (fun i => s + a + i)).length = (kk (ys.take i)).length + j by simp; omega, ih, Nat.add_mul]
    omega
theorem kk_get (ys : List Nd) (i : Nat) (hi : i < ys.length) (j : Nat) (hj : j < (ys[i]).ks.length) : (kk ys)[(kk (ys.take i)).length + j]? = some (ys[i]).ks[j] := by
  have h0 : kk ys = kk (ys.take i) ++ kk (ys.drop i) := by rw [← kk_append, List.take_append_drop]
  rw [h0, List.getElem?_append_right (by omega), Nat.add_sub_cancel_left, List.drop_eq_getElem_cons hi]
  have : kk (ys[i] :: ys.drop (i + 1)) = (ys[i]).ks ++ kk (ys.drop (i + 1)) := by unfold kk; rw [List.flatMap_cons]
  rw [this, List.getElem?_append_left hj]
  exact List.getElem?_eq_getElem hj
/-- the words when the elements' words stand, and the pointers of the first i elements -/
def compG (ws : List Int) (a : Nat) (x : Nd) (i : Nat) : List Int := outF ws a x (kk (x.ks.take i)).length
theorem comp_start {n : Int} {d : List Int} {ks : List Nd} (hv : validN (.mk 2 7 n d ks) = true) (ws : List Int) (a : Nat) :
    (ws.set a (ptrW (.mk 2 7 n d ks) ((ws.length : Int) - a - 1)) ++ [tagW n (uniD ks ks.length) (uniP ks ks.length)]) ++ elsO (uniD ks ks.length) (uniP ks ks.length) ks = compG ws a (.mk 2 7 n d ks) 0 := by
  unfold compG
  rw [show (kk ((Nd.mk 2 7 n d ks).ks.take 0)).length = 0 by simp [kk], outF_zero, fillW_cmp hv]
  simp
theorem comp_step {n : Int} {d : List Int} {ks : List Nd} (hv : validN (.mk 2 7 n d ks) = true) (ws : List Int) (a i : Nat) (hi : i < ks.length) :
    placeK (compG ws a (.mk 2 7 n d ks) i) (ws.length + 1 + i * (uniD ks ks.length + uniP ks ks.length) + uniD ks ks.length) (ks[i]).ks = compG ws a (.mk 2 7 n d ks) (i + 1) := by
  have hT : targN (.mk 2 7 n d ks) = kk ks := by rw [targN_mk, if_pos ⟨rfl, rfl⟩]
  have hP : posL (.mk 2 7 n d ks) = posE (uniD ks ks.length) (uniP ks ks.length) 1 ks := rfl
  have h := placeK_out hv ws a (ks[i]).ks (kk (ks.take i)).length (1 + i * (uniD ks ks.length + uniP ks ks.length) + uniD ks ks.length) (fun j hj => ⟨by rw [hT]; exact kk_get ks i hi j hj, by rw [hP]; exact posE_getD _ _ ks 1 i hi j hj⟩)
  show placeK (outF ws a (.mk 2 7 n d ks) (kk (ks.take i)).length) _ (ks[i]).ks = outF ws a (.mk 2 7 n d ks) (kk (ks.take (i + 1))).length
  rw [show ws.length + 1 + i * (uniD ks ks.length + uniP ks ks.length) + uniD ks ks.length = ws.length + (1 + i * (uniD ks ks.length + uniP ks ks.length) + uniD ks ks.length) by omega, h]
  congr 1
  rw [kk_take ks i hi, List.length_append]
theorem comp_end {n : Int} {d : List Int} {ks : List Nd} (hv : validN (.mk 2 7 n d ks) = true) (ws : List Int) (a : Nat) : compG ws a (.mk 2 7 n d ks) ks.length = placeF ws a (.mk 2 7 n d ks) := by
  have hT : targN (.mk 2 7 n d ks) = kk ks := by rw [targN_mk, if_pos ⟨rfl, rfl⟩]
  rw [← outF_all hv ws a, hT]
  unfold compG
  simp only [Nd.ks]
  rw [List.take_length]
theorem compG_length {n : Int} {d : List Int} {ks : List Nd} (hv : validN (.mk 2 7 n d ks) = true) (ws : List Int) (a i : Nat) (hi : i ≤ ks.length) : ((compG ws a (.mk 2 7 n d ks) i).length : Int) = ws.length + canO (.mk 2 7 n d ks) + canK (kk (ks.take i)) := by
  have hT : targN (.mk 2 7 n d ks) = kk ks := by rw [targN_mk, if_pos ⟨rfl, rfl⟩]
  have h0 : kk ks = kk (ks.take i) ++ kk (ks.drop i) := by rw [← kk_append, List.take_append_drop]
  have h1 : (kk (ks.take i)).length ≤ (targN (.mk 2 7 n d ks)).length := by rw [hT, h0, List.length_append]; omega
  unfold compG
  simp only [Nd.ks]
  rw [outF_length hv ws a _ h1, hT, h0, List.take_left' rfl]
theorem comp_canO {n : Int} {d : List Int} {ks : List Nd} (hv : validN (.mk 2 7 n d ks) = true) : canO (.mk 2 7 n d ks) = 1 + ((ks.length * (uniD ks ks.length + uniP ks ks.length) : Nat) : Int) := by
  obtain ⟨-, -, -, -, g5, -⟩ := head_lst hv
  show canOf 2 7 n d ks = _
  unfold canOf
  rw [if_neg (show ¬ ((2 : Int) = 0) by decide), if_neg (show ¬ ((2 : Int) = 1) by decide), if_pos rfl, ← (g5 (by decide)).2, Int.natCast_mul]
/-- the elements' words, element by element -/
theorem elsO_take (a b : Nat) (ks : List Nd) (i : Nat) (hi : i < ks.length) : elsO a b (ks.take (i + 1)) = elsO a b (ks.take i) ++ (padW (ks[i]).d a ++ List.replicate b 0) := by
  rw [List.take_succ_eq_append_getElem hi, elsO_snoc]
/-- an element's words: its data, then zeros -/
theorem elem_words {d : List Int} {a b : Nat} (h8 : d.length % 8 = 0) (hd : d.length ≤ 8 * a) : padW d ((d.length + 7) / 8) ++ List.replicate (a + b - d.length / 8) 0 = padW d a ++ List.replicate b 0 := by
  have e : (d.length + 7) / 8 = d.length / 8 := by omega
  have e2 : padW d a = wordsOf d ++ List.replicate (a - d.length / 8) 0 := by
    have hl : (padW d a).length = a := padW_length hd
    apply ext_zat
    · rw [hl, List.length_append, wordsOf_length, List.length_replicate]; omega
    · intro i hi
      rw [hl] at hi
      by_cases h : i < d.length / 8
      · rw [zat_append_left _ _ _ (by rw [wordsOf_length]; exact h), wordsOf_zat _ _ h]
        unfold padW
        rw [wordsOf_zat _ _ (by rw [List.length_append, List.length_replicate]; omega)]
        unfold wordAt
        refine leF_congr 8 (fun j hj => ?_)
        exact zat_append_left _ _ _ (by omega)
      · rw [zat_append_right _ _ _ (by rw [wordsOf_length]; omega), zat_replicate]
        unfold padW
        rw [wordsOf_zat _ _ (by rw [List.length_append, List.length_replicate]; omega)]
        unfold wordAt
        rw [leF_congr (y := fun _ => 0) 8 (fun j hj => by rw [zat_append_right _ _ _ (by omega), zat_replicate])]
        rfl
  rw [e, padW_len8 h8, e2, List.append_assoc, List.replicate_append_replicate]
  congr 2
  omega
end Go.Proofs.YtfigoblpkbpenaaDoor

/- Package canonwrite: the kids of an object, one after the other. -/
namespace Go.Proofs.YtfigoblpkbpenaaDoor
open Go.ChangeShapes Go.WideShapes Go.ChangeAt Go.RowKit
set_option linter.unusedVariables false
set_option linter.unusedSimpArgs false
set_option maxRecDepth 100000
attribute [local simp] AllK KnowsV look Is

/-- the nodes ks, that lay in w0, stand one after the other at B, in a block that the writer doesn't write -/
def ReadS (w0 w : World) (wb q : Nat) (B : Option Addr) (ks : List Nd) : Prop :=
  ∀ j (hj : j < ks.length), ∃ b off A' c' B' c2', B = some ⟨b, off, none⟩ ∧ ¬ KS wb q b ∧ b < w.heap.size ∧ w.cell? ⟨b, off + j * 5, none⟩ = some (.int .i64 (ks[j]).k) ∧ w.cell? ⟨b, off + j * 5 + 1, none⟩ = some (.int .i64 (ks[j]).e) ∧ w.cell? ⟨b, off + j * 5 + 2, none⟩ = some (.int .i64 (ks[j]).n) ∧
    w.cell? ⟨b, off + j * 5 + 3, none⟩ = some (.slice A' (ks[j]).d.length c') ∧ w.cell? ⟨b, off + j * 5 + 4, none⟩ = some (.slice B' (ks[j]).ks.length c2') ∧ NdR w0 A' c' B' c2' ks[j]
theorem ReadS.keeps {w0 w w' : World} {wb q : Nat} {B : Option Addr} {ks : List Nd} (h : ReadS w0 w wb q B ks) (hk : Keeps (KS wb q) w w') : ReadS w0 w' wb q B ks := by
  intro j hj
  obtain ⟨b, off, A', c', B', c2', hB, hne, hb, h0, h1, h2, h3, h4, h5⟩ := h j hj
  have hc : ∀ o, w'.cell? ⟨b, o, none⟩ = w.cell? ⟨b, o, none⟩ := fun o => World.cell?_of_block (hk.block b hb (fun e => hne e))
  exact ⟨b, off, A', c', B', c2', hB, hne, Nat.lt_of_lt_of_le hb hk.size, (hc _).trans h0, (hc _).trans h1, (hc _).trans h2, (hc _).trans h3, (hc _).trans h4, h5⟩
theorem ReadS.of_ks {w0 w : World} {wb q : Nat} {B : Option Addr} {ks : List Nd} (h : KsR w0 B ks) (hb : Below w0.heap.size w0 w) (h1 : w0.heap.size ≤ wb) (h2 : w0.heap.size ≤ q) : ReadS w0 w wb q B ks := by
  intro j hj
  obtain ⟨b, off, A', c', B', c2', hB, k0, k1, k2, k3, k4, k5⟩ := h.at hj
  have hlt : b < w0.heap.size := World.block_lt_of_cell? w0 ⟨b, off + j * 5, none⟩ k0
  have hc := fun o => hb.cell (p := ⟨b, o, none⟩) (by show b < w0.heap.size; omega)
  exact ⟨b, off, A', c', B', c2', hB, by unfold KS; omega, by have := hb.size; omega, (hc _).trans k0, (hc _).trans k1, (hc _).trans k2, (hc _).trans k3, (hc _).trans k4, k5⟩

/-- a node's pointer is set and its object written -/
def DispC (w0 : World) (wb q cap : Nat) (y : Nd) : Prop :=
  ∀ (cur : List Int) (a : Nat) (A : Option Addr) (c : Nat) (B : Option Addr) (c2 : Nat) (w : World), NdR w0 A c B c2 y → a < cur.length → (cur.length : Int) + canN y ≤ cap → Wr w wb q cap w0.heap.size cur → Below w0.heap.size w0 w →
    Calls Tryd.prog 29 #[.pointer (some ⟨wb, 0, none⟩), .int .i64 a, .agg #[.int .i64 y.k, .int .i64 y.e, .int .i64 y.n, .slice A y.d.length c, .slice B y.ks.length c2]] w fun r w' => r = .returned (.tuple #[]) ∧ Keeps (KS wb q) w w' ∧ Wr w' wb q cap w0.heap.size (placeF cur a y)

set_option maxHeartbeats 4000000 in
theorem Wrefer_any (w0 : World) (wb q cap : Nat) (hwb : w0.heap.size ≤ wb) (hq : w0.heap.size ≤ q) (hcap : cap ≤ 268435456) (ks : List Nd) (hD : ∀ y ∈ ks, DispC w0 wb q cap y) (hv : ∀ y ∈ ks, validN y = true) (cur : List Int) (a : Nat) (B : Option Addr) (c : Nat) (w : World) (hc : ks.length ≤ c)
    (hr : ReadS w0 w wb q B ks) (ha : a + ks.length ≤ cur.length) (hroom : (cur.length : Int) + canK ks ≤ cap) (h : Wr w wb q cap w0.heap.size cur) (hb : Below w0.heap.size w0 w) :
    Calls Tryd.prog 18 #[.pointer (some ⟨wb, 0, none⟩), .int .i64 a, .slice B ks.length c] w fun r w' => r = .returned (.tuple #[]) ∧ Keeps (KS wb q) w w' ∧ Wr w' wb q cap w0.heap.size (placeK cur a ks) := by
  have HD := Lib.hid hD
  have HRD := Lib.hid hr
  have HSZ := hb.size
  have HW := Lib.hid (fun (W : World) (h : Keeps (KS wb q) w W) => hb.trans (ks_below h HSZ hwb hq))
  have HTK := Lib.hid (canK_tk hv)
  have hckk := (canK_tk hv 0)
  have hckl : (ks.length : Int) ≤ 1099511627776 := by have h1 := h.q; omega
  have HLEN := Lib.hid (fun j => placeK_length (ks.take j) cur a (fun y hy => hv y (List.mem_of_mem_take hy)))
  have HST := Lib.hid (fun j hj => placeK_take cur a ks j hj)
  have HCK := Lib.hid (fun j hj => canK_take ks j hj)
  have HW0 : Hid (Wr w wb q cap w0.heap.size (placeK cur a (ks.take 0))) := Lib.hid (by simpa [placeK] using h)
  have hcl : cur.length ≤ 268435456 := by have := h.q; omega
  have HRM := Lib.hid hroom
  clear hD hv hr h hb HSZ hckk hroom
  go_enter Tryd.func18, Tryd.ntmps18
  go_wp2
  go_loopw [10] (fun i wr => ∃ j : Nat, j ≤ ks.length ∧ i = .int .i64 j ∧ Wr wr wb q cap w0.heap.size (placeK cur a (ks.take j)) ∧ Keeps (KS wb q) w wr) (fun i _ => ks.length - (intOf i).toNat)
  case atStart => exact ⟨0, by omega, rfl, HW0.out, Keeps.refl _ _⟩
  case round =>
    clear HW0
    obtain ⟨j, hj, rfl, hw, hk⟩ := hrel
    by_cases hlt : j < ks.length
    · have hlt' : (j : Int) < (ks.length : Int) := by omega
      obtain ⟨b, off, A', c', B', c2', rfl, hne, hbl, k0, k1, k2, k3, k4, hnd⟩ := (HRD.out.keeps hk) j hlt
      have HDJ := Lib.hid (HD.out ks[j] (List.getElem_mem hlt))
      have HSJ : Hid (placeK cur a (ks.take (j + 1)) = placeF (placeK cur a (ks.take j)) (a + j) ks[j]) := Lib.hid (HST.out j hlt)
      have HRJ : Hid (((placeK cur a (ks.take j)).length : Int) + canN ks[j] ≤ cap ∧ a + j < (placeK cur a (ks.take j)).length) := Lib.hid (by
        have h1 := HLEN.out j
        have h2 := HCK.out j hlt
        have h3 := HTK.out (j + 1)
        have h4 := HTK.out j
        have h5 := HRM.out
        omega)
      obtain ⟨nx, hnx⟩ : ∃ nx, placeK cur a (ks.take (j + 1)) = nx := ⟨_, rfl⟩
      have HNX := Lib.hid hnx
      rw [hnx] at HSJ
      clear hnx
      generalize placeK cur a (ks.take j) = cu at *
      generalize ks[j] = y at *
      have HW1 := Lib.hid (hw.alloc (.cells #[.int .i64 y.k, .int .i64 y.e, .int .i64 y.n, .slice A' y.d.length c', .slice B' y.ks.length c2'] 25))
      have HK1 := Lib.hid (ks_alloc hk (.cells #[.int .i64 y.k, .int .i64 y.e, .int .i64 y.n, .slice A' y.d.length c', .slice B' y.ks.length c2'] 25))
      have HND := Lib.hid hnd
      clear hw hk hnd
      go_wp2_with fail
      have hI : (a : Int) + (j : Int) = ((a + j : Nat) : Int) := by omega
      rw [hI]
      refine (HDJ.out cu (a + j) A' c' B' c2' _ HND.out HRJ.out.2 HRJ.out.1 HW1.out (HW.out _ HK1.out)).mono ?_
      rintro r w2 ⟨rfl, hk2, hw2⟩
      have HK2 := Lib.hid (HK1.out.trans hk2)
      rw [← HSJ.out] at hw2
      have HW2 := Lib.hid hw2
      clear hk2 hw2 k0 k1 k2 k3 k4
      go_wp2
      go_roundw
      case rel => exact ⟨j + 1, by omega, by go_num, by rw [HNX.out]; exact HW2.out, HK2.out⟩
      case measure => simp [intOf]; omega
    · obtain rfl : j = ks.length := by omega
      have HW2 := Lib.hid hw
      have HK2 := Lib.hid hk
      clear hw hk
      go_wp2
      go_end0
      exact ⟨rfl, HK2.out, by have := HW2.out; rw [List.take_length] at this; exact this⟩
end Go.Proofs.YtfigoblpkbpenaaDoor
