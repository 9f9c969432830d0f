/- The texts MsgOwn, Ref14e (what is wanted of them), one after the other. -/
import Derived.Test.YtfigoblpkbpenaaDoorMg1
import Derived.Test.YtfigoblpkbpenaaDoorMg2
import Derived.Test.YtfigoblpkbpenaaDoorMg3
import Derived.Test.YtfigoblpkbpenaaDoorMg4
import Derived.Test.YtfigoblpkbpenaaDoorMg5
import Derived.Test.YtfigoblpkbpenaaDoorMg6
import Derived.Test.YtfigoblpkbpenaaDoorMg7
import Derived.Test.YtfigoblpkbpenaaDoorMg8
import Derived.Test.YtfigoblpkbpenaaDoorMg9
import Derived.Test.YtfigoblpkbpenaaDoorMg10
import Derived.Test.YtfigoblpkbpenaaDoorMg11
import Derived.Test.YtfigoblpkbpenaaDoorMg12
import Derived.Test.YtfigoblpkbpenaaDoorMg13
import Derived.Test.YtfigoblpkbpenaaDoorMg14
import Derived.Test.YtfigoblpkbpenaaDoorMg15
import Derived.Test.YtfigoblpkbpenaaDoorMg16
import Derived.Test.YtfigoblpkbpenaaDoorMg17
import Derived.Test.YtfigoblpkbpenaaDoorMg18
import Derived.Test.YtfigoblpkbpenaaDoorMg19
import Derived.Test.YtfigoblpkbpenaaDoorMg20
import Derived.Test.YtfigoblpkbpenaaDoorMg21
import Derived.Test.YtfigoblpkbpenaaDoorMg22
import Derived.Test.YtfigoblpkbpenaaDoorMg23
/- A message that the call made: a slice of its own of slices of its own. -/
namespace Go.Proofs.YtfigoblpkbpenaaDoor
open Go.RowKit
set_option linter.unusedVariables false
set_option linter.unusedSimpArgs false
set_option maxRecDepth 100000

def GotS (w : World) (base : Nat) (v : Value) (ls : List (List Int)) : Prop :=
  ∃ vs : List Value, w.ownsRow base 29 1 v ls.length vs ∧ ∀ j, j < ls.length → ∃ u, vs[j]? = some u ∧ Got w base 32 .u64 u (seg ls j)

theorem GotS.empty (w : World) (base : Nat) : GotS w base (.slice none 0 0) [] := ⟨[], World.ownsRow_nil w base _ 1, fun j hj => by simp at hj⟩

theorem ownsRow_belowS {w w' : World} {base B n size : Nat} {e : TypeId} {v : Value} {xs : List Value} (h : w.ownsRow base e size v n xs) (hb : Below B w w') (hB : w.heap.size ≤ B) : w'.ownsRow base e size v n xs := by
  obtain ⟨h1, h2⟩ := h
  refine ⟨h1, ?_⟩
  rcases h2 with h2 | ⟨g, cap, cur, hv, hg, hh, r⟩
  · exact .inl h2
  · refine .inr ⟨g, cap, cur, hv, hg, ?_, r⟩
    have hlt : g < w.heap.size := by
      rcases Nat.lt_or_ge g w.heap.size with hlt | hge
      · exact hlt
      · rw [Array.getElem?_eq_none hge] at hh; cases hh
    rw [hb.block g (by omega)]
    exact hh

theorem GotS.below {w w' : World} {base B : Nat} {v : Value} {ls : List (List Int)} (h : GotS w base v ls) (hb : Below B w w') (hB : w.heap.size ≤ B) : GotS w' base v ls := by
  obtain ⟨vs, h1, h2⟩ := h
  refine ⟨vs, ownsRow_belowS h1 hb hB, fun j hj => ?_⟩
  obtain ⟨u, hu, hg⟩ := h2 j hj
  exact ⟨u, hu, hg.below hb hB⟩

theorem GotS.mono {w : World} {base base' : Nat} {v : Value} {ls : List (List Int)} (h : GotS w base v ls) (hb : base' ≤ base) : GotS w base' v ls := by
  obtain ⟨vs, ⟨h0, h1⟩, h2⟩ := h
  refine ⟨vs, ⟨h0, ?_⟩, fun j hj => ?_⟩
  · rcases h1 with h1 | ⟨g, cap, cur, hv, hg, r⟩
    · exact .inl h1
    · exact .inr ⟨g, cap, cur, hv, by omega, r⟩
  · obtain ⟨u, hu, hg⟩ := h2 j hj
    exact ⟨u, hu, hg.mono hb⟩

theorem Got.holds {w : World} {base : Nat} {v : Value} {l : List Int} (h : Got w base 32 .u64 v l) : Holds w v l := by
  rcases h.2 with ⟨rfl, hn⟩ | ⟨g, cap, cur, hv, _⟩
  · have : l = [] := List.eq_nil_of_length_eq_zero hn
    subst this
    exact ⟨none, 0, rfl, Ri.nil _ _ _, fun _ => rfl, Nat.le_refl _, Nat.zero_le _⟩
  · obtain ⟨A, c, h1, h2, h3, h4⟩ := h.slice
    refine ⟨A, c, h1, h4, fun hA => ?_, h2, h3⟩
    subst hA
    rw [h1] at hv
    injection hv with e
    cases e

/-- what the call made reads as a message -/
theorem GotS.slice {w : World} {base : Nat} {v : Value} {ls : List (List Int)} (h : GotS w base v ls) : ∃ A c, v = .slice A ls.length c ∧ ls.length ≤ c ∧ c ≤ maxLen ∧ Sg w A ls := by
  obtain ⟨vs, h1, h2⟩ := h
  have h0 := h1
  rcases h1.2 with ⟨rfl, hn⟩ | ⟨g, cap, cur, rfl, hg, hh, hc, hm, hs, ht⟩
  · have : ls = [] := List.eq_nil_of_length_eq_zero hn
    subst this
    exact ⟨none, 0, rfl, Nat.le_refl _, Nat.zero_le _, .inl rfl⟩
  · refine ⟨some ⟨g, 0, none⟩, cap, rfl, hc, hm, .inr ⟨g, 0, rfl, fun j hj => ?_⟩⟩
    obtain ⟨u, hu, hgu⟩ := h2 j hj
    refine ⟨u, ?_, hgu.holds⟩
    rw [Nat.zero_add, World.ownsRow.cellAt h0 j (by omega)]
    exact hu

end Go.Proofs.YtfigoblpkbpenaaDoor

/- The reference functions of layer 14: Targets, Place and Write. -/
namespace Go.Proofs.YtfigoblpkbpenaaDoor
open Go.ChangeShapes Go.WideShapes Go.ChangeAt Go.RowKit
set_option linter.unusedVariables false
set_option linter.unusedSimpArgs false
set_option maxRecDepth 100000
attribute [local simp] AllK KnowsV look Is

set_option maxRecDepth 100000 in
theorem RefTargets14 (x : Nd) (A : Option Addr) (c : Nat) (B : Option Addr) (c2 : Nat) (w : World) (hx : NdR w A c B c2 x) (hs : sizeN x ≤ 1099511627776) :
    Calls Tryd.prog 32 #[.agg #[.int .i64 x.k, .int .i64 x.e, .int .i64 x.n, .slice A x.d.length c, .slice B x.ks.length c2]] w fun r w' => ∃ B' c', r = .returned (.slice B' (targN x).length c') ∧ KsR w' B' (targN x) ∧ (targN x).length ≤ c' ∧ c' ≤ 9223372036854775807 ∧ Below w.heap.size w w' := by
  obtain ⟨k, e, n, d, ks⟩ := x
  simp only [Nd.k, Nd.e, Nd.n, Nd.d, Nd.ks]
  have HX := Lib.hid hx
  have HO := Lib.hid hx.open
  clear hx
  by_cases hke : k = 2 ∧ e = 7
  · have HT : Hid (targN (.mk k e n d ks) = kk ks) := Lib.hid (by rw [targN_def, if_pos hke])
    obtain ⟨rfl, rfl⟩ := hke
    have hs2 : sizeN (.mk 2 7 n d ks) = 1 + d.length + sizeK ks := by simp only [sizeN]
    rw [hs2] at hs
    have HKK : Hid (∀ j, (kk (ks.take j)).length ≤ sizeK ks) := Lib.hid (fun j => Nat.le_trans (kk_size _) (sizeK_take_le ks j))
    have hkl := sizeK_length ks
    rw [HT.out]
    clear hs2
    go_enter Tryd.func32, Tryd.ntmps32
    go_wp2
    go_loopw [3, 4] (fun s i wr => ∃ j : Nat, j ≤ ks.length ∧ i = .int .i64 j ∧ OwnK w wr (w.heap.size + 1) s (kk (ks.take j)) ∧ Blk wr w.heap.size #[.int .i64 2, .int .i64 7, .int .i64 n, .slice A d.length c, .slice B ks.length c2] ∧ Below w.heap.size w wr) (fun _ i _ => ks.length - (intOf i).toNat)
    case atStart => exact ⟨0, by omega, rfl, by simpa [kk] using OwnK.empty _ _ _, Blk.fresh _ _ _, (Below.refl _ _).alloc (Nat.le_refl _) _⟩
    case round =>
      obtain ⟨j, hj, rfl, hown, hB, hbr⟩ := hrel
      have HB := Lib.hid hB
      have HR := Lib.hid hbr
      have HOWN := Lib.hid hown
      obtain ⟨x1, y1, z1⟩ := hB
      clear hbr hown
      by_cases hlt : j < ks.length
      · obtain ⟨b, off, A', c', B', c2', rfl, k0, k1, k2, k3, k4, hsub⟩ := HX.out.kids.atIn HR.out (Nat.le_refl _) hlt
        have HKS := Lib.hid hsub.kidsX
        have HKT := Lib.hid (kk_take ks j hlt)
        have HN : Hid ((kk (ks.take j)).length + (ks[j]).ks.length ≤ 1099511627776) := Lib.hid (by
          have h := HKK.out (j + 1)
          rw [HKT.out, List.length_append] at h
          omega)
        clear hsub k0 k1 k2 k3
        go_wp2_with (at_builtin; refine wpList_appK (W0 := w) rfl (.tmp 22) (.tmp 28) 23 rfl Tryd.underlying23 rfl HOWN.out rfl HKS.out.1 HKS.out.2.1 HKS.out.2.2 (Nat.le_refl _) HR.out HN.out z1 ?_; intro v1 w1 hg1 hb1)
        have HB1 := Lib.hid (HR.out.trans (hb1.mono (Nat.le_succ _)))
        have B1 := Lib.hid (HB.out.belowN hb1 (Nat.lt_succ_self _))
        go_roundw
        case rel => exact ⟨j + 1, by omega, by go_num, by rw [HKT.out]; exact hg1, B1.out, HB1.out⟩
        case measure => simp [intOf]; omega
      · obtain rfl : j = ks.length := by omega
        go_wp2
        obtain ⟨B1, c1, rfl, s1, s2, s3, s4⟩ := HOWN.out.slice (Nat.le_refl _) HR.out
        go_ret
        rw [List.take_length] at *
        exact ⟨B1, c1, rfl, s1, s2, s3, HR.out⟩
  · have HT : Hid (targN (.mk k e n d ks) = ks) := Lib.hid (by rw [targN_def, if_neg hke])
    have hor : ((k != 2) = true) ∨ ((k != 2) = false ∧ (e != 7) = true) := by
      by_cases h1 : k = 2
      · right; exact ⟨by simpa using h1, by simpa using fun h => hke ⟨h1, h⟩⟩
      · left; simpa using h1
    clear hke
    rcases hor with t1 | ⟨t1, t2⟩ <;>
    ( go_enter Tryd.func32, Tryd.ntmps32
      go_wp2
      go_ret
      refine ⟨B, c2, by rw [HT.out]; rfl, ?_, by rw [HT.out]; exact HO.out.2.2.2.2.2.2.2.2.1, HO.out.2.2.2.2.2.2.2.2.2.1, (Below.refl _ _).alloc (Nat.le_refl _) _⟩
      rw [HT.out]
      exact HX.out.kids.on ((Below.refl _ _).alloc (Nat.le_refl _) _) (Nat.le_refl _))

theorem ptrW_str14 (e n : Int) (d : List Int) (ks : List Nd) (o : Int) : ptrW (.mk 1 e n d ks) o = encW ⟨0, if canO (.mk 1 e n d ks) = 0 then -1 else o, ((d.length / 8 : Nat) : Int), ks.length, 0, 0, false, 0, 0, 0⟩ := by
  unfold ptrW ptrP
  simp only [Nd.k, Nd.d, Nd.ks]
  rw [if_neg (by decide), if_pos trivial]
theorem ptrW_lst14 (e n : Int) (d : List Int) (ks : List Nd) (o : Int) : ptrW (.mk 2 e n d ks) o = encW ⟨1, o, 0, 0, e, if e = 7 then canO (.mk 2 e n d ks) - 1 else n, false, 0, 0, 0⟩ := by
  unfold ptrW ptrP
  exact (if_neg (show ¬ ((2 : Int) = 0) by decide)).trans (congrArg encW (if_neg (show ¬ ((2 : Int) = 1) by decide)))
/-- what Shallow gives of any node that is not null -/
theorem RefShallow14 (x : Nd) (A : Option Addr) (c : Nat) (B : Option Addr) (c2 : Nat) (hv : validN x = true) (hs : sizeN x ≤ 1048576) (hk : x.k ≠ 0) (hC : canO x ≤ 536870911) : ∃ k' d' p' e' c' : Int,
    (∀ w, NdR w A c B c2 x → Calls Tryd.prog 30 #[.agg #[.int .i64 x.k, .int .i64 x.e, .int .i64 x.n, .slice A x.d.length c, .slice B x.ks.length c2]] w fun r w' => ∃ v u, r = .returned (.tuple #[v, .agg #[.int .i64 k', .int .i64 0, .int .i64 d', .int .i64 p', .int .i64 e', .int .i64 c', .bool false, .int .i64 0, .int .u32 0, .int .u32 0], u]) ∧
      Got w' w.heap.size 32 .u64 v (fillW x 0) ∧ Got w' w.heap.size 3 .i64 u (natsI (posL x)) ∧ Below w.heap.size w w') ∧
    (k' = 0 ∨ k' = 1) ∧ (∀ o, ptrW x o = encW ⟨k', if k' = 0 ∧ d' = 0 ∧ p' = 0 then -1 else o, d', p', e', c', false, 0, 0, 0⟩) ∧ (∀ o, -536870912 ≤ o → o ≤ 536870911 → Vld ⟨k', o, d', p', e', c', false, 0, 0, 0⟩) := by
  obtain ⟨k, e, n, d, ks⟩ := x
  have hkk := valid_k hv
  simp only [Nd.k, Nd.e, Nd.n, Nd.d, Nd.ks] at hkk hk ⊢
  rcases hkk with rfl | rfl | rfl
  · exact absurd rfl hk
  · obtain ⟨rfl, rfl, h8, hd5, hk5⟩ := head_str hv
    refine ⟨0, ((d.length / 8 : Nat) : Int), (ks.length : Int), 0, 0, fun w hx => Shallow14_str d ks A c B c2 w hx hv, .inl rfl, fun o => ?_, fun o h1 h2 => ?_⟩
    · rw [ptrW_str14]
      congr 2
      have hO : canO (.mk 1 0 0 d ks) = ((d.length / 8 + ks.length : Nat) : Int) := rfl
      rw [hO]
      by_cases h : d.length / 8 + ks.length = 0
      · rw [if_pos (by omega), if_pos ⟨rfl, by omega, by omega⟩]
      · rw [if_neg (by omega), if_neg (by omega)]
    · left
      simp only
      refine ⟨trivial, by omega, by omega, by omega, by omega, by omega, by omega, ?_⟩
      simp
  · obtain ⟨g1, g2, g3, g4, -, -⟩ := head_lst hv
    by_cases h7 : e = 7
    · subst h7
      have hO : canO (.mk 2 7 n d ks) = 1 + (canO (.mk 2 7 n d ks) - 1) := by omega
      have hn0 := (canO_size hv).1
      have hO1 : 1 ≤ canO (.mk 2 7 n d ks) := by
        have h : canO (.mk 2 7 n d ks) = 1 + n * ((uniD ks ks.length + uniP ks ks.length : Nat) : Int) := by
          show canOf 2 7 n d ks = _
          unfold canOf
          rw [if_neg (show ¬ ((2 : Int) = 0) by decide), if_neg (show ¬ ((2 : Int) = 1) by decide), if_pos rfl]
        have : 0 ≤ n * ((uniD ks ks.length + uniP ks ks.length : Nat) : Int) := Int.mul_nonneg g1 (by omega)
        omega
      refine ⟨1, 0, 0, 7, canO (.mk 2 7 n d ks) - 1, fun w hx => Shallow14_cmp n d ks A c B c2 w hx hv hs _ hO, .inr rfl, fun o => ?_, fun o h1 h2 => ?_⟩
      · rw [ptrW_lst14, if_pos rfl, if_neg (by omega)]
      · right; left
        simp only
        refine ⟨trivial, by omega, by omega, trivial, trivial, by omega, by omega, by omega, by omega, ?_⟩
        simp
    · refine ⟨1, 0, 0, e, n, fun w hx => Shallow14_lst e n d ks A c B c2 w hx hv h7 (by omega), .inr rfl, fun o => ?_, fun o h1 h2 => ?_⟩
      · rw [ptrW_lst14, if_neg h7, if_neg (by omega)]
      · right; left
        simp only
        refine ⟨trivial, by omega, by omega, trivial, trivial, by omega, by omega, by omega, by omega, ?_⟩
        simp
/-- words with a node placed behind them -/
def placeF (ws : List Int) (a : Nat) (x : Nd) : List Int := ws.set a (ptrW x ((ws.length : Int) - a - 1)) ++ objW x
theorem place_nul {ws : List Int} {a : Nat} {x : Nd} (hk : x.k = 0) (hv : validN x = true) (ha : a < ws.length) (hz : zat ws a = 0) : placeF ws a x = ws := by
  obtain ⟨k, e, n, d, ks⟩ := x
  simp only [Nd.k] at hk
  subst hk
  rw [head_nul hv]
  have h1 : ptrW nd0 ((ws.length : Int) - a - 1) = 0 := rfl
  have h2 : objW nd0 = [] := rfl
  rw [placeF, h1, h2, List.append_nil]
  apply ext_zat (by simp)
  intro i hi
  rw [zat_set _ _ _ _ ha]
  split
  · rename_i h; rw [← h, hz]
  · rfl
/-- the words when i targets are placed -/
def outF (ws : List Int) (a : Nat) (x : Nd) (i : Nat) : List Int := (ws.set a (ptrW x ((ws.length : Int) - a - 1)) ++ fillW x i) ++ objK ((targN x).take i)
theorem fillW_length {x : Nd} (hv : validN x = true) (i : Nat) (hi : i ≤ (targN x).length) : ((fillW x i).length : Int) = canO x := by
  have hl : ∀ i, i ≤ (targN x).length → (fillW x i).length = (fillW x 0).length := by
    intro i
    induction i with
    | zero => intro _; rfl
    | succ i ih =>
      intro h
      rw [← (fillW_step hv i (by omega)).2.2, List.length_set, ih (by omega)]
  rw [hl i hi, ← hl (targN x).length (Nat.le_refl _), fillW_all hv, body_length hv]
theorem outF_length {x : Nd} (hv : validN x = true) (ws : List Int) (a i : Nat) (hi : i ≤ (targN x).length) : ((outF ws a x i).length : Int) = ws.length + canO x + canK ((targN x).take i) := by
  have h1 := fillW_length hv i hi
  have h2 := objK_length (l := (targN x).take i) (fun y hy => objW_length y (valid_targ hv y (List.mem_of_mem_take hy)))
  unfold outF
  rw [List.length_append, List.length_append, List.length_set]
  omega
theorem outF_step {x : Nd} (hv : validN x = true) (ws : List Int) (a i : Nat) (hi : i < (targN x).length) :
    ws.length + (posL x).getD i 0 < (outF ws a x i).length ∧ zat (outF ws a x i) (ws.length + (posL x).getD i 0) = 0 ∧ placeF (outF ws a x i) (ws.length + (posL x).getD i 0) (targN x)[i] = outF ws a x (i + 1) := by
  obtain ⟨h1, h2, h3⟩ := fillW_step hv i hi
  have hl := outF_length hv ws a i (by omega)
  have hfl := fillW_length hv i (by omega)
  have hsl : (ws.set a (ptrW x ((ws.length : Int) - a - 1))).length = ws.length := List.length_set
  refine ⟨?_, ?_, ?_⟩
  · unfold outF
    rw [List.length_append, List.length_append, hsl]
    omega
  · unfold outF
    rw [zat_append_left _ _ _ (by rw [List.length_append, hsl]; omega), zat_append_right _ _ _ (by omega), hsl, Nat.add_sub_cancel_left, h2]
  · unfold placeF
    rw [hl]
    have e : (ws.length : Int) + canO x + canK ((targN x).take i) - ((ws.length + (posL x).getD i 0 : Nat) : Int) - 1 = canO x + canK ((targN x).take i) - ((posL x).getD i 0 : Nat) - 1 := by omega
    rw [e]
    unfold outF
    rw [set_left _ _ _ _ (by rw [List.length_append, hsl]; omega), set_right _ _ _ _ (by omega), hsl, Nat.add_sub_cancel_left, h3, objK_take _ _ hi]
    simp only [List.append_assoc]
theorem outF_all {x : Nd} (hv : validN x = true) (ws : List Int) (a : Nat) : outF ws a x (targN x).length = placeF ws a x := by
  unfold outF placeF
  rw [fillW_all hv, List.take_length, objW_eq, List.append_assoc]
end Go.Proofs.YtfigoblpkbpenaaDoor
