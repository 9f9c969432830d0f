/- The texts WriF (what is wanted of them), one after the other. -/
import Derived.Test.YtfigoblpkbpenaaDoorMg1
import Derived.Test.YtfigoblpkbpenaaDoorMg2
import Derived.Test.YtfigoblpkbpenaaDoorMg3
import Derived.Test.YtfigoblpkbpenaaDoorMg4
import Derived.Test.YtfigoblpkbpenaaDoorMg5
import Derived.Test.YtfigoblpkbpenaaDoorMg6
import Derived.Test.YtfigoblpkbpenaaDoorMg7
import Derived.Test.YtfigoblpkbpenaaDoorMg8
import Derived.Test.YtfigoblpkbpenaaDoorMg9
import Derived.Test.YtfigoblpkbpenaaDoorMg10
import Derived.Test.YtfigoblpkbpenaaDoorMg11
import Derived.Test.YtfigoblpkbpenaaDoorMg12
import Derived.Test.YtfigoblpkbpenaaDoorMg13
import Derived.Test.YtfigoblpkbpenaaDoorMg14
import Derived.Test.YtfigoblpkbpenaaDoorMg15
import Derived.Test.YtfigoblpkbpenaaDoorMg16
import Derived.Test.YtfigoblpkbpenaaDoorMg17
import Derived.Test.YtfigoblpkbpenaaDoorMg18
import Derived.Test.YtfigoblpkbpenaaDoorMg19
import Derived.Test.YtfigoblpkbpenaaDoorMg20
import Derived.Test.YtfigoblpkbpenaaDoorMg21
import Derived.Test.YtfigoblpkbpenaaDoorMg22
import Derived.Test.YtfigoblpkbpenaaDoorMg23
import Derived.Test.YtfigoblpkbpenaaDoorMg24
import Derived.Test.YtfigoblpkbpenaaDoorMg26
import Derived.Test.YtfigoblpkbpenaaDoorMg27
import Derived.Test.YtfigoblpkbpenaaDoorMg28
import Derived.Test.YtfigoblpkbpenaaDoorMg29
import Derived.Test.YtfigoblpkbpenaaDoorMg30
import Derived.Test.YtfigoblpkbpenaaDoorMg31
import Derived.Test.YtfigoblpkbpenaaDoorMg32
import Derived.Test.YtfigoblpkbpenaaDoorMg33
import Derived.Lib.SliceRun
/- Package canonwrite: a list that is not composite is written. -/
namespace Go.Proofs.YtfigoblpkbpenaaDoor
open Go.ChangeShapes Go.WideShapes Go.ChangeAt Go.RowKit
set_option linter.unusedVariables false
set_option linter.unusedSimpArgs false
set_option maxRecDepth 100000
attribute [local simp] AllK KnowsV look Is

theorem wp_region_n15k {P : Program} {id : Nat} {o0 o1 o2 o3 o4 o5 o6 o7 o8 o9 o10 o11 o12 o13 o14 t : Oper} {Q : Exit → Act → World → Prop} {a : Act} {w : World} (hm : P.follows .mixedOrders = true) (hB : chainAB a.tmps.size [o0, o1, o2, o3, o4, o5, o6, o7, o8, o9, o10, o11, o12, o13, o14] t = true)
    (h : ChainA P #[o0, o1, o2, o3, o4, o5, o6, o7, o8, o9, o10, o11, o12, o13, o14, t] [o0, o1, o2, o3, o4, o5, o6, o7, o8, o9, o10, o11, o12, o13, o14] t 999 NoBlk a w.drew Q [o0, o1, o2, o3, o4, o5, o6, o7, o8, o9, o10, o11, o12, o13, o14] 0 [] []) : (Code.region id #[o0, o1, o2, o3, o4, o5, o6, o7, o8, o9, o10, o11, o12, o13, o14, t] true).wp P Q a w :=
  wp_region_a [o0, o1, o2, o3, o4, o5, o6, o7, o8, o9, o10, o11, o12, o13, o14] t 999 NoBlk rfl hm hB h
theorem lst_vld {e n : Int} (h1 : 0 ≤ n) (h2 : n ≤ 536870911) (h3 : 0 ≤ e) (h4 : e ≤ 7) (o : Int) (g1 : -536870912 ≤ o) (g2 : o ≤ 536870911) : Vld ⟨1, o, 0, 0, e, n, false, 0, 0, 0⟩ := by
  right; left
  simp only
  refine ⟨trivial, by omega, by omega, trivial, trivial, by omega, by omega, by omega, by omega, ?_⟩
  simp

set_option maxHeartbeats 8000000 in
theorem Wlist_any (w0 : World) (wb q cap : Nat) (hwb : w0.heap.size ≤ wb) (hne : wb ≠ q) (hcap : cap ≤ 268435456) (e n : Int) (d : List Int) (ks : List Nd) (h7 : e ≠ 7) (hv : validN (.mk 2 e n d ks) = true) (hD : ∀ y ∈ ks, DispC w0 wb q cap y) (cur : List Int) (a : Nat) (A : Option Addr) (c : Nat) (B : Option Addr) (c2 : Nat) (w : World)
    (hx : NdR w0 A c B c2 (.mk 2 e n d ks)) (ha : a < cur.length) (hroom : (cur.length : Int) + canN (.mk 2 e n d ks) ≤ cap) (h : Wr w wb q cap w0.heap.size cur) (hb : Below w0.heap.size w0 w) :
    Calls Tryd.prog 40 #[.pointer (some ⟨wb, 0, none⟩), .int .i64 a, .agg #[.int .i64 2, .int .i64 e, .int .i64 n, .slice A d.length c, .slice B ks.length c2]] w fun r w' => r = .returned (.tuple #[]) ∧ Keeps (KS wb q) w w' ∧ Wr w' wb q cap w0.heap.size (placeF cur a (.mk 2 e n d ks)) := by
  have hq := h.q
  have hwlt := h.blk.lt
  obtain ⟨g1, g2, g3, g4, -, -⟩ := head_lst hv
  have h7' : ¬ ((Nd.mk 2 e n d ks).k = 2 ∧ (Nd.mk 2 e n d ks).e = 7) := fun hh => h7 hh.2
  have hT : targN (.mk 2 e n d ks) = ks := by rw [targN_mk, if_neg (fun hh => h7 hh.2)]
  have hvk : ∀ y ∈ ks, validN y = true := fun y hy => valid_targ hv y (by rw [hT]; exact hy)
  have hcn := canK_nn hvk
  have hE := canN_eq (.mk 2 e n d ks)
  have hps := (plain_start hv (by simp [Nd.k]) h7').1
  have hfl := fillW_length hv 0 (Nat.zero_le _)
  have hpl : (padW d ((d.length + 7) / 8)).length = (d.length + 7) / 8 := padW_length (by omega)
  simp only [Nd.d, Nd.ks] at hps
  rw [hps, List.length_append, List.length_replicate, hpl] at hfl
  rw [hT, ← hfl] at hE
  have hNB : ¬ KS wb q w.heap.size := by unfold KS; omega
  have HNQ : Hid (w.heap.size ≠ q) := Lib.hid (fun e => hNB (.inr e))
  have HW := Lib.hid (fun (W : World) (h : Keeps (KS wb q) w W) => hb.trans (ks_below h hb.size hwb hq.1))
  have HNE := Lib.hid hne
  have hal : (a : Int) < (cur.length : Int) := by omega
  have hcl : cur.length ≤ 268435456 := by omega
  obtain ⟨M, hM⟩ : ∃ M, (d.length + 7) / 8 = M := ⟨_, rfl⟩
  obtain ⟨O, hOO⟩ : ∃ O, O = (cur.length : Int) - a - 1 := ⟨_, rfl⟩
  have HOO := Lib.hid hOO
  have hPW : ptrW (.mk 2 e n d ks) O = encW ⟨1, O, 0, 0, e, n, false, 0, 0, 0⟩ := by
    rw [ptrW_lst14, if_neg h7]
  have hpp := plain_place hv (by simp [Nd.k]) h7' cur a
  simp only [Nd.d, Nd.ks] at hpp
  rw [hM, ← hOO, hPW] at hpp
  have HCO := Lib.hid (fun (pw : Int) W (h2 : Wr W wb q cap w0.heap.size (cur.set a pw)) (h3 : Below w0.heap.size w0 W) => Wcontents_any w0 wb q cap hwb hne hcap 2 e n d ks hD hvk (cur.set a pw) A c B c2 W hx (by rw [List.length_set, hM]; omega) h2 h3)
  simp only [hM, List.length_set] at HCO
  have HPP := Lib.hid hpp
  have hO1 : -536870912 ≤ O ∧ O ≤ 536870911 := by omega
  obtain ⟨kl, hkl⟩ : ∃ kl, ks.length = kl := ⟨_, rfl⟩
  rw [hkl] at HPP HCO
  rw [hkl]
  have HS1 : Hid (Std wb q cap w0.heap.size w cur w.heap.size #[.int .i64 2, .int .i64 e, .int .i64 n, .slice A d.length c, .slice B kl c2] (w.alloc (.cells #[.int .i64 2, .int .i64 e, .int .i64 n, .slice A d.length c, .slice B kl c2] 25))) := Lib.hid ⟨ks_alloc (Keeps.refl _ _) _, h.alloc _, Blk.fresh _ _ _⟩
  obtain ⟨pw, hpw⟩ : ∃ pw, encW ⟨1, O, 0, 0, e, n, false, 0, 0, 0⟩ = pw := ⟨_, rfl⟩
  rw [hpw] at HPP
  have HEN : Hid (∀ wc, Calls Tryd.prog 48 #[.agg #[.int .i64 1, .int .i64 O, .int .i64 0, .int .i64 0, .int .i64 e, .int .i64 n, .bool false, .int .i64 0, .int .u32 0, .int .u32 0]] wc fun r w' => r = .returned (.int .u64 pw) ∧ Below wc.heap.size wc w') := Lib.hid (fun wc => by
    rw [← hpw]
    exact Wencoded_any 1 O 0 0 e n wc (lst_vld g1 g2 g3 g4 O hO1.1 hO1.2))
  clear hOO hx h hb hD hv hroom hq hcn hwb hne hvk hT hE hPW hpp hM hNB hps hfl hpl h7 h7' g1 g2 g3 g4 hkl hpw hO1
  generalize placeF cur a (.mk 2 e n d ks) = res at *
  go_enter Tryd.func40, Tryd.ntmps40
  go_wp2_with fail
  refine abs_code10 (F := fun W => Std wb q cap w0.heap.size w cur w.heap.size #[.int .i64 2, .int .i64 e, .int .i64 n, .slice A d.length c, .slice B kl c2] W) HS1.out ?_
  rintro W1 hs1
  clear HS1
  have HSd : Hid (∀ wc, Below W1.drew.heap.size W1.drew wc → Std wb q cap w0.heap.size w cur w.heap.size #[.int .i64 2, .int .i64 e, .int .i64 n, .slice A d.length c, .slice B kl c2] wc) := Lib.hid (fun wc h => hs1.below (bel_undrew13 h))
  clear hs1
  refine wp_region_n15k (by kernel_rfl) (by kernel_rfl) ?_
  refine n_val (u := ?_) [0] (by kernel_rfl) rfl (by kernel_rfl) trivial (fun ρ wc hbc hcn hk => ?_) ?_; rotate_left
  · obtain ⟨hcn, -⟩ := hcn
    simp at hk
    go_simp
    rfl
  refine n_val (u := ?_) [6] (by kernel_rfl) rfl (by kernel_rfl) trivial (fun ρ wc hbc hcn hk => ?_) ?_; rotate_left
  · obtain ⟨hcn, -⟩ := hcn
    simp at hk
    go_simp
    rfl
  refine n_val (u := ?_) [7] (by kernel_rfl) rfl (by kernel_rfl) trivial (fun ρ wc hbc hcn hk => ?_) ?_; rotate_left
  · obtain ⟨hcn, -⟩ := hcn
    simp at hk
    go_simp
    rfl
  refine n_val (u := ?_) [8] (by kernel_rfl) rfl (by kernel_rfl) trivial (fun ρ wc hbc hcn hk => ?_) ?_; rotate_left
  · obtain ⟨hcn, -⟩ := hcn
    simp at hk
    have x1 := (HSd.out wc hbc).wr.blk.cell
    have y1 := (HSd.out wc hbc).wr.blk.free
    go_simp
    rfl
  refine n_val (u := ?_) [1] (by kernel_rfl) rfl (by kernel_rfl) trivial (fun ρ wc hbc hcn hk => ?_) ?_; rotate_left
  · obtain ⟨hcn, -⟩ := hcn
    simp at hk
    go_simp
    rfl
  refine n_val (u := ?_) [0] (by kernel_rfl) rfl (by kernel_rfl) trivial (fun ρ wc hbc hcn hk => ?_) ?_; rotate_left
  · obtain ⟨hcn, -⟩ := hcn
    simp at hk
    go_simp
    rfl
  refine n_val (u := ?_) [1] (by kernel_rfl) rfl (by kernel_rfl) trivial (fun ρ wc hbc hcn hk => ?_) ?_; rotate_left
  · obtain ⟨hcn, -⟩ := hcn
    simp at hk
    go_simp
    rfl
  refine n_call (T := Is (.int .i64 O)) 47 [11, 12] (by kernel_rfl) rfl (by kernel_rfl) trivial (stable_is _) (fun ρ wc hbc hcn hk => ?_) ?_
  · obtain ⟨hcn, hfn⟩ := hcn
    simp at hk
    refine ⟨_, by go_simp; rfl, ?_⟩
    refine (Woffset_any wb q cap w0.heap.size a cur wc (HSd.out wc hbc).wr (by omega) (by omega) (by omega)).mono ?_
    rintro e w' ⟨rfl, rfl⟩
    exact ⟨_, rfl, by rw [HOO.out]; rfl, Below.refl _ _⟩
  refine n_val (u := ?_) [5] (by kernel_rfl) rfl (by kernel_rfl) trivial (fun ρ wc hbc hcn hk => ?_) ?_; rotate_left
  · obtain ⟨hcn, -⟩ := hcn
    simp at hk
    go_simp
    rfl
  refine n_val (u := ?_) [14] (by kernel_rfl) rfl (by kernel_rfl) trivial (fun ρ wc hbc hcn hk => ?_) ?_; rotate_left
  · obtain ⟨hcn, -⟩ := hcn
    simp at hk
    have x1 := (HSd.out wc hbc).box.cell
    go_simp
    rfl
  refine n_val (u := ?_) [5] (by kernel_rfl) rfl (by kernel_rfl) trivial (fun ρ wc hbc hcn hk => ?_) ?_; rotate_left
  · obtain ⟨hcn, -⟩ := hcn
    simp at hk
    go_simp
    rfl
  refine n_val (u := ?_) [16] (by kernel_rfl) rfl (by kernel_rfl) trivial (fun ρ wc hbc hcn hk => ?_) ?_; rotate_left
  · obtain ⟨hcn, -⟩ := hcn
    simp at hk
    have x1 := (HSd.out wc hbc).box.cell
    go_simp
    rfl
  refine n_val (u := ?_) [13, 15, 17] (by kernel_rfl) rfl (by kernel_rfl) trivial (fun ρ wc hbc hcn hk => ?_) ?_; rotate_left
  · obtain ⟨hcn, -⟩ := hcn
    simp at hk
    go_simp
    rfl
  refine n_call (T := Is (.int .u64 pw)) 48 [18] (by kernel_rfl) rfl (by kernel_rfl) trivial (stable_is _) (fun ρ wc hbc hcn hk => ?_) ?_
  · obtain ⟨hcn, hfn⟩ := hcn
    simp at hk
    refine ⟨_, by go_simp; rfl, ?_⟩
    refine (HEN.out wc).mono ?_
    rintro e w' ⟨rfl, hbq⟩
    exact ⟨_, rfl, rfl, hbq⟩
  refine n_val (u := .pointer (some ⟨q, a, none⟩)) [9, 10] (by kernel_rfl) rfl (by kernel_rfl) trivial (fun ρ wc hbc hcn hk => ?_) ?_
  · obtain ⟨hcn, -⟩ := hcn
    simp at hk
    go_simp
    try rfl
  refine a_end_lit 24 (by kernel_rfl) (fun ff w9 hb9 hk => ?_)
  simp [AllN] at hk
  simp only [frameL, hk, Nat.zero_add, Nat.reduceAdd]
  have HS9 := Lib.hid (HSd.out w9 (keeps_none hb9))
  clear hk hb9 HSd
  refine split_store (fun W => Std wb q cap w0.heap.size w (cur.set a pw) w.heap.size #[.int .i64 2, .int .i64 e, .int .i64 n, .slice A d.length c, .slice B kl c2] W) rfl ?_ ?_
  · have c9 := HS9.out.wr.got.cell a ha
    have f9 := HS9.out.wr.got.free a
    go_wp2
    exact ⟨rfl, rfl, HS9.out.put HNE.out HNQ.out _ _⟩
  rename_i K2 hK2
  rintro W4 hs4
  refine hK2 _ _ ?_
  clear hK2 HS9
  have HS4 := Lib.hid hs4
  obtain ⟨x4, y4, z4⟩ := hs4.box
  clear hs4
  go_wp2_with fail
  refine (HCO.out pw _ HS4.out.wr (HW.out _ HS4.out.keeps)).mono ?_
  rintro r w5 ⟨rfl, hk5, hw5⟩
  have HK5 := Lib.hid (HS4.out.keeps.trans hk5)
  rw [HPP.out] at hw5
  have HW5 := Lib.hid hw5
  clear hk5 hw5 x4 y4 z4 HS4
  go_wp2
  go_end0
  exact ⟨rfl, HK5.out, HW5.out⟩
end Go.Proofs.YtfigoblpkbpenaaDoor
