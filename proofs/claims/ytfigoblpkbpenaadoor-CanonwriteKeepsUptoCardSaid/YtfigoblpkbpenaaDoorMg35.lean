/- The texts WriG (what is wanted of them), one after the other. -/
import Derived.Test.YtfigoblpkbpenaaDoorMg1
import Derived.Test.YtfigoblpkbpenaaDoorMg2
import Derived.Test.YtfigoblpkbpenaaDoorMg3
import Derived.Test.YtfigoblpkbpenaaDoorMg4
import Derived.Test.YtfigoblpkbpenaaDoorMg5
import Derived.Test.YtfigoblpkbpenaaDoorMg6
import Derived.Test.YtfigoblpkbpenaaDoorMg7
import Derived.Test.YtfigoblpkbpenaaDoorMg8
import Derived.Test.YtfigoblpkbpenaaDoorMg9
import Derived.Test.YtfigoblpkbpenaaDoorMg10
import Derived.Test.YtfigoblpkbpenaaDoorMg11
import Derived.Test.YtfigoblpkbpenaaDoorMg12
import Derived.Test.YtfigoblpkbpenaaDoorMg13
import Derived.Test.YtfigoblpkbpenaaDoorMg14
import Derived.Test.YtfigoblpkbpenaaDoorMg15
import Derived.Test.YtfigoblpkbpenaaDoorMg16
import Derived.Test.YtfigoblpkbpenaaDoorMg17
import Derived.Test.YtfigoblpkbpenaaDoorMg18
import Derived.Test.YtfigoblpkbpenaaDoorMg19
import Derived.Test.YtfigoblpkbpenaaDoorMg20
import Derived.Test.YtfigoblpkbpenaaDoorMg21
import Derived.Test.YtfigoblpkbpenaaDoorMg22
import Derived.Test.YtfigoblpkbpenaaDoorMg23
import Derived.Test.YtfigoblpkbpenaaDoorMg24
import Derived.Test.YtfigoblpkbpenaaDoorMg26
import Derived.Test.YtfigoblpkbpenaaDoorMg27
import Derived.Test.YtfigoblpkbpenaaDoorMg28
import Derived.Test.YtfigoblpkbpenaaDoorMg29
import Derived.Test.YtfigoblpkbpenaaDoorMg30
import Derived.Test.YtfigoblpkbpenaaDoorMg31
import Derived.Test.YtfigoblpkbpenaaDoorMg32
import Derived.Test.YtfigoblpkbpenaaDoorMg33
import Derived.Test.YtfigoblpkbpenaaDoorMg34
import Derived.Lib.SliceRun
/- Package canonwrite: a composite list is written. -/
namespace Go.Proofs.YtfigoblpkbpenaaDoor
open Go.ChangeShapes Go.WideShapes Go.ChangeAt Go.RowKit
set_option linter.unusedVariables false
set_option linter.unusedSimpArgs false
set_option maxRecDepth 100000
attribute [local simp] AllK KnowsV look Is

theorem wp_region_n17k {P : Program} {id : Nat} {o0 o1 o2 o3 o4 o5 o6 o7 o8 o9 o10 o11 o12 o13 o14 o15 o16 t : Oper} {Q : Exit → Act → World → Prop} {a : Act} {w : World} (hm : P.follows .mixedOrders = true) (hB : chainAB a.tmps.size [o0, o1, o2, o3, o4, o5, o6, o7, o8, o9, o10, o11, o12, o13, o14, o15, o16] t = true)
    (h : ChainA P #[o0, o1, o2, o3, o4, o5, o6, o7, o8, o9, o10, o11, o12, o13, o14, o15, o16, t] [o0, o1, o2, o3, o4, o5, o6, o7, o8, o9, o10, o11, o12, o13, o14, o15, o16] t 999 NoBlk a w.drew Q [o0, o1, o2, o3, o4, o5, o6, o7, o8, o9, o10, o11, o12, o13, o14, o15, o16] 0 [] []) : (Code.region id #[o0, o1, o2, o3, o4, o5, o6, o7, o8, o9, o10, o11, o12, o13, o14, o15, o16, t] true).wp P Q a w :=
  wp_region_a [o0, o1, o2, o3, o4, o5, o6, o7, o8, o9, o10, o11, o12, o13, o14, o15, o16] t 999 NoBlk rfl hm hB h

theorem NdR.datX {w : World} {A : Option Addr} {c : Nat} {B : Option Addr} {c2 : Nat} {x : Nd} (h : NdR w A c B c2 x) : Ri w .u8 A x.d ∧ Bts x.d ∧ x.d.length ≤ c ∧ c ≤ maxLen ∧ (A = none → c = 0) := by
  obtain ⟨k, e, n, d, ks⟩ := x
  obtain ⟨_, _, _, h4, h5, h6, h7, h8, _⟩ := h.open
  exact ⟨h4, h5, h6, by unfold maxLen; omega, h8⟩
set_option maxHeartbeats 16000000 in
theorem Wcomp_any (w0 : World) (wb q cap : Nat) (hwb : w0.heap.size ≤ wb) (hne : wb ≠ q) (hcap : cap ≤ 268435456) (n : Int) (d : List Int) (ks : List Nd) (hs : sizeN (.mk 2 7 n d ks) ≤ 1099511627776) (hv : validN (.mk 2 7 n d ks) = true) (hD : ∀ y ∈ kk ks, DispC w0 wb q cap y) (cur : List Int) (a : Nat) (A : Option Addr) (c : Nat) (B : Option Addr) (c2 : Nat) (w : World)
    (hx : NdR w0 A c B c2 (.mk 2 7 n d ks)) (ha : a < cur.length) (hroom : (cur.length : Int) + canN (.mk 2 7 n d ks) ≤ cap) (h : Wr w wb q cap w0.heap.size cur) (hb : Below w0.heap.size w0 w) :
    Calls Tryd.prog 39 #[.pointer (some ⟨wb, 0, none⟩), .int .i64 a, .agg #[.int .i64 2, .int .i64 7, .int .i64 n, .slice A d.length c, .slice B ks.length c2]] w fun r w' => r = .returned (.tuple #[]) ∧ Keeps (KS wb q) w w' ∧ Wr w' wb q cap w0.heap.size (placeF cur a (.mk 2 7 n d ks)) := by
  have hq := h.q
  have hwlt := h.blk.lt
  obtain ⟨g1, g2, g3, g4, g5, -⟩ := head_lst hv
  obtain ⟨g6, g7⟩ := g5 (by decide)
  subst g7
  have hT : targN (.mk 2 7 ks.length d ks) = kk ks := by rw [targN_mk, if_pos ⟨rfl, rfl⟩]
  have hvk : ∀ y ∈ kk ks, validN y = true := fun y hy => valid_targ hv y (by rw [hT]; exact hy)
  have hcn := canK_nn hvk
  have hE := canN_eq (.mk 2 7 ks.length d ks)
  have hO := comp_canO hv
  rw [hT] at hE
  obtain ⟨hu1, hu2⟩ := uni_bd hv
  have hfit := comp_fit hv
  have hNB : ¬ KS wb q w.heap.size := by unfold KS; omega
  have HNB : Hid (∀ b, w.heap.size ≤ b → ¬ KS wb q b) := Lib.hid (fun b hb => by unfold KS; omega)
  have HNQ : Hid (w.heap.size ≠ q) := Lib.hid (fun e => hNB (.inr e))
  have HW := Lib.hid (fun (W : World) (h : Keeps (KS wb q) w W) => hb.trans (ks_below h hb.size hwb hq.1))
  have HNE := Lib.hid hne
  have hal : (a : Int) < (cur.length : Int) := by omega
  have hcl : cur.length ≤ 268435456 := by omega
  obtain ⟨O, hOO⟩ : ∃ O, O = (cur.length : Int) - a - 1 := ⟨_, rfl⟩
  have HOO := Lib.hid hOO
  have hO1 : -536870912 ≤ O ∧ O ≤ 536870911 := by omega
  have HTV := Lib.hid (tag_vld hv)
  have HUN := Lib.hid (fun W (h2 : Below w0.heap.size w0 W) => trimUniform_any (.mk 2 7 ks.length d ks) A c B c2 W (hx.on h2 (Nat.le_refl _)) hs)
  simp only [Nd.k, Nd.e, Nd.n, Nd.d, Nd.ks] at HUN
  have hst := comp_start hv cur a
  have HST := Lib.hid (fun i hi => comp_step hv cur a i hi)
  have HEN := Lib.hid (comp_end hv cur a)
  have HLE := Lib.hid (fun i hi => compG_length hv cur a i hi)
  have HEL : Hid (∀ i, i ≤ ks.length → (elsO (uniD ks ks.length) (uniP ks ks.length) (ks.take i)).length = i * (uniD ks ks.length + uniP ks ks.length)) := Lib.hid (fun i hi => by
    rw [elsO_length (fun y hy => (hfit y (List.mem_of_mem_take hy)).1), List.length_take]
    congr 1
    omega)
  have HES := Lib.hid (fun i hi => elsO_take (uniD ks ks.length) (uniP ks ks.length) ks i hi)
  have HKE : Hid (∀ j (hj : j < ks.length), (ks[j]).d.length % 8 = 0 ∧ (ks[j]).d.length ≤ 8 * uniD ks ks.length ∧ (ks[j]).ks.length ≤ uniP ks ks.length ∧ (∀ y ∈ (ks[j]).ks, DispC w0 wb q cap y) ∧ (∀ y ∈ (ks[j]).ks, validN y = true)) := Lib.hid (fun j hj => by
    have hm := List.getElem_mem hj
    refine ⟨?_, (hfit _ hm).1, (hfit _ hm).2, fun y hy => hD y (List.mem_flatMap.2 ⟨_, hm, hy⟩), fun y hy => hvk y (List.mem_flatMap.2 ⟨_, hm, hy⟩)⟩
    obtain ⟨hvj, -⟩ := valid_mem hv hm
    have hk := (valid_elem hv hm).1
    generalize ks[j] = y at *
    obtain ⟨k', e', n', d', ks'⟩ := y
    simp only [Nd.k] at hk
    subst hk
    obtain ⟨rfl, rfl, h8, -⟩ := head_str hvj
    exact h8)
  have HKS := Lib.hid hx.kids
  have HC2 := Lib.hid hx.open.2.2.2.2.2.2.2.2.1
  have HKT := Lib.hid (canKK_tk hvk)
  have HKK := Lib.hid (fun i hi => kk_take ks i hi)
  have hPW : ptrW (.mk 2 7 ks.length d ks) O = encW ⟨1, O, 0, 0, 7, ((ks.length * (uniD ks ks.length + uniP ks ks.length) : Nat) : Int), false, 0, 0, 0⟩ := by
    rw [ptrW_lst14, if_pos rfl, hO]
    congr 2
    omega
  rw [← hOO, hPW] at hst
  obtain ⟨pw, hpw⟩ : ∃ pw, encW ⟨1, O, 0, 0, 7, ((ks.length * (uniD ks ks.length + uniP ks ks.length) : Nat) : Int), false, 0, 0, 0⟩ = pw := ⟨_, rfl⟩
  rw [hpw] at hst
  obtain ⟨tg, htg⟩ : ∃ tg, tagW ks.length (uniD ks ks.length) (uniP ks ks.length) = tg := ⟨_, rfl⟩
  rw [htg] at hst
  have HSTART := Lib.hid hst
  have hcE : canO (.mk 2 7 ks.length d ks) ≤ 268435456 := by omega
  have HE : Hid (canN (.mk 2 7 ks.length d ks) = canO (.mk 2 7 ks.length d ks) + canK (kk ks)) := Lib.hid hE
  have HRM := Lib.hid hroom
  have HTG : Hid (∀ wc, Calls Tryd.prog 48 #[.agg #[.int .i64 0, .int .i64 (ks.length : Nat), .int .i64 (uniD ks ks.length : Nat), .int .i64 (uniP ks ks.length : Nat), .int .i64 0, .int .i64 0, .bool false, .int .i64 0, .int .u32 0, .int .u32 0]] wc fun r w' => r = .returned (.int .u64 tg) ∧ Below wc.heap.size wc w') := Lib.hid (fun wc => by
    rw [← htg]
    exact Wencoded_any 0 ks.length (uniD ks ks.length : Nat) (uniP ks ks.length : Nat) 0 0 wc HTV.out)
  have HPT : Hid (∀ wc, Calls Tryd.prog 48 #[.agg #[.int .i64 1, .int .i64 O, .int .i64 0, .int .i64 0, .int .i64 7, .int .i64 ((ks.length * (uniD ks ks.length + uniP ks ks.length) : Nat) : Int), .bool false, .int .i64 0, .int .u32 0, .int .u32 0]] wc fun r w' => r = .returned (.int .u64 pw) ∧ Below wc.heap.size wc w') := Lib.hid (fun wc => by
    rw [← hpw]
    exact Wencoded_any 1 O 0 0 7 _ wc (lst_vld (by omega) (by omega) (by decide) (by decide) O hO1.1 hO1.2))
  have HS1 : Hid (Std wb q cap w0.heap.size w cur w.heap.size #[.int .i64 2, .int .i64 7, .int .i64 (ks.length : Nat), .slice A d.length c, .slice B ks.length c2] (w.alloc (.cells #[.int .i64 2, .int .i64 7, .int .i64 (ks.length : Nat), .slice A d.length c, .slice B ks.length c2] 25))) := Lib.hid ⟨ks_alloc (Keeps.refl _ _) _, h.alloc _, Blk.fresh _ _ _⟩
  have HDA := Lib.hid (fun (A : Option Addr) (c : Nat) (b cu : List Int) (W : World) (g1 : Ri w0 .u8 A b) (g2 : Bts b) (g3 : A = none → c = 0) (g4 : b.length ≤ c) (g5 : c ≤ maxLen) (g6 : cu.length + (b.length + 7) / 8 ≤ cap) (g7 : Wr W wb q cap w0.heap.size cu) (g8 : Below w0.heap.size w0 W) => Wdata_any w0 wb q cap hwb hne (by omega) A c b cu W g1 g2 g3 g4 g5 g6 g7 g8)
  have HRF := Lib.hid (fun (ts : List Nd) (B : Option Addr) (c : Nat) (W : World) (cu : List Int) (a : Nat) (g0 : KsR w0 B ts) (g1 : ∀ y ∈ ts, DispC w0 wb q cap y) (g2 : ∀ y ∈ ts, validN y = true) (g3 : ts.length ≤ c) (h1 : Wr W wb q cap w0.heap.size cu) (h2 : Below w0.heap.size w0 W) (h3 : a + ts.length ≤ cu.length) (h4 : (cu.length : Int) + canK ts ≤ cap) => Wrefer_any w0 wb q cap hwb hq.1 hcap ts g1 g2 cu a B c W g3 (ReadS.of_ks g0 h2 hwb hq.1) h3 h4 h1 h2)
  have hkl : ks.length ≤ 536870911 := by omega
  clear hOO hx h hb hD hv hroom hq hcn hwb hvk hT hE hPW hNB hfit hst hpw htg hne hO1 hs g1 g2 g3 g4 g5 g6
  generalize compG cur a (.mk 2 7 ks.length d ks) = cf at *
  generalize placeF cur a (.mk 2 7 ks.length d ks) = res at *
  generalize canO (.mk 2 7 ks.length d ks) = co at *
  generalize canN (.mk 2 7 ks.length d ks) = cn at *
  generalize uniD ks ks.length = X at *
  generalize uniP ks ks.length = P at *
  obtain ⟨S, hS⟩ : ∃ S, ks.length * (X + P) = S := ⟨_, rfl⟩
  rw [hS] at hO HPT
  have HMUL : Hid ((ks.length : Int) * ((X : Int) + (P : Int)) = (S : Int)) := Lib.hid (by rw [← hS]; simp)
  have HSS := Lib.hid hS
  have HCO := Lib.hid hO
  have hS28 : S ≤ 268435456 := by omega
  clear hS hO
  go_enter Tryd.func39, Tryd.ntmps39
  go_wp2_with fail
  refine (HUN.out _ (HW.out _ HS1.out.keeps)).mono ?_
  rintro r w2 ⟨rfl, hb2⟩
  have HS2 := Lib.hid (HS1.out.below hb2)
  clear HS1 hb2
  go_wp2_with fail
  have HSd : Hid (∀ wc, Below w2.drew.heap.size w2.drew wc → Std wb q cap w0.heap.size w cur w.heap.size #[.int .i64 2, .int .i64 7, .int .i64 (ks.length : Nat), .slice A d.length c, .slice B ks.length c2] wc) := Lib.hid (fun wc h => HS2.out.below (bel_undrew13 h))
  clear HS2
  refine wp_region_n17k (by kernel_rfl) (by kernel_rfl) ?_
  refine n_val (u := ?_) [0] (by kernel_rfl) rfl (by kernel_rfl) trivial (fun ρ wc hbc hcn hk => ?_) ?_; rotate_left
  · obtain ⟨hcn, -⟩ := hcn
    simp at hk
    go_simp
    rfl
  refine n_val (u := ?_) [23] (by kernel_rfl) rfl (by kernel_rfl) trivial (fun ρ wc hbc hcn hk => ?_) ?_; rotate_left
  · obtain ⟨hcn, -⟩ := hcn
    simp at hk
    go_simp
    rfl
  refine n_val (u := ?_) [24] (by kernel_rfl) rfl (by kernel_rfl) trivial (fun ρ wc hbc hcn hk => ?_) ?_; rotate_left
  · obtain ⟨hcn, -⟩ := hcn
    simp at hk
    go_simp
    rfl
  refine n_val (u := ?_) [25] (by kernel_rfl) rfl (by kernel_rfl) trivial (fun ρ wc hbc hcn hk => ?_) ?_; rotate_left
  · obtain ⟨hcn, -⟩ := hcn
    simp at hk
    have x1 := (HSd.out wc hbc).wr.blk.cell
    have y1 := (HSd.out wc hbc).wr.blk.free
    go_simp
    rfl
  refine n_val (u := ?_) [1] (by kernel_rfl) rfl (by kernel_rfl) trivial (fun ρ wc hbc hcn hk => ?_) ?_; rotate_left
  · obtain ⟨hcn, -⟩ := hcn
    simp at hk
    go_simp
    rfl
  refine n_val (u := ?_) [0] (by kernel_rfl) rfl (by kernel_rfl) trivial (fun ρ wc hbc hcn hk => ?_) ?_; rotate_left
  · obtain ⟨hcn, -⟩ := hcn
    simp at hk
    go_simp
    rfl
  refine n_val (u := ?_) [1] (by kernel_rfl) rfl (by kernel_rfl) trivial (fun ρ wc hbc hcn hk => ?_) ?_; rotate_left
  · obtain ⟨hcn, -⟩ := hcn
    simp at hk
    go_simp
    rfl
  refine n_call (T := Is (.int .i64 O)) 47 [28, 29] (by kernel_rfl) rfl (by kernel_rfl) trivial (stable_is _) (fun ρ wc hbc hcn hk => ?_) ?_
  · obtain ⟨hcn, hfn⟩ := hcn
    simp at hk
    refine ⟨_, by go_simp; rfl, ?_⟩
    refine (Woffset_any wb q cap w0.heap.size a cur wc (HSd.out wc hbc).wr (by omega) (by omega) (by omega)).mono ?_
    rintro e w' ⟨rfl, rfl⟩
    exact ⟨_, rfl, by rw [HOO.out]; rfl, Below.refl _ _⟩
  refine n_val (u := ?_) [5] (by kernel_rfl) rfl (by kernel_rfl) trivial (fun ρ wc hbc hcn hk => ?_) ?_; rotate_left
  · obtain ⟨hcn, -⟩ := hcn
    simp at hk
    go_simp
    rfl
  refine n_val (u := ?_) [31] (by kernel_rfl) rfl (by kernel_rfl) trivial (fun ρ wc hbc hcn hk => ?_) ?_; rotate_left
  · obtain ⟨hcn, -⟩ := hcn
    simp at hk
    have x1 := (HSd.out wc hbc).box.cell
    go_simp
    rfl
  refine n_val (u := ?_) [5] (by kernel_rfl) rfl (by kernel_rfl) trivial (fun ρ wc hbc hcn hk => ?_) ?_; rotate_left
  · obtain ⟨hcn, -⟩ := hcn
    simp at hk
    go_simp
    rfl
  refine n_val (u := ?_) [33] (by kernel_rfl) rfl (by kernel_rfl) trivial (fun ρ wc hbc hcn hk => ?_) ?_; rotate_left
  · obtain ⟨hcn, -⟩ := hcn
    simp at hk
    have x1 := (HSd.out wc hbc).box.cell
    go_simp
    rfl
  refine n_val (u := ?_) [8] (by kernel_rfl) rfl (by kernel_rfl) trivial (fun ρ wc hbc hcn hk => ?_) ?_; rotate_left
  · obtain ⟨hcn, -⟩ := hcn
    simp at hk
    go_simp
    rfl
  refine n_val (u := .int .i64 (S : Nat)) [34, 35] (by kernel_rfl) rfl (by kernel_rfl) trivial (fun ρ wc hbc hcn hk => ?_) ?_
  · obtain ⟨hcn, -⟩ := hcn
    simp at hk
    have hm := HMUL.out
    go_simp
    try rw [IntKind.wrap_i64]
    try rw [HMUL.out]
    try omega
  refine n_val (u := ?_) [30, 32, 36] (by kernel_rfl) rfl (by kernel_rfl) trivial (fun ρ wc hbc hcn hk => ?_) ?_; rotate_left
  · obtain ⟨hcn, -⟩ := hcn
    simp at hk
    go_simp
    rfl
  refine n_call (T := Is (.int .u64 pw)) 48 [37] (by kernel_rfl) rfl (by kernel_rfl) trivial (stable_is _) (fun ρ wc hbc hcn hk => ?_) ?_
  · obtain ⟨hcn, hfn⟩ := hcn
    simp at hk
    refine ⟨_, by go_simp; rfl, ?_⟩
    refine (HPT.out wc).mono ?_
    rintro e w' ⟨rfl, hbq⟩
    exact ⟨_, rfl, rfl, hbq⟩
  refine n_val (u := .pointer (some ⟨q, a, none⟩)) [26, 27] (by kernel_rfl) rfl (by kernel_rfl) trivial (fun ρ wc hbc hcn hk => ?_) ?_
  · obtain ⟨hcn, -⟩ := hcn
    simp at hk
    go_simp
    try rfl
  refine a_end_lit 101 (by kernel_rfl) (fun ff w9 hb9 hk => ?_)
  simp [AllN] at hk
  simp only [frameL, hk, Nat.zero_add, Nat.reduceAdd]
  have HS9 := Lib.hid (HSd.out w9 (keeps_none hb9))
  clear hk hb9 HSd
  refine split_store (fun W => Std wb q cap w0.heap.size w (cur.set a pw) w.heap.size #[.int .i64 2, .int .i64 7, .int .i64 (ks.length : Nat), .slice A d.length c, .slice B ks.length c2] W) rfl ?_ ?_
  · have c9 := HS9.out.wr.got.cell a ha
    have f9 := HS9.out.wr.got.free a
    go_wp2
    exact ⟨rfl, rfl, HS9.out.put HNE.out HNQ.out _ _⟩
  rename_i K2 hK2
  rintro W4 hs4
  refine hK2 _ _ ?_
  clear hK2 HS9
  have HS4 := Lib.hid hs4
  obtain ⟨x4, y4, z4⟩ := hs4.box
  clear hs4
  go_wp2_with fail
  refine (HTG.out _).mono ?_
  rintro r w5 ⟨rfl, hb5⟩
  have HS5 := Lib.hid (HS4.out.below hb5)
  clear hb5 x4 y4 z4 HS4 HTG HPT HUN HTV
  have hcw : (cur.set a pw).length = cur.length := List.length_set
  have HCW := Lib.hid hcw
  have HRM1 : Hid ((cur.set a pw).length + 1 + S ≤ cap) := Lib.hid (by rw [hcw]; have h1 := HE.out; have h2 := HRM.out; have h3 := HCO.out; have h4 := (HKT.out 0); omega)
  have hb0 : (cur.set a pw ++ [tg]).length = cur.length + 1 := by rw [List.length_append, hcw]; rfl
  have HB0 := Lib.hid hb0
  clear hcw hb0
  generalize hcu : cur.set a pw = cu at *
  clear hcu
  obtain ⟨x5, y5, z5⟩ := HS5.out.wr.blk
  obtain ⟨p5, q5, r5⟩ := HS5.out.box
  go_wp2_with (at_builtin; refine wpList_wr1 rfl (.tmp 50) (.tmp 52) rfl HS5.out.wr HNE.out rfl rfl (by have h1 := HRM1.out; omega) ?_; intro w6 hg6 hb6 hk6; have HS6 : Hid (Std wb q cap w0.heap.size w (cu ++ [tg]) w.heap.size #[.int .i64 2, .int .i64 7, .int .i64 (ks.length : Nat), .slice A d.length c, .slice B ks.length c2] (w6.setCell ⟨wb, 0, none⟩ (.slice (some ⟨q, 0, none⟩) (cu.length + 1) cap))) := Lib.hid ⟨ks_set (HS5.out.keeps.trans hk6) (.inl (.inl rfl)) _, Wr.grow hg6 hb6 HNE.out (by simp), (HS5.out.box.keepsS hk6 (HNB.out _ (Nat.le_refl _))).other (fun e => HNB.out _ (Nat.le_refl _) (.inl e.symm)) _⟩; obtain ⟨x6, y6, z6⟩ := hb6; obtain ⟨p6, q6, r6⟩ := HS5.out.box.keepsS hk6 (HNB.out _ (Nat.le_refl _)); clear hg6 hk6 x5 y5 z5 p5 q5 r5)
  go_loopw [64] (fun i wr => ∃ j : Nat, j ≤ ks.length ∧ i = .int .i64 j ∧ Std wb q cap w0.heap.size w ((cu ++ [tg]) ++ elsO X P (ks.take j)) w.heap.size #[.int .i64 2, .int .i64 7, .int .i64 (ks.length : Nat), .slice A d.length c, .slice B ks.length c2] wr) (fun i _ => ks.length - (intOf i).toNat)
  case atStart => exact ⟨0, by omega, rfl, by simpa [elsO] using HS6.out⟩
  case round =>
    clear x6 y6 z6 p6 q6 r6 HS6
    obtain ⟨j, hj, rfl, hstd⟩ := hrel
    by_cases hlt : j < ks.length
    · have hlt' : (j : Int) < (ks.length : Int) := by omega
      obtain ⟨b, off, A', c', B', c2', rfl, k0, k1, k2, k3, k4, hnd⟩ := HKS.out.atIn (HW.out _ hstd.keeps) (Nat.le_refl _) hlt
      have hke := HKE.out j hlt
      have hes := HES.out j hlt
      have hel := HEL.out j hj
      have hjs : j * (X + P) + (X + P) ≤ S := by
        have h := Nat.mul_le_mul_right (X + P) (show j + 1 ≤ ks.length by omega)
        rw [Nat.add_mul, Nat.one_mul, HSS.out] at h
        exact h
      generalize ks[j] = y at *
      obtain ⟨hk8, hkd, hkp, -, -⟩ := hke
      have hdat := hnd.datX
      have hcl2 : ((cu ++ [tg]) ++ elsO X P (ks.take j)).length = cu.length + 1 + j * (X + P) := by rw [List.length_append, hel]; simp
      have hpl : (padW y.d ((y.d.length + 7) / 8)).length = (y.d.length + 7) / 8 := padW_length (by omega)
      have hwe : (((cu ++ [tg]) ++ elsO X P (ks.take j)) ++ padW y.d ((y.d.length + 7) / 8)) ++ List.replicate (X + P - y.d.length / 8) 0 = (cu ++ [tg]) ++ elsO X P (ks.take (j + 1)) := by
        rw [hes, List.append_assoc (_ ++ _) (padW _ _), elem_words hk8 hkd, List.append_assoc (cu ++ [tg])]
      have hr1 := HRM1.out
      have hroom1 : ((cu ++ [tg]) ++ elsO X P (ks.take j)).length + (y.d.length + 7) / 8 ≤ cap := by omega
      have hroom2 : (((cu ++ [tg]) ++ elsO X P (ks.take j)) ++ padW y.d ((y.d.length + 7) / 8)).length + (X + P - y.d.length / 8) ≤ cap := by
        rw [List.length_append, hpl]
        omega
      have HWE := Lib.hid hwe
      have HR1 := Lib.hid hroom1
      have HR2 := Lib.hid hroom2
      have HI : Hid ((X : Int) + (P : Int) - (y.d.length : Int) / 8 = ((X + P - y.d.length / 8 : Nat) : Int)) := Lib.hid (by omega)
      have HDT := Lib.hid hdat
      have hXb : (y.d.length : Int) / 8 ≤ (X : Int) := by omega
      have hXc : (X : Int) + (P : Int) ≤ 268435456 := by omega
      generalize hn1 : (cu ++ [tg]) ++ elsO X P (ks.take (j + 1)) = nx at *
      have HNX := Lib.hid hn1
      clear hn1
      generalize (cu ++ [tg]) ++ elsO X P (ks.take j) = cj at *
      have HS7 : Hid (Std wb q cap w0.heap.size w cj w.heap.size #[.int .i64 2, .int .i64 7, .int .i64 (ks.length : Nat), .slice A d.length c, .slice (some ⟨b, off, none⟩) ks.length c2] (wr.alloc (.cells #[.int .i64 y.k, .int .i64 y.e, .int .i64 y.n, .slice A' y.d.length c', .slice B' y.ks.length c2'] 25))) := Lib.hid ⟨ks_alloc hstd.keeps _, hstd.wr.alloc _, hstd.box.alloc _⟩
      have HY7 := Lib.hid (Blk.fresh wr #[.int .i64 y.k, .int .i64 y.e, .int .i64 y.n, .slice A' y.d.length c', .slice B' y.ks.length c2'] 25)
      have HNY : Hid (¬ KS wb q wr.heap.size) := Lib.hid (HNB.out _ hstd.keeps.size)
      clear hstd hdat hwe hroom1 hroom2 hcl2 hpl hes hel hk8 hkd hkp hnd hjs hr1
      go_wp2_with fail
      refine (HDA.out A' c' y.d cj _ HDT.out.1 HDT.out.2.1 HDT.out.2.2.2.2 HDT.out.2.2.1 HDT.out.2.2.2.1 HR1.out HS7.out.wr (HW.out _ HS7.out.keeps)).mono ?_
      rintro r w7 ⟨rfl, hk7, hw7⟩
      have HS8 : Hid (Std wb q cap w0.heap.size w (cj ++ padW y.d ((y.d.length + 7) / 8)) w.heap.size #[.int .i64 2, .int .i64 7, .int .i64 (ks.length : Nat), .slice A d.length c, .slice (some ⟨b, off, none⟩) ks.length c2] w7) := Lib.hid ⟨HS7.out.keeps.trans hk7, hw7, HS7.out.box.keepsS hk7 (HNB.out _ (Nat.le_refl _))⟩
      obtain ⟨x7, y7, z7⟩ := HY7.out.keepsS hk7 HNY.out
      clear hk7 hw7 k0 k1 k2 k3 k4 HY7 HS7
      generalize padW y.d ((y.d.length + 7) / 8) = pd at *
      go_wp2_with fail
      rw [HI.out]
      refine (Wzeros_any wb q cap w0.heap.size (X + P - y.d.length / 8) (cj ++ pd) w7 HS8.out.wr HNE.out HR2.out (by omega)).mono ?_
      rintro r w8 ⟨rfl, hk8, hw8⟩
      rw [HWE.out] at hw8
      have HS9 : Hid (Std wb q cap w0.heap.size w nx w.heap.size #[.int .i64 2, .int .i64 7, .int .i64 (ks.length : Nat), .slice A d.length c, .slice (some ⟨b, off, none⟩) ks.length c2] w8) := Lib.hid ⟨HS8.out.keeps.trans hk8, hw8, HS8.out.box.keepsS hk8 (HNB.out _ (Nat.le_refl _))⟩
      clear hk8 hw8 x7 y7 z7 HS8
      go_wp2
      go_roundw
      case rel => exact ⟨j + 1, by omega, by go_num, by rw [HNX.out]; exact HS9.out⟩
      case measure => simp [intOf]; omega
    · obtain rfl : j = ks.length := by omega
      rw [List.take_length, HSTART.out] at hstd
      have HS7 := Lib.hid hstd
      obtain ⟨x7, y7, z7⟩ := hstd.box
      clear hstd
      go_wp2
      go_loopw [84] (fun i wr => ∃ j : Nat, j ≤ ks.length ∧ i = .int .i64 j ∧ Std wb q cap w0.heap.size w (cf j) w.heap.size #[.int .i64 2, .int .i64 7, .int .i64 (ks.length : Nat), .slice A d.length c, .slice B ks.length c2] wr) (fun i _ => ks.length - (intOf i).toNat)
      case atStart => exact ⟨0, by omega, rfl, HS7.out⟩
      case round =>
        clear x7 y7 z7 HS7
        obtain ⟨j, hj, rfl, hstd⟩ := hrel
        by_cases hlt : j < ks.length
        · have hlt' : (j : Int) < (ks.length : Int) := by omega
          obtain ⟨b, off, A', c', B', c2', rfl, k0, k1, k2, k3, k4, hnd⟩ := HKS.out.atIn (HW.out _ hstd.keeps) (Nat.le_refl _) hlt
          have hke := HKE.out j hlt
          have hst := HST.out j hlt
          have hle := HLE.out j hj
          have hkk := HKK.out j hlt
          have hkt := HKT.out j
          have hkt1 := HKT.out (j + 1)
          have hjs : j * (X + P) + (X + P) ≤ S := by
            have h := Nat.mul_le_mul_right (X + P) (show j + 1 ≤ ks.length by omega)
            rw [Nat.add_mul, Nat.one_mul, HSS.out] at h
            exact h
          have hmul0 : (j : Int) * ((X : Int) + (P : Int)) = ((j * (X + P) : Nat) : Int) := by simp
          generalize ks[j] = y at *
          obtain ⟨-, -, hkp, hkD, hkV⟩ := hke
          rw [hkk, canK_append] at hkt1
          obtain ⟨m, hm⟩ : ∃ m, j * (X + P) = m := ⟨_, rfl⟩
          rw [hm] at hjs hmul0 hst
          have hr1 : cur.length + 1 + m + X + y.ks.length ≤ (cf j).length := by have h1 := HCO.out; omega
          have hr2 : ((cf j).length : Int) + canK y.ks ≤ cap := by have h1 := HE.out; have h2 := HRM.out; omega
          have HR1 := Lib.hid hr1
          have HR2 := Lib.hid hr2
          have HSTJ := Lib.hid hst
          have HKD := Lib.hid hkD
          have HKV := Lib.hid hkV
          have HKX := Lib.hid hnd.kidsX
          have hmb : m ≤ 268435456 := by omega
          have hcu28 : cu.length ≤ 268435456 := by rw [HCW.out]; exact hcl
          have HI : Hid ((cu.length : Int) + 1 + (m : Int) + (X : Int) = ((cur.length + 1 + m + X : Nat) : Int)) := Lib.hid (by rw [HCW.out]; omega)
          obtain ⟨nx, hnx⟩ : ∃ nx, cf (j + 1) = nx := ⟨_, rfl⟩
          rw [hnx] at HSTJ
          have HNX := Lib.hid hnx
          have HCJ : Hid (((cf j).length : Int) ≤ cap) := Lib.hid (by have h1 := HE.out; have h2 := HRM.out; omega)
          generalize cf j = cj at *
          have HS8 : Hid (Std wb q cap w0.heap.size w cj w.heap.size #[.int .i64 2, .int .i64 7, .int .i64 (ks.length : Nat), .slice A d.length c, .slice (some ⟨b, off, none⟩) ks.length c2] (wr.alloc (.cells #[.int .i64 y.k, .int .i64 y.e, .int .i64 y.n, .slice A' y.d.length c', .slice B' y.ks.length c2'] 25))) := Lib.hid ⟨ks_alloc hstd.keeps _, hstd.wr.alloc _, hstd.box.alloc _⟩
          clear hstd hst hle hkk hkt hkt1 hkD hkV hnd hjs hr1 hr2 hm hnx
          go_wp2_with fail
          rw [HI.out]
          refine (HRF.out y.ks B' c2' _ cj _ HKX.out.1 HKD.out HKV.out HKX.out.2.2 HS8.out.wr (HW.out _ HS8.out.keeps) HR1.out HR2.out).mono ?_
          rintro r w9 ⟨rfl, hk9, hw9⟩
          rw [HSTJ.out] at hw9
          have HS9 : Hid (Std wb q cap w0.heap.size w nx w.heap.size #[.int .i64 2, .int .i64 7, .int .i64 (ks.length : Nat), .slice A d.length c, .slice (some ⟨b, off, none⟩) ks.length c2] w9) := Lib.hid ⟨HS8.out.keeps.trans hk9, hw9, HS8.out.box.keepsS hk9 (HNB.out _ (Nat.le_refl _))⟩
          clear hk9 hw9 k0 k1 k2 k3 k4 HS8
          go_wp2
          go_roundw
          case rel => exact ⟨j + 1, by omega, by go_num, by rw [HNX.out]; exact HS9.out⟩
          case measure => simp [intOf]; omega
        · obtain rfl : j = ks.length := by omega
          rw [HEN.out] at hstd
          have HS8 := Lib.hid hstd
          clear hstd
          go_wp2
          go_end0
          exact ⟨rfl, HS8.out.keeps, HS8.out.wr⟩
end Go.Proofs.YtfigoblpkbpenaaDoor
