/- The texts WriE (what is wanted of them), one after the other. -/
import Derived.Test.YtfigoblpkbpenaaDoorMg1
import Derived.Test.YtfigoblpkbpenaaDoorMg2
import Derived.Test.YtfigoblpkbpenaaDoorMg3
import Derived.Test.YtfigoblpkbpenaaDoorMg4
import Derived.Test.YtfigoblpkbpenaaDoorMg5
import Derived.Test.YtfigoblpkbpenaaDoorMg6
import Derived.Test.YtfigoblpkbpenaaDoorMg7
import Derived.Test.YtfigoblpkbpenaaDoorMg8
import Derived.Test.YtfigoblpkbpenaaDoorMg9
import Derived.Test.YtfigoblpkbpenaaDoorMg10
import Derived.Test.YtfigoblpkbpenaaDoorMg11
import Derived.Test.YtfigoblpkbpenaaDoorMg12
import Derived.Test.YtfigoblpkbpenaaDoorMg13
import Derived.Test.YtfigoblpkbpenaaDoorMg14
import Derived.Test.YtfigoblpkbpenaaDoorMg15
import Derived.Test.YtfigoblpkbpenaaDoorMg16
import Derived.Test.YtfigoblpkbpenaaDoorMg17
import Derived.Test.YtfigoblpkbpenaaDoorMg18
import Derived.Test.YtfigoblpkbpenaaDoorMg19
import Derived.Test.YtfigoblpkbpenaaDoorMg20
import Derived.Test.YtfigoblpkbpenaaDoorMg21
import Derived.Test.YtfigoblpkbpenaaDoorMg22
import Derived.Test.YtfigoblpkbpenaaDoorMg23
import Derived.Test.YtfigoblpkbpenaaDoorMg24
import Derived.Test.YtfigoblpkbpenaaDoorMg26
import Derived.Test.YtfigoblpkbpenaaDoorMg27
import Derived.Test.YtfigoblpkbpenaaDoorMg28
import Derived.Test.YtfigoblpkbpenaaDoorMg29
import Derived.Test.YtfigoblpkbpenaaDoorMg30
import Derived.Test.YtfigoblpkbpenaaDoorMg31
import Derived.Test.YtfigoblpkbpenaaDoorMg32
import Derived.Lib.SliceRun
/- Package canonwrite: a struct is written. -/
namespace Go.Proofs.YtfigoblpkbpenaaDoor
open Go.ChangeShapes Go.WideShapes Go.ChangeAt Go.RowKit
set_option linter.unusedVariables false
set_option linter.unusedSimpArgs false
set_option maxRecDepth 100000
attribute [local simp] AllK KnowsV look Is

theorem wp_region_n12k {P : Program} {id : Nat} {o0 o1 o2 o3 o4 o5 o6 o7 o8 o9 o10 o11 t : Oper} {Q : Exit → Act → World → Prop} {a : Act} {w : World} (hm : P.follows .mixedOrders = true) (hB : chainAB a.tmps.size [o0, o1, o2, o3, o4, o5, o6, o7, o8, o9, o10, o11] t = true)
    (h : ChainA P #[o0, o1, o2, o3, o4, o5, o6, o7, o8, o9, o10, o11, t] [o0, o1, o2, o3, o4, o5, o6, o7, o8, o9, o10, o11] t 999 NoBlk a w.drew Q [o0, o1, o2, o3, o4, o5, o6, o7, o8, o9, o10, o11] 0 [] []) : (Code.region id #[o0, o1, o2, o3, o4, o5, o6, o7, o8, o9, o10, o11, t] true).wp P Q a w :=
  wp_region_a [o0, o1, o2, o3, o4, o5, o6, o7, o8, o9, o10, o11] t 999 NoBlk rfl hm hB h
theorem wp_region_n8k {P : Program} {id : Nat} {o0 o1 o2 o3 o4 o5 o6 o7 t : Oper} {Q : Exit → Act → World → Prop} {a : Act} {w : World} (hm : P.follows .mixedOrders = true) (hB : chainAB a.tmps.size [o0, o1, o2, o3, o4, o5, o6, o7] t = true)
    (h : ChainA P #[o0, o1, o2, o3, o4, o5, o6, o7, t] [o0, o1, o2, o3, o4, o5, o6, o7] t 999 NoBlk a w.drew Q [o0, o1, o2, o3, o4, o5, o6, o7] 0 [] []) : (Code.region id #[o0, o1, o2, o3, o4, o5, o6, o7, t] true).wp P Q a w :=
  wp_region_a [o0, o1, o2, o3, o4, o5, o6, o7] t 999 NoBlk rfl hm hB h
/-- a new block with these cells -/
def BlkF (N : Nat) (cs : Array Value) : Fact := fun v w => ∃ b, v = .pointer (some ⟨b, 0, none⟩) ∧ Blk w b cs ∧ N ≤ b
theorem stable_blkf (N : Nat) (cs : Array Value) : stable (BlkF N cs) := fun v w w' ⟨b, h1, h2, h3⟩ hb => ⟨b, h1, h2.below hb, h3⟩
/-- what a method's walk keeps: the writer, the node's block -/
structure Std (wb q cap base : Nat) (w : World) (cur : List Int) (bx : Nat) (box : Array Value) (W : World) : Prop where
  keeps : Keeps (KS wb q) w W
  wr : Wr W wb q cap base cur
  box : Blk W bx box
theorem Std.set {wb q cap base : Nat} {w : World} {cur : List Int} {bx : Nat} {box : Array Value} {W : World} (h : Std wb q cap base w cur bx box W) {p : Addr} (h1 : w.heap.size ≤ p.block) (h2 : p.block ≠ bx) (h3 : ¬ KS wb q p.block) (v : Value) : Std wb q cap base w cur bx box (W.setCell p v) :=
  ⟨ks_set h.keeps (.inr h1) v, ⟨h.wr.blk.other (fun e => h3 (.inl e)) v, got_other15 h.wr.got (fun e => by injection e with e; exact h3 (.inr e.symm)) v⟩, h.box.other h2 v⟩
theorem Std.below {wb q cap base : Nat} {w : World} {cur : List Int} {bx : Nat} {box : Array Value} {W W' : World} (h : Std wb q cap base w cur bx box W) (hb : Below W.heap.size W W') : Std wb q cap base w cur bx box W' := ⟨ks_on h.keeps hb, h.wr.below hb, h.box.below hb⟩
theorem Std.put {wb q cap base : Nat} {w : World} {cur : List Int} {bx : Nat} {box : Array Value} {W : World} (h : Std wb q cap base w cur bx box W) (hne : wb ≠ q) (hq : bx ≠ q) (j : Nat) (y : Int) : Std wb q cap base w (cur.set j y) bx box (W.setCell ⟨q, j, none⟩ (.int .u64 y)) :=
  ⟨ks_set h.keeps (.inl (.inr rfl)) _, h.wr.put hne j y, h.box.other (fun e => hq e.symm) _⟩
theorem Blk.ten {W : World} {b : Nat} {u0 u1 u2 u3 u4 u5 u6 u7 u8 u9 : Value} (h : Blk W b #[u0, u1, u2, u3, u4, u5, u6, u7, u8, u9]) (v0 v1 v2 v3 v4 v5 v6 v7 v8 v9 : Value) :
    Blk ((((((((((W.setCell ⟨b, 0, none⟩ v0).setCell ⟨b, 1, none⟩ v1).setCell ⟨b, 2, none⟩ v2).setCell ⟨b, 3, none⟩ v3).setCell ⟨b, 4, none⟩ v4).setCell ⟨b, 5, none⟩ v5).setCell ⟨b, 6, none⟩ v6).setCell ⟨b, 7, none⟩ v7).setCell ⟨b, 8, none⟩ v8).setCell ⟨b, 9, none⟩ v9) b #[v0, v1, v2, v3, v4, v5, v6, v7, v8, v9] := by
  have h0 := h.set 0 (by simp) v0
  simp at h0
  have h1 := h0.set 1 (by simp) v1
  simp at h1
  have h2 := h1.set 2 (by simp) v2
  simp at h2
  have h3 := h2.set 3 (by simp) v3
  simp at h3
  have h4 := h3.set 4 (by simp) v4
  simp at h4
  have h5 := h4.set 5 (by simp) v5
  simp at h5
  have h6 := h5.set 6 (by simp) v6
  simp at h6
  have h7 := h6.set 7 (by simp) v7
  simp at h7
  have h8 := h7.set 8 (by simp) v8
  simp at h8
  have h9 := h8.set 9 (by simp) v9
  simp at h9
  exact h9
theorem str_vld {d : List Int} {ks : List Nd} (hv : validN (.mk 1 0 0 d ks) = true) (o : Int) (h1 : -536870912 ≤ o) (h2 : o ≤ 536870911) : Vld ⟨0, o, ((d.length / 8 : Nat) : Int), ks.length, 0, 0, false, 0, 0, 0⟩ := by
  obtain ⟨-, -, h8, hd5, hk5⟩ := head_str hv
  left
  simp only
  refine ⟨trivial, by omega, by omega, by omega, by omega, by omega, by omega, ?_⟩
  simp

set_option maxHeartbeats 8000000 in
theorem Wstr_any (w0 : World) (wb q cap : Nat) (hwb : w0.heap.size ≤ wb) (hne : wb ≠ q) (hcap : cap ≤ 268435456) (d : List Int) (ks : List Nd) (hv : validN (.mk 1 0 0 d ks) = true) (hD : ∀ y ∈ ks, DispC w0 wb q cap y) (cur : List Int) (a : Nat) (A : Option Addr) (c : Nat) (B : Option Addr) (c2 : Nat) (w : World)
    (hx : NdR w0 A c B c2 (.mk 1 0 0 d ks)) (ha : a < cur.length) (hroom : (cur.length : Int) + canN (.mk 1 0 0 d ks) ≤ cap) (h : Wr w wb q cap w0.heap.size cur) (hb : Below w0.heap.size w0 w) :
    Calls Tryd.prog 38 #[.pointer (some ⟨wb, 0, none⟩), .int .i64 a, .agg #[.int .i64 1, .int .i64 0, .int .i64 0, .slice A d.length c, .slice B ks.length c2]] w fun r w' => r = .returned (.tuple #[]) ∧ Keeps (KS wb q) w w' ∧ Wr w' wb q cap w0.heap.size (placeF cur a (.mk 1 0 0 d ks)) := by
  have hq := h.q
  have hwlt := h.blk.lt
  obtain ⟨-, -, h8, hd5, hk5⟩ := head_str hv
  have hT : targN (.mk 1 0 0 d ks) = ks := by rw [targN_mk, if_neg (by decide)]
  have hvk : ∀ y ∈ ks, validN y = true := fun y hy => valid_targ hv y (by rw [hT]; exact hy)
  have hcn := canK_nn hvk
  have hE := canN_eq (.mk 1 0 0 d ks)
  have hO : canO (.mk 1 0 0 d ks) = ((d.length / 8 + ks.length : Nat) : Int) := rfl
  rw [hT, hO] at hE
  have hNB : ¬ KS wb q w.heap.size := by unfold KS; omega
  have HNB : Hid (∀ b, w.heap.size ≤ b → ¬ KS wb q b) := Lib.hid (fun b hb => by unfold KS; omega)
  have HW := Lib.hid (fun (W : World) (h : Keeps (KS wb q) w W) => hb.trans (ks_below h hb.size hwb hq.1))
  have HW1 := Lib.hid (h.alloc (.cells #[.int .i64 1, .int .i64 0, .int .i64 0, .slice A d.length c, .slice B ks.length c2] 25))
  have HK1 : Hid (Keeps (KS wb q) w (w.alloc (.cells #[.int .i64 1, .int .i64 0, .int .i64 0, .slice A d.length c, .slice B ks.length c2] 25))) := Lib.hid (ks_alloc (Keeps.refl _ _) _)
  have HB1 := Lib.hid (Blk.fresh w #[.int .i64 1, .int .i64 0, .int .i64 0, .slice A d.length c, .slice B ks.length c2] 25)
  have HNE := Lib.hid hne
  have hal : (a : Int) < (cur.length : Int) := by omega
  have hcl : cur.length ≤ 268435456 := by omega
  obtain ⟨M, hM⟩ : ∃ M, d.length / 8 = M := ⟨_, rfl⟩
  have hM7 : (d.length + 7) / 8 = M := by omega
  have HVL := Lib.hid (fun o h1 h2 => str_vld hv o h1 h2)
  rw [hM] at HVL
  have hMd : (d.length : Int) / 8 = (M : Int) := by omega
  obtain ⟨O, hOO⟩ : ∃ O, O = (cur.length : Int) - a - 1 := ⟨_, rfl⟩
  have HOO := Lib.hid hOO
  have HMD := Lib.hid hMd
  have hPW : ptrW (.mk 1 0 0 d ks) O = encW ⟨0, if M + ks.length = 0 then -1 else O, (M : Nat), ks.length, 0, 0, false, 0, 0, 0⟩ := by
    rw [ptrW_str14, hO, hM]
    congr 2
    by_cases h : M + ks.length = 0
    · rw [if_pos (by omega), if_pos h]
    · rw [if_neg (by omega), if_neg h]
  have hpp := plain_place hv (by simp [Nd.k]) (by simp [Nd.k]) cur a
  simp only [Nd.d, Nd.ks] at hpp
  rw [hM7, ← hOO, hPW] at hpp
  have HCO := Lib.hid (fun (pw : Int) W (h2 : Wr W wb q cap w0.heap.size (cur.set a pw)) (h3 : Below w0.heap.size w0 W) => Wcontents_any w0 wb q cap hwb hne hcap 1 0 0 d ks hD hvk (cur.set a pw) A c B c2 W hx (by rw [List.length_set, hM7]; omega) h2 h3)
  simp only [hM7, List.length_set] at HCO
  have HPP := Lib.hid hpp
  have hO1 : -536870912 ≤ O ∧ O ≤ 536870911 := by omega
  have hM5 : M ≤ 65535 := by omega
  clear hOO hMd
  clear hx h hb hD hv hroom hq hcn hwb hne hvk hT hE hO hPW hpp hM hM7 h8 hd5
  have HNQ : Hid (w.heap.size ≠ q) := Lib.hid (fun e => hNB (.inr e))
  obtain ⟨kl, hkl⟩ : ∃ kl, ks.length = kl := ⟨_, rfl⟩
  rw [hkl] at HW1 HK1 HB1 HVL HPP HCO hk5
  rw [hkl]
  clear hNB
  generalize placeF cur a (.mk 1 0 0 d ks) = res at *
  obtain ⟨off, hoff⟩ : ∃ off, (if M + kl = 0 then -1 else O) = off := ⟨_, rfl⟩
  rw [hoff] at HPP
  have HOF := Lib.hid hoff
  clear hoff
  obtain ⟨pw, hpw⟩ : ∃ pw, encW ⟨0, off, (M : Nat), kl, 0, 0, false, 0, 0, 0⟩ = pw := ⟨_, rfl⟩
  rw [hpw] at HPP
  have HEN : Hid (∀ wc, Calls Tryd.prog 48 #[.agg #[.int .i64 0, .int .i64 off, .int .i64 (M : Nat), .int .i64 (kl : Nat), .int .i64 0, .int .i64 0, .bool false, .int .i64 0, .int .u32 0, .int .u32 0]] wc fun r w' => r = .returned (.int .u64 pw) ∧ Below wc.heap.size wc w') := Lib.hid (fun wc => by
    rw [← hpw]
    refine Wencoded_any 0 off (M : Nat) (kl : Nat) 0 0 wc (HVL.out off ?_ ?_)
    · have h := HOF.out; by_cases h0 : M + kl = 0
      · rw [if_pos h0] at h; omega
      · rw [if_neg h0] at h; omega
    · have h := HOF.out; by_cases h0 : M + kl = 0
      · rw [if_pos h0] at h; omega
      · rw [if_neg h0] at h; omega)
  clear hpw
  go_enter Tryd.func38, Tryd.ntmps38
  go_wp2_with fail
  refine abs_code10 (F := fun W => W = w.alloc (.cells #[.int .i64 1, .int .i64 0, .int .i64 0, .slice A d.length c, .slice B kl c2] 25)) rfl ?_
  rintro W1 hW1
  rw [← hW1] at HW1 HK1 HB1
  clear hW1
  have HBd : Hid (∀ wc, Below W1.drew.heap.size W1.drew wc → Blk wc w.heap.size #[.int .i64 1, .int .i64 0, .int .i64 0, .slice A d.length c, .slice B kl c2]) := Lib.hid (fun wc h => HB1.out.below (bel_undrew13 h))
  have HWd : Hid (∀ wc, Below W1.drew.heap.size W1.drew wc → Wr wc wb q cap w0.heap.size cur) := Lib.hid (fun wc h => HW1.out.below (bel_undrew13 h))
  refine wp_region_n12k (by kernel_rfl) (by kernel_rfl) ?_
  refine n_val (u := ?_) [0] (by kernel_rfl) rfl (by kernel_rfl) trivial (fun ρ wc hbc hcn hk => ?_) ?_; rotate_left
  · obtain ⟨hcn, -⟩ := hcn
    simp at hk
    go_simp
    rfl
  refine n_val (u := ?_) [1] (by kernel_rfl) rfl (by kernel_rfl) trivial (fun ρ wc hbc hcn hk => ?_) ?_; rotate_left
  · obtain ⟨hcn, -⟩ := hcn
    simp at hk
    go_simp
    rfl
  refine n_call (T := Is (.int .i64 O)) 47 [7, 8] (by kernel_rfl) rfl (by kernel_rfl) trivial (stable_is _) (fun ρ wc hbc hcn hk => ?_) ?_
  · obtain ⟨hcn, hfn⟩ := hcn
    simp at hk
    refine ⟨_, by go_simp; rfl, ?_⟩
    refine (Woffset_any wb q cap w0.heap.size a cur wc (HWd.out wc hbc) (by omega) (by omega) (by omega)).mono ?_
    rintro e w' ⟨rfl, rfl⟩
    exact ⟨_, rfl, by rw [HOO.out]; rfl, Below.refl _ _⟩
  refine n_val (u := ?_) [5] (by kernel_rfl) rfl (by kernel_rfl) trivial (fun ρ wc hbc hcn hk => ?_) ?_; rotate_left
  · obtain ⟨hcn, -⟩ := hcn
    simp at hk
    go_simp
    rfl
  refine n_val (u := ?_) [10] (by kernel_rfl) rfl (by kernel_rfl) trivial (fun ρ wc hbc hcn hk => ?_) ?_; rotate_left
  · obtain ⟨hcn, -⟩ := hcn
    simp at hk
    have x1 := (HBd.out wc hbc).cell
    go_simp
    rfl
  refine n_val (u := ?_) [11] (by kernel_rfl) rfl (by kernel_rfl) trivial (fun ρ wc hbc hcn hk => ?_) ?_; rotate_left
  · obtain ⟨hcn, -⟩ := hcn
    simp at hk
    go_simp
    rfl
  refine n_val (u := .int .i64 (M : Nat)) [12] (by kernel_rfl) rfl (by kernel_rfl) trivial (fun ρ wc hbc hcn hk => ?_) ?_
  · obtain ⟨hcn, -⟩ := hcn
    simp at hk
    have hMd := HMD.out
    go_simp
    try rw [IntKind.wrap_i64]
    try omega
  refine n_val (u := ?_) [5] (by kernel_rfl) rfl (by kernel_rfl) trivial (fun ρ wc hbc hcn hk => ?_) ?_; rotate_left
  · obtain ⟨hcn, -⟩ := hcn
    simp at hk
    go_simp
    rfl
  refine n_val (u := ?_) [14] (by kernel_rfl) rfl (by kernel_rfl) trivial (fun ρ wc hbc hcn hk => ?_) ?_; rotate_left
  · obtain ⟨hcn, -⟩ := hcn
    simp at hk
    have x1 := (HBd.out wc hbc).cell
    go_simp
    rfl
  refine n_val (u := ?_) [15] (by kernel_rfl) rfl (by kernel_rfl) trivial (fun ρ wc hbc hcn hk => ?_) ?_; rotate_left
  · obtain ⟨hcn, -⟩ := hcn
    simp at hk
    go_simp
    rfl
  refine n_val (u := ?_) [9, 13, 16] (by kernel_rfl) rfl (by kernel_rfl) trivial (fun ρ wc hbc hcn hk => ?_) ?_; rotate_left
  · obtain ⟨hcn, -⟩ := hcn
    simp at hk
    go_simp
    rfl
  refine n_new (T := BlkF w.heap.size #[.int .i64 0, .int .i64 0, .int .i64 0, .int .i64 0, .int .i64 0, .int .i64 0, .bool false, .int .i64 0, .int .u32 0, .int .u32 0]) [] (by kernel_rfl) rfl (by kernel_rfl) trivial (stable_blkf _ _) (fun ρ wc hbc hcn hk => ?_) ?_
  · have hs1 := (HBd.out wc hbc).lt
    refine ⟨_, _, by go_simp; rfl, ⟨wc.heap.size, rfl, Blk.fresh _ _ _, by omega⟩, ?_⟩
    exact (Below.refl _ _).alloc (Nat.le_refl _) _
  refine a_end_lit 38 (by kernel_rfl) (fun ff w9 hb9 hk => ?_)
  have h6 : BlkF w.heap.size #[.int .i64 0, .int .i64 0, .int .i64 0, .int .i64 0, .int .i64 0, .int .i64 0, .bool false, .int .i64 0, .int .u32 0, .int .u32 0] (ff 6) w9 := allN_atF hk 6 (by decide) (by decide)
  simp [AllN] at hk
  simp only [frameL, hk, Nat.zero_add, Nat.reduceAdd]
  obtain ⟨b6, e6, hb6, hn6⟩ := h6
  rw [e6]
  have HS9 : Hid (Std wb q cap w0.heap.size w cur w.heap.size #[.int .i64 1, .int .i64 0, .int .i64 0, .slice A d.length c, .slice B kl c2] w9) := Lib.hid ⟨ks_on HK1.out (bel_undrew13 (keeps_none hb9)), HWd.out w9 (keeps_none hb9), HBd.out w9 (keeps_none hb9)⟩
  have hs9 := (HBd.out w9 (keeps_none hb9)).lt
  have HB6 := Lib.hid hb6
  have hn7 : b6 ≠ w.heap.size := fun e => by
    have x6 := hb6.cell 6
    rw [e, HS9.out.box.cell 6] at x6
    simp at x6
  have HN6 : Hid (¬ KS wb q b6) := Lib.hid (HNB.out b6 hn6)
  have HN7 := Lib.hid hn7
  clear hk hb9 e6 HBd HWd HW1 HK1 HB1
  refine split_store (fun W => Std wb q cap w0.heap.size w cur w.heap.size #[.int .i64 1, .int .i64 0, .int .i64 0, .slice A d.length c, .slice B kl c2] W ∧ Blk W b6 #[.int .i64 0, .int .i64 O, .int .i64 (M : Nat), .int .i64 (kl : Nat), .int .i64 0, .int .i64 0, .bool false, .int .i64 0, .int .u32 0, .int .u32 0]) rfl ?_ ?_
  · obtain ⟨x9, y9, z9⟩ := hb6
    go_wp2
    refine ⟨rfl, rfl, ?_, ?_⟩
    · exact Std.set (p := ⟨b6, 9, none⟩) (Std.set (p := ⟨b6, 8, none⟩) (Std.set (p := ⟨b6, 7, none⟩) (Std.set (p := ⟨b6, 6, none⟩) (Std.set (p := ⟨b6, 5, none⟩) (Std.set (p := ⟨b6, 4, none⟩) (Std.set (p := ⟨b6, 3, none⟩) (Std.set (p := ⟨b6, 2, none⟩) (Std.set (p := ⟨b6, 1, none⟩) (Std.set (p := ⟨b6, 0, none⟩) (HS9.out) hn6 HN7.out HN6.out _) hn6 HN7.out HN6.out _) hn6 HN7.out HN6.out _) hn6 HN7.out HN6.out _) hn6 HN7.out HN6.out _) hn6 HN7.out HN6.out _) hn6 HN7.out HN6.out _) hn6 HN7.out HN6.out _) hn6 HN7.out HN6.out _) hn6 HN7.out HN6.out _
    · exact HB6.out.ten _ _ _ _ _ _ _ _ _ _
  rename_i K2 hK2
  rintro W2 ⟨hs2, hb2⟩
  refine hK2 _ _ ?_
  clear hK2 HS9 HB6 hb6
  have HS2 := Lib.hid hs2
  have HB2 := Lib.hid hb2
  clear hs2
  have hcase : (M = 0 ∧ kl = 0 ∧ off = -1) ∨ (M ≠ 0 ∧ off = O) ∨ (M = 0 ∧ kl ≠ 0 ∧ off = O) := by
    have h := HOF.out
    by_cases h0 : M + kl = 0
    · rw [if_pos h0] at h; omega
    · rw [if_neg h0] at h; omega
  have HM5 := Lib.hid hM5
  have HO1 := Lib.hid hO1
  obtain ⟨x2, y2, z2⟩ := hb2
  clear hO1
  have hgo : ∃ W3, Std wb q cap w0.heap.size w cur w.heap.size #[.int .i64 1, .int .i64 0, .int .i64 0, .slice A d.length c, .slice B kl c2] W3 ∧ True := ⟨_, HS2.out, trivial⟩
  clear hgo
  have HF : Hid (∀ W3, Std wb q cap w0.heap.size w cur w.heap.size #[.int .i64 1, .int .i64 0, .int .i64 0, .slice A d.length c, .slice B kl c2] W3 → Blk W3 b6 #[.int .i64 0, .int .i64 off, .int .i64 (M : Nat), .int .i64 (kl : Nat), .int .i64 0, .int .i64 0, .bool false, .int .i64 0, .int .u32 0, .int .u32 0] → Std wb q cap w0.heap.size w cur w.heap.size #[.int .i64 1, .int .i64 0, .int .i64 0, .slice A d.length c, .slice B kl c2] W3 ∧ Blk W3 b6 #[.int .i64 0, .int .i64 off, .int .i64 (M : Nat), .int .i64 (kl : Nat), .int .i64 0, .int .i64 0, .bool false, .int .i64 0, .int .u32 0, .int .u32 0]) := Lib.hid (fun _ h1 h2 => ⟨h1, h2⟩)
  rcases hcase with ⟨hc1, hc2, hc3⟩ | ⟨hc1, hc3⟩ | ⟨hc1, hc2, hc3⟩
  case' inl =>
    have t1 : (((M : Nat) : Int) == 0) = true := by simp [hc1]
    have t2 : (((kl : Nat) : Int) == 0) = true := by simp [hc2]
    have HC3 := Lib.hid hc3
    clear hc1 hc2 hc3
    go_wp2_with fail
    refine abs_code10 (F := fun W => Std wb q cap w0.heap.size w cur w.heap.size #[.int .i64 1, .int .i64 0, .int .i64 0, .slice A d.length c, .slice B kl c2] W ∧ Blk W b6 #[.int .i64 0, .int .i64 off, .int .i64 (M : Nat), .int .i64 (kl : Nat), .int .i64 0, .int .i64 0, .bool false, .int .i64 0, .int .u32 0, .int .u32 0]) ⟨HS2.out.set hn6 HN7.out HN6.out _, ?_⟩ ?_
    · rw [HC3.out]
      have h1 := HB2.out.set 1 (by simp) (.int .i64 (-1))
      simp at h1
      exact h1
  case' inr.inl =>
    have t1 : (((M : Nat) : Int) == 0) = false := by simp [hc1]
    have HC3 := Lib.hid hc3
    clear hc1 hc3
    go_wp2_with fail
    refine abs_code10 (F := fun W => Std wb q cap w0.heap.size w cur w.heap.size #[.int .i64 1, .int .i64 0, .int .i64 0, .slice A d.length c, .slice B kl c2] W ∧ Blk W b6 #[.int .i64 0, .int .i64 off, .int .i64 (M : Nat), .int .i64 (kl : Nat), .int .i64 0, .int .i64 0, .bool false, .int .i64 0, .int .u32 0, .int .u32 0]) ⟨HS2.out, ?_⟩ ?_
    · rw [HC3.out]; exact HB2.out
  case' inr.inr =>
    have t1 : (((M : Nat) : Int) == 0) = true := by simp [hc1]
    have t2 : (((kl : Nat) : Int) == 0) = false := by simp [hc2]
    have HC3 := Lib.hid hc3
    clear hc1 hc2 hc3
    go_wp2_with fail
    refine abs_code10 (F := fun W => Std wb q cap w0.heap.size w cur w.heap.size #[.int .i64 1, .int .i64 0, .int .i64 0, .slice A d.length c, .slice B kl c2] W ∧ Blk W b6 #[.int .i64 0, .int .i64 off, .int .i64 (M : Nat), .int .i64 (kl : Nat), .int .i64 0, .int .i64 0, .bool false, .int .i64 0, .int .u32 0, .int .u32 0]) ⟨HS2.out, ?_⟩ ?_
    · rw [HC3.out]; exact HB2.out
  all_goals
    clear x2 y2 z2 HS2 HB2 HF
    rintro W3 ⟨hs3, hb3⟩
    have HWd : Hid (∀ wc, Below W3.drew.heap.size W3.drew wc → Wr wc wb q cap w0.heap.size cur) := Lib.hid (fun wc h => hs3.wr.below (bel_undrew13 h))
    have HPd : Hid (∀ wc, Below W3.drew.heap.size W3.drew wc → Blk wc b6 #[.int .i64 0, .int .i64 off, .int .i64 (M : Nat), .int .i64 (kl : Nat), .int .i64 0, .int .i64 0, .bool false, .int .i64 0, .int .u32 0, .int .u32 0]) := Lib.hid (fun wc h => hb3.below (bel_undrew13 h))
    have HSd : Hid (∀ wc, Below W3.drew.heap.size W3.drew wc → Std wb q cap w0.heap.size w cur w.heap.size #[.int .i64 1, .int .i64 0, .int .i64 0, .slice A d.length c, .slice B kl c2] wc) := Lib.hid (fun wc h => hs3.below (bel_undrew13 h))
    clear hs3 hb3
    refine wp_region_n8k (by kernel_rfl) (by kernel_rfl) ?_
    refine n_val (u := ?_) [0] (by kernel_rfl) rfl (by kernel_rfl) trivial (fun ρ wc hbc hcn hk => ?_) ?_; rotate_left
    · obtain ⟨hcn, -⟩ := hcn
      simp at hk
      go_simp
      rfl
    refine n_val (u := ?_) [27] (by kernel_rfl) rfl (by kernel_rfl) trivial (fun ρ wc hbc hcn hk => ?_) ?_; rotate_left
    · obtain ⟨hcn, -⟩ := hcn
      simp at hk
      go_simp
      rfl
    refine n_val (u := ?_) [28] (by kernel_rfl) rfl (by kernel_rfl) trivial (fun ρ wc hbc hcn hk => ?_) ?_; rotate_left
    · obtain ⟨hcn, -⟩ := hcn
      simp at hk
      go_simp
      rfl
    refine n_val (u := ?_) [29] (by kernel_rfl) rfl (by kernel_rfl) trivial (fun ρ wc hbc hcn hk => ?_) ?_; rotate_left
    · obtain ⟨hcn, -⟩ := hcn
      simp at hk
      have x1 := (HWd.out wc hbc).blk.cell
      have y1 := (HWd.out wc hbc).blk.free
      go_simp
      rfl
    refine n_val (u := ?_) [1] (by kernel_rfl) rfl (by kernel_rfl) trivial (fun ρ wc hbc hcn hk => ?_) ?_; rotate_left
    · obtain ⟨hcn, -⟩ := hcn
      simp at hk
      go_simp
      rfl
    refine n_val (u := ?_) [6] (by kernel_rfl) rfl (by kernel_rfl) trivial (fun ρ wc hbc hcn hk => ?_) ?_; rotate_left
    · obtain ⟨hcn, -⟩ := hcn
      simp at hk
      have x1 := (HPd.out wc hbc).cell
      go_simp
      rfl
    refine n_call (T := Is (.int .u64 pw)) 48 [32] (by kernel_rfl) rfl (by kernel_rfl) trivial (stable_is _) (fun ρ wc hbc hcn hk => ?_) ?_
    · obtain ⟨hcn, hfn⟩ := hcn
      simp at hk
      refine ⟨_, by go_simp; rfl, ?_⟩
      refine (HEN.out wc).mono ?_
      rintro e w' ⟨rfl, hbq⟩
      exact ⟨_, rfl, rfl, hbq⟩
    refine n_val (u := .pointer (some ⟨q, a, none⟩)) [30, 31] (by kernel_rfl) rfl (by kernel_rfl) trivial (fun ρ wc hbc hcn hk => ?_) ?_
    · obtain ⟨hcn, -⟩ := hcn
      simp at hk
      go_simp
      try rfl
    refine a_end_lit 38 (by kernel_rfl) (fun ff w9 hb9 hk => ?_)
    simp [AllN] at hk
    simp only [frameL, hk, Nat.zero_add, Nat.reduceAdd]
    have HS9 := Lib.hid (HSd.out w9 (keeps_none hb9))
    clear hk hb9 HWd HPd HSd
    refine split_store (fun W => Std wb q cap w0.heap.size w (cur.set a pw) w.heap.size #[.int .i64 1, .int .i64 0, .int .i64 0, .slice A d.length c, .slice B kl c2] W) rfl ?_ ?_
    · have c9 := HS9.out.wr.got.cell a ha
      have f9 := HS9.out.wr.got.free a
      go_wp2
      exact ⟨rfl, rfl, HS9.out.put HNE.out HNQ.out _ _⟩
    rename_i K2 hK2
    rintro W4 hs4
    refine hK2 _ _ ?_
    clear hK2 HS9
    have HS4 := Lib.hid hs4
    obtain ⟨x4, y4, z4⟩ := hs4.box
    clear hs4
    go_wp2_with fail
    refine (HCO.out pw _ HS4.out.wr (HW.out _ HS4.out.keeps)).mono ?_
    rintro r w5 ⟨rfl, hk5, hw5⟩
    have HK5 := Lib.hid (HS4.out.keeps.trans hk5)
    rw [HPP.out] at hw5
    have HW5 := Lib.hid hw5
    clear hk5 hw5 x4 y4 z4 HS4
    go_wp2
    go_end0
    exact ⟨rfl, HK5.out, HW5.out⟩
end Go.Proofs.YtfigoblpkbpenaaDoor
