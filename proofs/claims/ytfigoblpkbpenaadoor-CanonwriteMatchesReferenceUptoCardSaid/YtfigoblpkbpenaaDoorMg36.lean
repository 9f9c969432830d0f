/- The texts WriH, CanC, CanP, WriP, Can4 (what is wanted of them), one after the other. -/
import Derived.Test.YtfigoblpkbpenaaDoorMg1
import Derived.Test.YtfigoblpkbpenaaDoorMg2
import Derived.Test.YtfigoblpkbpenaaDoorMg3
import Derived.Test.YtfigoblpkbpenaaDoorMg4
import Derived.Test.YtfigoblpkbpenaaDoorMg5
import Derived.Test.YtfigoblpkbpenaaDoorMg6
import Derived.Test.YtfigoblpkbpenaaDoorMg7
import Derived.Test.YtfigoblpkbpenaaDoorMg8
import Derived.Test.YtfigoblpkbpenaaDoorMg9
import Derived.Test.YtfigoblpkbpenaaDoorMg10
import Derived.Test.YtfigoblpkbpenaaDoorMg11
import Derived.Test.YtfigoblpkbpenaaDoorMg12
import Derived.Test.YtfigoblpkbpenaaDoorMg13
import Derived.Test.YtfigoblpkbpenaaDoorMg14
import Derived.Test.YtfigoblpkbpenaaDoorMg15
import Derived.Test.YtfigoblpkbpenaaDoorMg16
import Derived.Test.YtfigoblpkbpenaaDoorMg17
import Derived.Test.YtfigoblpkbpenaaDoorMg18
import Derived.Test.YtfigoblpkbpenaaDoorMg19
import Derived.Test.YtfigoblpkbpenaaDoorMg20
import Derived.Test.YtfigoblpkbpenaaDoorMg21
import Derived.Test.YtfigoblpkbpenaaDoorMg22
import Derived.Test.YtfigoblpkbpenaaDoorMg23
import Derived.Test.YtfigoblpkbpenaaDoorMg24
import Derived.Test.YtfigoblpkbpenaaDoorMg25
import Derived.Test.YtfigoblpkbpenaaDoorMg26
import Derived.Test.YtfigoblpkbpenaaDoorMg27
import Derived.Test.YtfigoblpkbpenaaDoorMg28
import Derived.Test.YtfigoblpkbpenaaDoorMg29
import Derived.Test.YtfigoblpkbpenaaDoorMg30
import Derived.Test.YtfigoblpkbpenaaDoorMg31
import Derived.Test.YtfigoblpkbpenaaDoorMg32
import Derived.Test.YtfigoblpkbpenaaDoorMg33
import Derived.Test.YtfigoblpkbpenaaDoorMg34
import Derived.Test.YtfigoblpkbpenaaDoorMg35
import Derived.Lib.SliceRun
import Derived.Laws.EntriesVeiled
/- Package canonwrite: the dispatcher, which calls a method by its value. -/
namespace Go.Proofs.YtfigoblpkbpenaaDoor
open Go.ChangeShapes Go.WideShapes Go.ChangeAt Go.RowKit
set_option linter.unusedVariables false
set_option linter.unusedSimpArgs false
set_option maxRecDepth 100000

theorem place_nd0 (cur : List Int) (a : Nat) : placeF cur a (.mk 0 0 0 [] []) = cur.set a 0 := by
  have h1 : ptrW (.mk 0 0 0 [] []) ((cur.length : Int) - a - 1) = 0 := rfl
  have h2 : objW (.mk 0 0 0 [] []) = [] := rfl
  rw [placeF, h1, h2, List.append_nil]
set_option maxHeartbeats 4000000 in
theorem Disp_any (w0 : World) (wb q cap : Nat) (hwb : w0.heap.size ≤ wb) (hne : wb ≠ q) (hcap : cap ≤ 268435456) : ∀ x : Nd, validN x = true → sizeN x ≤ 1099511627776 → DispC w0 wb q cap x := by
  have hmf : ∀ (fn : Fn) (first cap : Array Value) (w : World), (Instr.makeFunc fn first cap).run Tryd.prog w = .ok (.func fn first cap) w := fun _ _ _ _ => rfl
  refine size_ind ?_
  intro x ih hv hs cur a A c B c2 w hx ha hroom h hb
  have hD : ∀ y ∈ targN x, DispC w0 wb q cap y := fun y hy => ih y (targ_lt hy) (valid_targ hv y hy) (by have := targ_lt hy; omega)
  have HK : Hid (∀ o, Keeps (KS wb q) w (w.alloc o)) := Lib.hid (fun o => ks_alloc (Keeps.refl _ _) o)
  have HW := Lib.hid (fun o => h.alloc o)
  have HB := Lib.hid (fun o => hb.alloc hb.size o)
  clear ih h hb
  obtain ⟨k, e, n, d, ks⟩ := x
  have hkk := valid_k hv
  simp only [Nd.k, Nd.e, Nd.n, Nd.d, Nd.ks] at hkk ⊢
  rcases hkk with rfl | rfl | rfl
  · have h0 := head_nul hv
    unfold nd0 at h0
    injection h0 with _ h1 h2 h3 h4
    subst h1 h2 h3 h4
    have HC := Lib.hid (fun o => Wnull_any wb q cap w0.heap.size a 0 0 0 0 c 0 c2 A B cur (w.alloc o) (HW.out o) hne ha)
    have HP := Lib.hid (place_nd0 cur a)
    clear hx hv hD hroom
    go_enter Tryd.func29, Tryd.ntmps29
    go_wp2_with fail
    refine (HC.out _).mono ?_
    rintro r w5 ⟨rfl, hk5, hw5⟩
    have HK5 := Lib.hid ((HK.out _).trans hk5)
    have HW5 := Lib.hid hw5
    clear hk5 hw5
    go_wp2
    go_end0
    exact ⟨rfl, HK5.out, by rw [HP.out]; exact HW5.out⟩
  · obtain ⟨rfl, rfl, -, -, -⟩ := head_str hv
    have hT : targN (.mk 1 0 0 d ks) = ks := by rw [targN_mk, if_neg (by decide)]
    rw [hT] at hD
    have HC := Lib.hid (fun o => Wstr_any w0 wb q cap hwb hne hcap d ks hv hD cur a A c B c2 (w.alloc o) hx ha hroom (HW.out o) (HB.out o))
    clear hx hv hD hroom hT
    generalize placeF cur a (.mk 1 0 0 d ks) = res at *
    go_enter Tryd.func29, Tryd.ntmps29
    go_wp2_with fail
    refine (HC.out _).mono ?_
    rintro r w5 ⟨rfl, hk5, hw5⟩
    have HK5 := Lib.hid ((HK.out _).trans hk5)
    have HW5 := Lib.hid hw5
    clear hk5 hw5
    go_wp2
    go_end0
    exact ⟨rfl, HK5.out, HW5.out⟩
  · by_cases h7 : e = 7
    · subst h7
      have hT : targN (.mk 2 7 n d ks) = kk ks := by rw [targN_mk, if_pos ⟨rfl, rfl⟩]
      rw [hT] at hD
      have HC := Lib.hid (fun o => Wcomp_any w0 wb q cap hwb hne hcap n d ks hs hv hD cur a A c B c2 (w.alloc o) hx ha hroom (HW.out o) (HB.out o))
      clear hx hv hD hroom hT hs
      generalize placeF cur a (.mk 2 7 n d ks) = res at *
      go_enter Tryd.func29, Tryd.ntmps29
      go_wp2_with fail
      refine (HC.out _).mono ?_
      rintro r w5 ⟨rfl, hk5, hw5⟩
      have HK5 := Lib.hid ((HK.out _).trans hk5)
      have HW5 := Lib.hid hw5
      clear hk5 hw5
      go_wp2
      go_end0
      exact ⟨rfl, HK5.out, HW5.out⟩
    · have hT : targN (.mk 2 e n d ks) = ks := by rw [targN_mk, if_neg (fun hh => h7 hh.2)]
      rw [hT] at hD
      have HC := Lib.hid (fun o => Wlist_any w0 wb q cap hwb hne hcap e n d ks h7 hv hD cur a A c B c2 (w.alloc o) hx ha hroom (HW.out o) (HB.out o))
      have t1 : (e == 7) = false := by simpa using h7
      clear hx hv hD hroom hT h7 hs
      generalize placeF cur a (.mk 2 e n d ks) = res at *
      go_enter Tryd.func29, Tryd.ntmps29
      go_wp2_with fail
      refine (HC.out _).mono ?_
      rintro r w5 ⟨rfl, hk5, hw5⟩
      have HK5 := Lib.hid ((HK.out _).trans hk5)
      have HW5 := Lib.hid hw5
      clear hk5 hw5
      go_wp2
      go_end0
      exact ⟨rfl, HK5.out, HW5.out⟩
end Go.Proofs.YtfigoblpkbpenaaDoor

/- Package canonsize: Node, Total. -/
namespace Go.Proofs.YtfigoblpkbpenaaDoor
open Go.ChangeShapes Go.WideShapes Go.ChangeAt Go.RowKit
set_option linter.unusedVariables false
set_option linter.unusedSimpArgs false
set_option maxRecDepth 100000

theorem CNode_c (x : Nd) (A : Option Addr) (c : Nat) (B : Option Addr) (c2 : Nat) (w : World) (hT : TabOK w) (hx : NdR w A c B c2 x) (hs : sizeN x ≤ 1099511627776) (hv : validN x = true) :
    Calls Tryd.prog 28 #[.agg #[.int .i64 x.k, .int .i64 x.e, .int .i64 x.n, .slice A x.d.length c, .slice B x.ks.length c2]] w fun r w' => r = .returned (.int .i64 (canN x)) ∧ Below w.heap.size w w' := by
  have hcs := can_size x hv
  have HX := Lib.hid hx
  have HT := Lib.hid hT
  have HV := Lib.hid hv
  clear hx hT hv
  go_enter Tryd.func28, Tryd.ntmps28
  go_wp2_with fail
  refine abs_world (F := fun W => Blk W (w.heap.size + 1) #[.int .i64 0] ∧ Blk W (w.heap.size + 1 + 1) #[funK (w.heap.size + 1) (w.heap.size + 1 + 1)] ∧ Blk W (w.heap.size + 1 + 1 + 1) #[.int .i64 x.k, .int .i64 x.e, .int .i64 x.n, .slice A x.d.length c, .slice B x.ks.length c2] ∧ Below w.heap.size w W) ⟨?_, ?_, ?_, ?_⟩ ?_
  · exact ((Blk.new (by simp)).alloc _).alloc _
  · exact (Blk.new (by simp)).alloc _
  · exact Blk.new (by simp)
  · exact ((((Below.refl _ _).alloc (Nat.le_refl _) _).alloc (by simp) _).alloc (by simp; omega) _).alloc (by simp; omega) _
  rintro W ⟨b1, b2, b3, hb⟩
  have HB1 := Lib.hid b1
  have HB := Lib.hid hb
  have hx := HX.out
  have hread : ReadK w W (w.heap.size + 1) (some ⟨w.heap.size + 1 + 1 + 1, 0, none⟩) [x] := by
    intro j hj
    have hj0 : j = 0 := by simpa using hj
    subst hj0
    have hc := b3.cell
    exact ⟨w.heap.size + 1 + 1 + 1, 0, A, c, B, c2, rfl, by omega, b3.lt, hc 0, hc 1, hc 2, hc 3, hc 4, hx⟩
  have hz : sizeK [x] = sizeN x := by simp [sizeK]
  have hcz : canK [x] = canN x := by simp [canK]
  refine (Visit_any (w.heap.size + 1) (w.heap.size + 1 + 1) w HT.out (by omega) (by omega) (sizeN x + 1) [x] (some ⟨w.heap.size + 1 + 1 + 1, 0, none⟩) 1 0 W (by omega) (by omega) (by intro y hy; rw [List.mem_singleton.1 hy]; exact HV.out) (Nat.le_refl _) hb hread (Int.le_refl _) (by omega) b1 b2).mono ?_
  rintro r w4 ⟨rfl, hk4, hs4⟩
  have HW4 : Hid (Below w.heap.size w w4) := Lib.hid (hb.trans ((bel_keeps hk4 (Nat.le_of_lt b1.lt)).mono (by omega)))
  rw [hcz, Int.zero_add] at hs4
  clear b1 b2 b3 hb hread hx hk4 hz hcz
  obtain ⟨x4, y4, z4⟩ := hs4
  go_wp2
  go_ret
  exact ⟨rfl, HW4.out⟩

theorem CTotal_c (x : Nd) (A : Option Addr) (c : Nat) (B : Option Addr) (c2 : Nat) (w : World) (hT : TabOK w) (hx : NdR w A c B c2 x) (hs : sizeN x ≤ 1099511627776) (hv : validN x = true) :
    Calls Tryd.prog 17 #[.agg #[.int .i64 x.k, .int .i64 x.e, .int .i64 x.n, .slice A x.d.length c, .slice B x.ks.length c2]] w fun r w' => r = .returned (.int .i64 (canN x + 1)) ∧ Below w.heap.size w w' := by
  have hcs := can_size x hv
  have HB0 : Hid (∀ o, Below w.heap.size w (w.alloc o)) := Lib.hid (fun o => (Below.refl _ _).alloc (Nat.le_refl _) o)
  have HC := Lib.hid (fun w2 (h2 : Below w.heap.size w w2) => CNode_c x A c B c2 w2 (hT.on h2) (hx.on h2 (Nat.le_refl _)) hs hv)
  clear hx hT hv
  go_enter Tryd.func17, Tryd.ntmps17
  go_wp2_with fail
  refine (HC.out _ (HB0.out _)).mono ?_
  rintro r w1 ⟨rfl, hb1⟩
  have HB1 := Lib.hid (bel_on (HB0.out _) hb1)
  clear hb1
  go_wp2
  go_ret
  exact ⟨rfl, HB1.out⟩
end Go.Proofs.YtfigoblpkbpenaaDoor

/- What the functions of package canonsize do, each by a contract (by the code at 8f6ef9f). -/
namespace Go.Proofs.YtfigoblpkbpenaaDoor
open Go.ChangeShapes Go.WideShapes Go.ChangeAt Go.RowKit
set_option linter.unusedVariables false
set_option linter.unusedSimpArgs false
set_option maxRecDepth 100000

theorem CTotal_any (x : Nd) (A : Option Addr) (c : Nat) (B : Option Addr) (c2 : Nat) (w : World) (hT : TabOK w) (hx : NdR w A c B c2 x) (hs : sizeN x ≤ 1099511627776) (hv : validN x = true) (ht : trimmedN x = true) :
    Calls Tryd.prog 17 #[.agg #[.int .i64 x.k, .int .i64 x.e, .int .i64 x.n, .slice A x.d.length c, .slice B x.ks.length c2]] w fun r w' => r = .returned (.int .i64 (canN x + 1)) ∧ Below w.heap.size w w' :=
  CTotal_c x A c B c2 w hT hx hs hv
end Go.Proofs.YtfigoblpkbpenaaDoor

/- What package canonwrite's Write does, by a contract (by the code at 35a5aec). Promised of well-formed trimmed nodes with a canonical size below 2^28. -/
namespace Go.Proofs.YtfigoblpkbpenaaDoor
open Go.ChangeShapes Go.WideShapes Go.ChangeAt Go.RowKit
set_option linter.unusedVariables false
set_option linter.unusedSimpArgs false
set_option maxRecDepth 100000
attribute [local simp] AllK KnowsV look Is

theorem wp_region_a5k {P : Program} {id : Nat} {o0 o1 o2 o3 o4 t : Oper} (m : Nat) (S : Nat → Prop) {Q : Exit → Act → World → Prop} {a : Act} {w : World} (hm : P.follows .mixedOrders = true) (hB : chainAB a.tmps.size [o0, o1, o2, o3, o4] t = true)
    (h : ChainA P #[o0, o1, o2, o3, o4, t] [o0, o1, o2, o3, o4] t m S a w.drew Q [o0, o1, o2, o3, o4] 0 [] []) : (Code.region id #[o0, o1, o2, o3, o4, t] true).wp P Q a w :=
  wp_region_a [o0, o1, o2, o3, o4] t m S rfl hm hB h
/-- a row of one node, in a block that the writer doesn't write -/
def OneR (S : Nat → Prop) (cs : Array Value) : Fact := fun v w => ∃ b, v = .slice (some ⟨b, 0, none⟩) 1 1 ∧ Blk w b cs ∧ ¬ S b
theorem stable_oner (S : Nat → Prop) (cs : Array Value) : stable (OneR S cs) := fun v w w' ⟨b, h1, h2, h3⟩ hb => ⟨b, h1, h2.below hb, h3⟩
theorem stableK_oner (S : Nat → Prop) (cs : Array Value) : stableK S (OneR S cs) := fun v w w' ⟨b, h1, h2, h3⟩ hk => ⟨b, h1, h2.keepsS hk h3, h3⟩
/-- an operation that makes memory and may come behind number m: what it makes stays known -/
theorem a_new_k {P : Program} {ops : Array Oper} {l : List Oper} {t : Oper} {m : Nat} {S : Nat → Prop} {a0 : Act} {w0 : World} {Q : Exit → Act → World → Prop} {o : Oper} {r : List Oper} {i : Nat} {F G : List (Tmp × Fact)} {d : Tmp} {T : Fact} (L : List Tmp) (hE : before l i m = false) (hd : o.dst = some d) (hL : (L.all fun s => (o.looksAt ops).contains s) = true) (hg : GuardOK ops G a0 o) (hs : stable T) (hsK : stableK S T)
    (h : ∀ ρ w, Keeps S w0 w → Plain ρ → AllK G a0 w ρ L → ∃ v w', (execOp ρ o).run P w = .ok (.value v) w' ∧ T v w' ∧ Below w.heap.size w w') (hr : ChainA P ops l t m S a0 w0 Q r (i + 1) ((d, T) :: F) ((d, T) :: G)) : ChainA P ops l t m S a0 w0 Q (o :: r) i F G := by
  have hm : (i == m) = false := by
    unfold before at hE
    rw [Bool.or_eq_false_iff] at hE
    exact hE.1
  refine ⟨d, T, T, hd, hs, hs, fun _ => hsK, fun _ _ h => h, fun a w hK hb hk => ?_, hr⟩
  rw [if_neg (by rw [hE]; simp)] at hk
  rw [if_pos (wanted_of hg hk)]
  obtain ⟨v, w', h1, h2, h3⟩ := h a.eval w hK (plain_eval a) (allK_of hk hL)
  unfold Oper.wp
  rw [h1]
  exact ⟨v, rfl, h2, by rw [hm, if_neg (by simp)]; exact h3⟩
theorem write_place (x : Nd) : placeK [0] 0 [x] = writeF x := by
  have h : placeK [0] 0 [x] = ptrW x (((1 : Nat) : Int) - ((0 : Nat) : Int) - 1) :: objW x := rfl
  rw [h]
  rfl

set_option maxHeartbeats 4000000 in
/-- the words are of the call's own: they may be written into -/
theorem CWrite_any (x : Nd) (A : Option Addr) (c : Nat) (B : Option Addr) (c2 : Nat) (w : World) (hT : TabOK w) (hx : NdR w A c B c2 x) (hs : sizeN x ≤ 1048576) (hv : validN x = true) (ht : trimmedN x = true) (hc : canN x ≤ 268435455) :
    Calls Tryd.prog 10 #[.agg #[.int .i64 x.k, .int .i64 x.e, .int .i64 x.n, .slice A x.d.length c, .slice B x.ks.length c2]] w fun r w' => ∃ v, r = .returned v ∧ Got w' w.heap.size 32 .u64 v (writeF x) ∧ Below w.heap.size w w' := by
  obtain ⟨i0, hi, hz0, hz1, hz2⟩ := info_parts int64_info
  have hcs := (can_size x hv).1
  obtain ⟨M, hM⟩ : ∃ M : Nat, canN x + 1 = (M : Int) := ⟨(canN x + 1).toNat, by omega⟩
  have hM1 : ¬ ((M : Int) < 1) := by omega
  have hM2 : ¬ (268435456 < (M : Int)) := by omega
  have hM3 : M ≤ 268435456 := by omega
  have HTO := Lib.hid (fun o => CTotal_any x A c B c2 (w.alloc o) (hT.alloc o) (hx.on ((Below.refl _ _).alloc (Nat.le_refl _) o) (Nat.le_refl _)) (by omega) hv ht)
  rw [hM] at HTO
  have HB0 : Hid (∀ o, Below w.heap.size w (w.alloc o)) := Lib.hid (fun o => (Below.refl _ _).alloc (Nat.le_refl _) o)
  have HBX := Lib.hid (Blk.fresh w #[.int .i64 x.k, .int .i64 x.e, .int .i64 x.n, .slice A x.d.length c, .slice B x.ks.length c2] 25)
  have HRF : Hid (∀ (wb q : Nat) (W : World) (b : Nat), w.heap.size ≤ wb → wb ≠ q → ¬ KS wb q b → Blk W b #[.int .i64 x.k, .int .i64 x.e, .int .i64 x.n, .slice A x.d.length c, .slice B x.ks.length c2] → Wr W wb q M w.heap.size [0] → Below w.heap.size w W →
      Calls Tryd.prog 18 #[.pointer (some ⟨wb, 0, none⟩), .int .i64 0, .slice (some ⟨b, 0, none⟩) 1 1] W fun r w' => r = .returned (.tuple #[]) ∧ Keeps (KS wb q) W w' ∧ Wr w' wb q M w.heap.size (writeF x)) := Lib.hid (fun wb q W b h1 h2 h3 h4 h5 h6 => by
    have hr : ReadS w W wb q (some ⟨b, 0, none⟩) [x] := by
      intro j hj
      obtain rfl : j = 0 := by simpa using hj
      have x4 := h4.cell
      exact ⟨b, 0, A, c, B, c2, rfl, h3, h4.lt, by rw [x4]; rfl, by rw [x4]; rfl, by rw [x4]; rfl, by rw [x4]; rfl, by rw [x4]; rfl, hx⟩
    have hcall := Wrefer_any w wb q M h1 h5.q.1 hM3 [x] (fun y hy => by
      obtain rfl : y = x := by simpa using hy
      exact Disp_any w wb q M h1 h2 hM3 y hv (by omega)) (fun y hy => by
      obtain rfl : y = x := by simpa using hy
      exact hv) [0] 0 (some ⟨b, 0, none⟩) 1 W (Nat.le_refl _) hr (Nat.le_refl _) (by simp [canK]; omega) h5 h6
    rw [write_place] at hcall
    exact hcall)
  clear hT hx hs hv ht hc hcs hM
  go_enter Tryd.func10, Tryd.ntmps10
  go_wp2_with fail
  refine (HTO.out _).mono ?_
  rintro r w2 ⟨rfl, hb2⟩
  have HB2 := Lib.hid (bel_on (HB0.out _) hb2)
  have HX2 := Lib.hid (HBX.out.below hb2)
  have hz2' : w.heap.size < w2.heap.size := HX2.out.lt
  clear hb2 HTO HBX HB0
  go_wp2_with (at_make; refine wpList_make_own _ rfl _ _ 29 rfl w.heap.size 32 i0 (.int .u64 0) 1 Tryd.underlying29 hi hz0 hz1 .i64 .i64 _ M rfl rfl rfl (by rw [hz2]; omega) (by unfold maxLen; omega) (by omega) ?_; intro w3 hown3 hgrow3; have HO3 := Lib.hid hown3; have HG3 := Lib.hid hgrow3; clear hown3 hgrow3)
  have hB3 : Below w.heap.size w2 w3 := (Below.refl _ _).grown HG3.out (by omega) (fun g hg => by cases hg)
  have hz3 : w2.heap.size < w3.heap.size := (World.ownsRow.lt HO3.out _ rfl).2
  have hb23 : Below w2.heap.size w2 w3 := ⟨HG3.out.os, HG3.out.tape, HG3.out.output, HG3.out.size, fun k hk => HG3.out.block k hk (fun e => by cases e)⟩
  have HW4 : Hid (Wr (w3.alloc (.cells #[.slice (some ⟨w2.heap.size, 0, none⟩) 0 M] 37)) w3.heap.size w2.heap.size M w.heap.size []) := Lib.hid ⟨Blk.fresh _ _ _, Got.below (w := w3) HO3.out ((Below.refl _ _).alloc (Nat.le_refl _) _) (Nat.le_refl _)⟩
  have HX4 : Hid (Blk (w3.alloc (.cells #[.slice (some ⟨w2.heap.size, 0, none⟩) 0 M] 37)) w.heap.size #[.int .i64 x.k, .int .i64 x.e, .int .i64 x.n, .slice A x.d.length c, .slice B x.ks.length c2]) := Lib.hid ((HX2.out.below hb23).alloc _)
  have HB4 : Hid (Below w.heap.size w (w3.alloc (.cells #[.slice (some ⟨w2.heap.size, 0, none⟩) 0 M] 37))) := Lib.hid ((HB2.out.trans hB3).alloc (by omega) _)
  have HRG := Lib.hid (HRF.out w3.heap.size w2.heap.size)
  have HNX : Hid (¬ KS w3.heap.size w2.heap.size w.heap.size) := Lib.hid (by unfold KS; omega)
  have HWB : Hid (w.heap.size ≤ w3.heap.size ∧ w3.heap.size ≠ w2.heap.size ∧ w.heap.size ≤ w2.heap.size) := Lib.hid ⟨by omega, by omega, by omega⟩
  refine abs_code10 (F := fun W => Wr W w3.heap.size w2.heap.size M w.heap.size [] ∧ Blk W w.heap.size #[.int .i64 x.k, .int .i64 x.e, .int .i64 x.n, .slice A x.d.length c, .slice B x.ks.length c2] ∧ Below w.heap.size w W) ⟨HW4.out, HX4.out, HB4.out⟩ ?_
  rintro W ⟨hw, hbx, hbw⟩
  clear HW4 HX4 HB4 HRF HO3 HG3 hB3 hb23 HX2 HB2 hz2' hz3
  generalize w3.heap.size = wb at *
  generalize w2.heap.size = q at *
  have HBW := Lib.hid hbw
  have HWd : Hid (∀ wc, Below W.drew.heap.size W.drew wc → Wr wc wb q M w.heap.size []) := Lib.hid (fun wc h => hw.below (bel_undrew13 h))
  have HBd : Hid (∀ wc, Keeps (KS wb q) W.drew wc → Blk wc w.heap.size #[.int .i64 x.k, .int .i64 x.e, .int .i64 x.n, .slice A x.d.length c, .slice B x.ks.length c2]) := Lib.hid (fun wc h => hbx.keepsS (undrewS h) HNX.out)
  have HKd : Hid (∀ wc, Keeps (KS wb q) W.drew wc → Below w.heap.size w wc ∧ wb < wc.heap.size ∧ q < wc.heap.size) := Lib.hid (fun wc h => ⟨hbw.trans (ks_below (undrewS h) hbw.size HWB.out.1 HWB.out.2.2), Nat.lt_of_lt_of_le hw.blk.lt h.size, Nat.lt_of_lt_of_le hw.q.2.1 h.size⟩)
  clear hw hbx hbw
  refine wp_region_a5k 2 (KS wb q) (by kernel_rfl) (by kernel_rfl) ?_
  refine a_val_l (u := ?_) [4] (by kernel_rfl) rfl (by kernel_rfl) trivial (fun ρ wc hbc hcn hk => ?_) ?_; rotate_left
  · obtain ⟨hcn, -⟩ := hcn
    simp at hk
    go_simp
    rfl
  refine a_val (u := ?_) [4] (by kernel_rfl) rfl rfl (by kernel_rfl) trivial (fun ρ wc hbc hcn hk => ?_) ?_; rotate_left
  · obtain ⟨hcn, -⟩ := hcn
    simp at hk
    go_simp
    rfl
  refine a_spc (T := WrF wb q M w.heap.size [0] (.int .i64 0)) 19 [18] rfl rfl (by kernel_rfl) trivial (stable_wrf _ _ _ _ _ _) (fun ρ wc hbc hcn hk => ?_) ?_
  · obtain ⟨hcn, hfn⟩ := hcn
    simp at hk
    refine ⟨_, by go_simp; rfl, ?_⟩
    refine (Wzeros_any wb q M w.heap.size 1 [] wc (HWd.out wc hbc) HWB.out.2.1 (by simp; omega) (by omega)).mono ?_
    rintro e w' ⟨rfl, hk', hw'⟩
    exact ⟨_, rfl, ⟨rfl, hw'⟩, hk'⟩
  refine a_val_l (u := ?_) [1] (by kernel_rfl) rfl (by kernel_rfl) trivial (fun ρ wc hbc hcn hk => ?_) ?_; rotate_left
  · obtain ⟨hcn, -⟩ := hcn
    simp at hk
    have x1 := (HBd.out wc hbc).cell
    go_simp
    rfl
  refine a_new_k (T := OneR (KS wb q) #[.int .i64 x.k, .int .i64 x.e, .int .i64 x.n, .slice A x.d.length c, .slice B x.ks.length c2]) [20] (by kernel_rfl) rfl (by kernel_rfl) trivial (stable_oner _ _) (stableK_oner _ _) (fun ρ wc hbc hcn hk => ?_) ?_
  · obtain ⟨hcn, hfn⟩ := hcn
    simp at hk
    have hz := (HKd.out wc hbc).2
    refine ⟨_, _, by go_simp; rfl, ⟨wc.heap.size, rfl, Blk.fresh _ _ _, by unfold KS; omega⟩, ?_⟩
    exact (Below.refl _ _).alloc (Nat.le_refl _) _
  refine a_end_lit 27 (by kernel_rfl) (fun ff w9 hb9 hk => ?_)
  have h19 : WrF wb q M w.heap.size [0] (.int .i64 0) (ff 19) w9 := allN_atF hk 19 (by decide) (by decide)
  have h21 : OneR (KS wb q) #[.int .i64 x.k, .int .i64 x.e, .int .i64 x.n, .slice A x.d.length c, .slice B x.ks.length c2] (ff 21) w9 := allN_atF hk 21 (by decide) (by decide)
  simp [AllN] at hk
  simp only [frameL, hk, Nat.zero_add, Nat.reduceAdd]
  clear hk
  obtain ⟨e19, hw9⟩ := h19
  obtain ⟨b, e21, hb21, hn21⟩ := h21
  rw [e19, e21]
  have HB9 := Lib.hid (HKd.out w9 hb9).1
  have HC9 := Lib.hid (HRG.out w9 b HWB.out.1 HWB.out.2.1 hn21 hb21 hw9 HB9.out)
  have HZ9 := Lib.hid (HKd.out w9 hb9).1.size
  clear hw9 hb21 hn21 e19 e21 hb9 HRG HWd HBd HKd
  go_wp2_with fail
  refine HC9.out.mono ?_
  rintro r w5 ⟨rfl, hk5, hw5⟩
  have HW5 := Lib.hid hw5
  have HB5 : Hid (Below w.heap.size w w5) := Lib.hid (HB9.out.trans (ks_below hk5 HZ9.out HWB.out.1 HWB.out.2.2))
  obtain ⟨x5, y5, z5⟩ := hw5.blk
  clear hk5 hw5
  go_wp2
  go_ret
  exact ⟨_, rfl, HW5.out.got, HB5.out⟩
/-- with its parts written out -/
theorem CWrite_w (x : Nd) (l : List Int) (L : Nat) (A : Option Addr) (c : Nat) (B : Option Addr) (c2 : Nat) (w : World) (hT : TabOK w) (hx : NdR w A c B c2 x) (hs : sizeN x ≤ 1048576) (hv : validN x = true) (ht : trimmedN x = true) (hc : canN x ≤ 268435455) (hl : writeF x = l) (hL : l.length = L) (k e n : Int) (dl kl : Nat) (h1 : x.k = k) (h2 : x.e = e) (h3 : x.n = n) (h4 : x.d.length = dl) (h5 : x.ks.length = kl) :
    Calls Tryd.prog 10 #[.agg #[.int .i64 k, .int .i64 e, .int .i64 n, .slice A dl c, .slice B kl c2]] w fun r w' => ∃ A' c', r = .returned (.slice A' L c') ∧ Got w' w.heap.size 32 .u64 (.slice A' L c') l ∧ Ri w' .u64 A' l ∧ (A' = none → c' = 0) ∧ L ≤ c' ∧ c' ≤ maxLen ∧ Below w.heap.size w w' := by
  subst hl hL h1 h2 h3 h4 h5
  refine (CWrite_any x A c B c2 w hT hx hs hv ht hc).mono ?_
  rintro r w' ⟨v, rfl, hg, hb⟩
  obtain ⟨A', c', rfl, h6, h7, h8, h9⟩ := hg.full
  exact ⟨A', c', rfl, hg, h8, h9, h6, h7, hb⟩
theorem SameWords_w (A B : Option Addr) (c d : Nat) (a b : List Int) (la lb : Nat) (v : Bool) (w : World) (ha : Ri w .u64 A a) (hb : Ri w .u64 B b) (hla : a.length = la) (hlb : b.length = lb) (hm : la ≤ 9223372036854775807) (hm2 : lb ≤ 9223372036854775807) (hv : sameB a b = v) :
    Calls Tryd.prog 9 #[.slice A la c, .slice B lb d] w fun e w' => e = .returned (.bool v) ∧ Below w.heap.size w w' := by
  subst hla hlb hv
  refine (SameWords_any A B c d a b w ha hb hm hm2).mono ?_
  rintro e w' ⟨rfl, m, rfl⟩
  exact ⟨rfl, bel_drewN (Below.refl _ _) m⟩
end Go.Proofs.YtfigoblpkbpenaaDoor

/- The canonical size of a small node is small. -/
namespace Go.Proofs.YtfigoblpkbpenaaDoor
open Go.ChangeShapes Go.WideShapes Go.ChangeAt Go.RowKit
set_option linter.unusedVariables false
set_option linter.unusedSimpArgs false
set_option maxRecDepth 100000

theorem size_d (x : Nd) : x.d.length < sizeN x ∧ x.ks.length < sizeN x := by
  obtain ⟨k, e, n, d, ks⟩ := x
  have := sizeK_length ks
  simp only [sizeN, Nd.d, Nd.ks]
  omega
theorem canO_own {x : Nd} (h : validN x = true) (M : Nat) (hM : sizeN x ≤ M) : canO x ≤ ((sizeN x : Int) - sizeK (targN x)) * (2 * M) := by
  obtain ⟨k, e, n, d, ks⟩ := x
  have hk := valid_k h
  simp only [Nd.k] at hk
  have hs : sizeN (.mk k e n d ks) = 1 + d.length + sizeK ks := by simp only [sizeN]
  have hkl := sizeK_length ks
  have hmul : ∀ p q : Int, 0 ≤ p → 1 ≤ q → p ≤ q * p := fun p q hp hq => by
    have := Int.mul_le_mul_of_nonneg_right hq hp
    rwa [Int.one_mul] at this
  rcases hk with rfl | rfl | rfl
  · rw [head_nul h]
    have e1 : canO nd0 = 0 := rfl
    have e2 : ((sizeN nd0 : Int) - sizeK (targN nd0)) = 1 := rfl
    rw [e1, e2]
    omega
  · have hT : targN (.mk 1 e n d ks) = ks := by rw [targN_mk, if_neg (by omega)]
    have hO : canO (.mk 1 e n d ks) = ((d.length / 8 + ks.length : Nat) : Int) := rfl
    rw [hT, hO, hs]
    have h1 := hmul (2 * M) ((1 + d.length + sizeK ks : Nat) - (sizeK ks : Int)) (by omega) (by omega)
    omega
  · obtain ⟨g1, g2, g3, g4, g5, g6⟩ := head_lst h
    by_cases h7 : e = 7
    · subst h7
      have hT : targN (.mk 2 7 n d ks) = kk ks := by rw [targN_mk, if_pos ⟨rfl, rfl⟩]
      have hO : canO (.mk 2 7 n d ks) = 1 + n * ((uniD ks ks.length + uniP ks ks.length : Nat) : Int) := by
        show canOf 2 7 n d ks = _
        unfold canOf
        rw [if_neg (show ¬ ((2 : Int) = 0) by decide), if_neg (show ¬ ((2 : Int) = 1) by decide), if_pos rfl]
      obtain ⟨-, g8⟩ := g5 (by decide)
      have hk2 := sizeK_kk2 ks
      have hu : ∀ y ∈ ks, y.d.length / 8 ≤ M ∧ y.ks.length ≤ M := fun y hy => by
        have h1 := sizeN_kid hy
        have h2 := size_d y
        omega
      have hu1 := uniD_le ks M ks.length (Nat.le_refl _) (fun y hy => (hu y hy).1)
      have hu2 := uniP_le ks M ks.length (Nat.le_refl _) (fun y hy => (hu y hy).2)
      rw [hT, hO, hs, ← g8]
      have h1 : (ks.length : Int) * ((uniD ks ks.length + uniP ks ks.length : Nat) : Int) ≤ (ks.length : Int) * (2 * M) := Int.mul_le_mul_of_nonneg_left (by omega) (by omega)
      have h2 : ((ks.length : Int) + 1) * (2 * M) ≤ (((1 + d.length + sizeK ks : Nat) : Int) - sizeK (kk ks)) * (2 * M) := Int.mul_le_mul_of_nonneg_right (by omega) (by omega)
      rw [Int.add_mul, Int.one_mul] at h2
      omega
    · have hT : targN (.mk 2 e n d ks) = ks := by rw [targN_mk, if_neg (by omega)]
      have hO : canO (.mk 2 e n d ks) = wordsI e n := by show canOf 2 e n d ks = _; unfold canOf; rw [if_neg (show ¬ ((2 : Int) = 0) by decide), if_neg (show ¬ ((2 : Int) = 1) by decide), if_neg h7]
      have hwI : wordsI e n = (bitsI e * n + 63) / 64 := by unfold wordsI; rw [if_neg h7]
      have hbi := bitsI_mul e n g1
      rw [hT, hO, hs]
      have h1 := hmul (2 * M) ((1 + d.length + sizeK ks : Nat) - (sizeK ks : Int)) (by omega) (by omega)
      rcases (by omega : e < 6 ∨ e = 6) with h | h
      · obtain ⟨-, g8, -⟩ := g6 h
        have hBI : bytesI e n = (bitsI e * n + 7) / 8 := rfl
        omega
      · obtain ⟨-, g8⟩ := g5 (by omega)
        omega
theorem can_own : ∀ x : Nd, validN x = true → ∀ M : Nat, sizeN x ≤ M → canN x ≤ (sizeN x : Int) * (2 * M) := size_ind (by
  intro x ih h M hM
  have h1 := canO_own h M hM
  have h2 : ∀ l : List Nd, (∀ y ∈ l, canN y ≤ (sizeN y : Int) * (2 * M)) → canK l ≤ (sizeK l : Int) * (2 * M) := by
    intro l hl
    induction l with
    | nil => simp [canK, sizeK]
    | cons y ys ih2 =>
      have h3 := hl y (List.mem_cons_self ..)
      have h4 := ih2 (fun z hz => hl z (List.mem_cons_of_mem _ hz))
      simp only [canK, sizeK]
      rw [Int.natCast_add, Int.add_mul]
      omega
  have h3 := h2 (targN x) (fun y hy => ih y (targ_lt hy) (valid_targ h y hy) M (by have := targ_lt hy; omega))
  rw [Int.sub_mul] at h1
  rw [canN_eq]
  omega)
/-- a node that counts as small -/
theorem can_few {x : Nd} (h : validN x = true) (hs : sizeN x ≤ 3000) : 0 ≤ canN x ∧ canN x ≤ 18000000 := by
  have h1 := can_own x h 3000 hs
  refine ⟨(can_size x h).1, Int.le_trans h1 ?_⟩
  omega
end Go.Proofs.YtfigoblpkbpenaaDoor
