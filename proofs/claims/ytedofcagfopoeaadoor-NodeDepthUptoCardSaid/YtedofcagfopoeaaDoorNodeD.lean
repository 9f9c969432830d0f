/- Package node: Depth and Objects (ranges over the iterator of XNodeC). -/
import Derived.Test.YtedofcagfopoeaaDoorNodeC
namespace Go.Proofs.YtedofcagfopoeaaDoor
open Go.ChangeShapes Go.WideShapes Go.ChangeAt Go.RowKit Go.Shelf
set_option linter.unusedVariables false
set_option linter.unusedSimpArgs false
attribute [local go_sem] Oper.semAt_some

/-- the nodes of a list of objects -/
def nds {w : World} {x : Nd} (l : List (Ref w x)) : List Nd := l.map (fun p => p.1.x)
theorem nds_snoc {w : World} {x : Nd} (l : List (Ref w x)) (p : Ref w x) : nds (l ++ [p]) = nds l ++ [p.1.x] := by unfold nds; rw [List.map_append]; rfl

theorem wrap_add (a b : Int) : IntKind.i64.wrap (a + b) = IntKind.i64.wrap (IntKind.i64.wrap a + b) := by
  rw [IntKind.wrap_i64, IntKind.wrap_i64, IntKind.wrap_i64]
  omega
theorem objs_snoc (l : List Nd) (y : Nd) : ((1 + objsK (l ++ [y]) : Nat) : Int) = ((1 + objsK l : Nat) : Int) + (objsN y : Int) := by
  rw [objsK_append]
  simp only [objsK]
  omega

theorem Iter_stops (n : Nat) (hn : 1 ≤ n) (bn D : Nat) (x : Nd) (A : Option Addr) (c : Nat) (B : Option Addr) (c2 : Nat) (w w0 : World) (hx : NdR w A c B c2 x) (hs : sizeN x ≤ 1099511627776) (hb : Below w.heap.size w w0) (hD : w.heap.size ≤ D) (hD2 : D < w0.heap.size)
    (hbl : bn < w0.heap.size) (hbn : ∀ o, w0.cell? ⟨bn, o, none⟩ = (cells5 x A c B c2)[o]?) :
    SeqStopsK Fence.wide n Tryd.prog 33 #[.pointer (some ⟨bn, 0, none⟩)] (fun p : Ref w x => #[Pos.val p.1]) (KpR w.heap.size D) (fun ys => nds ys = nzs (targN x)) (fun _ => True) (nzs (targN x)).length w0 :=
  fun l J Jx W hW hJ hJx hY h0 => Iter_in n hn l bn D x A c B c2 w W hx hs (hb.trans (hW.mono hb.size)) hD (by have := hW.size; omega) (fun o => (hW.cell (p := ⟨bn, o, none⟩) hbl).trans (hbn o)) J Jx hJ hY h0

theorem depthK_nzs (l : List Nd) : depthK (nzs l) = depthK l := by
  induction l with
  | nil => rfl
  | cons y ys ih =>
    unfold nzs at *
    by_cases h : y.k = 0
    · rw [List.filter_cons_of_neg (by simp [nz, h]), ih]
      have : depthN y = 0 := by rw [depthN_eq, if_pos h]
      simp only [depthK, this]; omega
    · rw [List.filter_cons_of_pos (by simp [nz, h])]
      simp only [depthK, ih]
theorem objsK_nzs (l : List Nd) : objsK (nzs l) = objsK l := by
  induction l with
  | nil => rfl
  | cons y ys ih =>
    unfold nzs at *
    by_cases h : y.k = 0
    · rw [List.filter_cons_of_neg (by simp [nz, h]), ih]
      have : objsN y = 0 := by rw [objsN_eq, if_pos h]
      simp only [objsK, this]; omega
    · rw [List.filter_cons_of_pos (by simp [nz, h])]
      simp only [objsK, ih]
theorem keepsFrom_below {N : Nat} {W W' : World} (h : Below W.heap.size W W') : KeepsFrom N W W' := ⟨h.size, fun k o _ hk _ => (h.block k (Array.getElem?_eq_some_iff.1 hk).1).trans hk⟩
theorem kpR_t {N D : Nat} {X Y Z : World} (h : KpR N D X Y) (k : KpR N D Y Z) : KpR N D X Z := ⟨h.1.trans k.1, h.2.trans k.2⟩
theorem kpR_b {N D : Nat} {w : World} (hn : N ≤ w.heap.size) (W : World) (l : Nat) (o o' : Obj) (hl : w.heap.size ≤ l) (h : W.heap[l]? = some o) (hc : o.isCells = false) (hw : o.isWalk = false) : KpR N D W (W.putObj l o') :=
  ⟨belowK_b hn W l o o' hl h hc hw, KeepC.putObj W l o o' h hc⟩
theorem kpR_below {N D : Nat} {W W' : World} (hn : N ≤ W.heap.size) (h : Below W.heap.size W W') : KpR N D W W' := ⟨h.mono hn, KeepC.of_below h⟩

def Box5 (W : World) (b : Nat) (cs : Array Value) : Prop := W.heap[b]? = some (.cells cs 25 (0, 0))
theorem box5_own {β : Type} (b : Nat) (f : β → Array Value) : Own (fun s W => Box5 W b (f s)) := fun s X Y row hs hg hrow =>
  (hg.block b (Array.getElem?_eq_some_iff.1 (show X.heap[b]? = _ from hs)).1 (fun e' => by obtain ⟨o, ho, hc⟩ := hrow b e'.symm; rw [show X.heap[b]? = _ from hs] at ho; cases ho; cases hc)).trans hs
theorem Box5.new (W : World) (cs : Array Value) : Box5 (W.alloc (.cells cs 25)) W.heap.size cs := World.alloc_heap_new W _
theorem Box5.cell {W : World} {b : Nat} {cs : Array Value} (h : Box5 W b cs) (o : Nat) : W.cell? ⟨b, o, none⟩ = cs[o]? := by simp [World.cell?, show W.heap[b]? = _ from h]
theorem boxed_on {W W' : World} {b : Nat} {t : TypeId} {v : Value} (h : Boxed W b t v) (hb : Below W.heap.size W W') : Boxed W' b t v := (hb.block b h.lt).trans h

set_option maxRecDepth 100000 in
set_option maxHeartbeats 4000000 in
theorem NDepth_all : ∀ (x : Nd) (A : Option Addr) (c : Nat) (B : Option Addr) (c2 : Nat) (w : World), NdR w A c B c2 x → sizeN x ≤ 1099511627776 →
    Calls Tryd.prog 14 #[.agg #[.int .i64 x.k, .int .i64 x.e, .int .i64 x.n, .slice A x.d.length c, .slice B x.ks.length c2]] w fun r w' => r = .returned (.int .i64 (depthN x)) ∧ Below w.heap.size w w' := by
  refine size_ind ?_
  intro x ih A c B c2 w hx hs
  have HE := Lib.hid (depthN_eq x)
  by_cases hk : x.k = 0
  · have t1 : (x.k == 0) = true := by simpa using hk
    have HR : Hid (depthN x = 0) := Lib.hid (by rw [HE.out, if_pos hk])
    clear hk HE ih hx
    go_enter Tryd.func14, Tryd.ntmps14
    go_wp2
    go_ret
    exact ⟨by rw [HR.out]; rfl, (Below.refl _ _).alloc (Nat.le_refl _) _⟩
  have t1 : (x.k == 0) = false := by simpa using hk
  have HR : Hid (depthN x = 1 + depthK (targN x)) := Lib.hid (by rw [HE.out, if_neg hk])
  have HI := Lib.hid ih
  clear hk HE ih
  refine (callsIn_wide (n := 6)).1 ?_
  refine callsIn_of_wp_marks Tryd.func14 rfl trivial ?_ rfl
  simp only [Tryd.ntmps14, List.size_toArray, List.length_cons, List.length_nil, Nat.reduceAdd, Nat.reduceSub, Array.replicate_succ, Array.replicate_zero, List.push_toArray, List.append_toArray, List.nil_append, List.cons_append]
  gi_wp2_with (refine ⟨trivial, ?_⟩; gi_at_call 28; refine (callsIn_wide.2 (Referents_any x A c B c2 _)).mono ?_; rintro e w' ⟨rfl, rfl⟩)
  have bD := (Boxed.new (w.alloc (.cells #[.int .i64 x.k, .int .i64 x.e, .int .i64 x.n, .slice A x.d.length c, .slice B x.ks.length c2] 25)) 3 (.int .i64 0)).alloc (.cells #[.int .i64 x.k, .int .i64 x.e, .int .i64 x.n, .slice A x.d.length c, .slice B x.ks.length c2] 25)
  have bN := Box5.new ((w.alloc (.cells #[.int .i64 x.k, .int .i64 x.e, .int .i64 x.n, .slice A x.d.length c, .slice B x.ks.length c2] 25)).alloc (.cells #[.int .i64 0] 3)) #[.int .i64 x.k, .int .i64 x.e, .int .i64 x.n, .slice A x.d.length c, .slice B x.ks.length c2]
  simp only [World.size_alloc] at bD bN
  have hB0 : Below w.heap.size w (((w.alloc (.cells #[.int .i64 x.k, .int .i64 x.e, .int .i64 x.n, .slice A x.d.length c, .slice B x.ks.length c2] 25)).alloc (.cells #[.int .i64 0] 3)).alloc (.cells #[.int .i64 x.k, .int .i64 x.e, .int .i64 x.n, .slice A x.d.length c, .slice B x.ks.length c2] 25)) := (((Below.refl _ w).alloc (Nat.le_refl _) _).alloc (by simp) _).alloc (by simp; omega) _
  have hsz : (((w.alloc (.cells #[.int .i64 x.k, .int .i64 x.e, .int .i64 x.n, .slice A x.d.length c, .slice B x.ks.length c2] 25)).alloc (.cells #[.int .i64 0] 3)).alloc (.cells #[.int .i64 x.k, .int .i64 x.e, .int .i64 x.n, .slice A x.d.length c, .slice B x.ks.length c2] 25)).heap.size = w.heap.size + 3 := by simp
  obtain ⟨W0, hW0⟩ : ∃ W0, ((w.alloc (.cells #[.int .i64 x.k, .int .i64 x.e, .int .i64 x.n, .slice A x.d.length c, .slice B x.ks.length c2] 25)).alloc (.cells #[.int .i64 0] 3)).alloc (.cells #[.int .i64 x.k, .int .i64 x.e, .int .i64 x.n, .slice A x.d.length c, .slice B x.ks.length c2] 25) = W0 := ⟨_, rfl⟩
  rw [hW0] at bD bN hB0 hsz ⊢
  clear hW0
  refine wpIn_rangeFunc_ownH (α := Ref w x) rfl (by omega) (gf := 33) (lb := #[.pointer (some ⟨w.heap.size + 1 + 1, 0, none⟩)]) rfl trivial (enters_of Tryd.func33 (by kernel_rfl) rfl)
    (Iter_stops 5 (by omega) (w.heap.size + 1 + 1) (w.heap.size + 1) x A c B c2 w W0 hx hs hB0 (by omega) (by omega) (by omega) bN.cell) kpR_t (kpR_b (by omega)) (Below.refl _ _) (fun _ => rfl)
    (fun pre W => Boxed W (w.heap.size + 1) 3 (.int .i64 ((depthK (nds pre) : Nat) : Int)) ∧ Below w.heap.size w W)
    (fun _ _ _ => False)
    (OwnFrom.and (Own.from (boxed_own _ _ _) _) (ownFrom_below (Nat.le_refl _) (by omega)))
    (fun _ _ _ _ _ hs _ _ => hs)
    ⟨bD, hB0⟩
    (fun p a' W => ∃ Bx, w.heap.size + 1 < Bx ∧ Box5 W Bx #[.int .i64 p.1.x.k, .int .i64 p.1.x.e, .int .i64 p.1.x.n, .slice p.1.A p.1.x.d.length p.1.c, .slice p.1.B p.1.x.ks.length p.1.c2] ∧ a' = { tmps := #[.agg #[.int .i64 x.k, .int .i64 x.e, .int .i64 x.n, .slice A x.d.length c, .slice B x.ks.length c2], .pointer (some ⟨w.heap.size, 0, none⟩), .int .i64 0, .pointer (some ⟨w.heap.size + 1, 0, none⟩), .pointer (some ⟨Bx, 0, none⟩), .pointer (some ⟨w.heap.size, 0, none⟩), .int .i64 x.k, .bool false,
      .agg #[.int .i64 x.k, .int .i64 x.e, .int .i64 x.n, .slice A x.d.length c, .slice B x.ks.length c2], .func (.func 33) #[] #[.pointer (some ⟨w.heap.size + 1 + 1, 0, none⟩)], Pos.val p.1, undef, undef, undef, undef, undef, undef], defers := [] })
    (fun p a' _ X Y row hs hg hr => by obtain ⟨Bx, h1, h2, h3⟩ := hs; exact ⟨Bx, h1, box5_own Bx (fun (_ : Unit) => _) () X Y row h2 hg (fun r e => (hr r e).2), h3⟩)
    ?assign ?body ?done ?stop
  case assign =>
    rintro l pre p W K ⟨bD1, hB1⟩ hK
    dsimp only [Pos.val]
    gi_wp2
    exact hK _ _ ((KeepsOthers.alloc _ _).from _) (kpR_below hB1.size ((Below.refl _ W).alloc (Nat.le_refl _) _)) ⟨bD1.alloc _, hB1.alloc hB1.size _⟩ ⟨W.heap.size, bD1.lt, Box5.new W _, rfl⟩
  case body =>
    rintro l pre p a' W hl ⟨r, hr⟩ ⟨bD1, hB1⟩ ⟨Bx, hBx, bX, rfl⟩ hlt
    have hmx : Tryd.prog.follows .mixedOrders = true := by kernel_rfl
    have hlt3 := targ_lt p.2.2.1
    have hdz := depth_objs p.1.x
    have hdz2 := objs_size p.1.x
    have hDW : Below w.heap.size w W.drew := bel_drew hB1
    have HC := Lib.hid (HI.out p.1.x hlt3 p.1.A p.1.c p.1.B p.1.c2 W.drew (p.2.1.on hDW (Nat.le_refl _)) (by omega))
    have HB1 := Lib.hid hB1
    have bD2 : Boxed W.drew (w.heap.size + 1) 3 (.int .i64 ((depthK (nds pre) : Nat) : Int)) := bD1
    have BD2 := Lib.hid bD2
    have hS : depthK (nds (pre ++ [p])) = max (depthK (nds pre)) (depthN p.1.x) := by
      rw [nds_snoc, depthK_append]
      simp [depthK]
    have HS := Lib.hid hS
    have cD := bD1.cell
    have fD := bD1.frozen
    have cX := bX.cell
    clear hS bD2 hDW hB1 HI
    generalize depthK (nds pre) = dd at *
    have hd : 1 ≤ 6 - 1 - 1 := by omega
    gi_wp2
    have HCI := Lib.hid (CallsIn.inRound (n := 3) l (callsIn_wide.2 HC.out))
    have hw14 : Fence.wide.fn 14 := trivial
    gi_region_with_o (gi_at_call 14; refine HCI.out.mono ?_; rintro e w' ⟨rfl, hb'⟩; have cD3 := (boxed_on BD2.out hb').cell; have fD3 := (boxed_on BD2.out hb').frozen; have HB' := Lib.hid hb'; clear hb')
    all_goals gi_wp2
    all_goals
      have hb2 : Below W.heap.size W w' := (bel_drew (Below.refl _ W)).trans HB'.out
      refine ⟨(keepsFrom_below hb2).trans ((KeepsOthers.setCell _ _ _).from _), kpR_t (kpR_below HB1.out.size hb2) ⟨(Below.refl _ _).setCell (p := ⟨w.heap.size + 1, 0, none⟩) (Nat.le_succ _) _, KeepC.setCell _ _⟩, ?_, (HB1.out.trans (hb2.mono HB1.out.size)).setCell (p := ⟨w.heap.size + 1, 0, none⟩) (Nat.le_succ _) _⟩
      rw [HS.out]
      first
        | (rw [show max dd (depthN p.1.x) = depthN p.1.x by omega]; exact (boxed_on BD2.out HB'.out).set _)
        | (rw [show max dd (depthN p.1.x) = dd by omega]; exact (boxed_on BD2.out HB'.out).set _)
  case done =>
    rintro D ys W hD hys ⟨bD1, hB1⟩ hK
    rw [hys, depthK_nzs] at bD1
    have hz := depthK_size (targN x)
    have hz2 := sizeK_targ x
    have cD := bD1.cell
    gi_wp2
    refine ⟨by simp, .inl ⟨_, _, rfl, run_takeDeferred hK, ?_⟩⟩
    exact ⟨_, results_tmp rfl _ _ _, by rw [HR.out]; first | rfl | go_num, hB1.trans (belowK_b (w := w) (Nat.le_refl _) W D _ _ (by omega) hK rfl rfl)⟩
  case stop =>
    rintro D c pre W _ _ h _
    exact h.elim
set_option maxRecDepth 100000 in
set_option maxHeartbeats 4000000 in
theorem NObjects_all : ∀ (x : Nd) (A : Option Addr) (c : Nat) (B : Option Addr) (c2 : Nat) (w : World), NdR w A c B c2 x → sizeN x ≤ 1099511627776 →
    Calls Tryd.prog 16 #[.agg #[.int .i64 x.k, .int .i64 x.e, .int .i64 x.n, .slice A x.d.length c, .slice B x.ks.length c2]] w fun r w' => r = .returned (.int .i64 (objsN x)) ∧ Below w.heap.size w w' := by
  refine size_ind ?_
  intro x ih A c B c2 w hx hs
  have HE := Lib.hid (objsN_eq x)
  by_cases hk : x.k = 0
  · have t1 : (x.k == 0) = true := by simpa using hk
    have HR : Hid (objsN x = 0) := Lib.hid (by rw [HE.out, if_pos hk])
    clear hk HE ih hx
    go_enter Tryd.func16, Tryd.ntmps16
    go_wp2
    go_ret
    exact ⟨by rw [HR.out]; rfl, (Below.refl _ _).alloc (Nat.le_refl _) _⟩
  have t1 : (x.k == 0) = false := by simpa using hk
  have HR : Hid (objsN x = 1 + objsK (targN x)) := Lib.hid (by rw [HE.out, if_neg hk])
  have HI := Lib.hid ih
  clear hk HE ih
  refine (callsIn_wide (n := 6)).1 ?_
  refine callsIn_of_wp_marks Tryd.func16 rfl trivial ?_ rfl
  simp only [Tryd.ntmps16, List.size_toArray, List.length_cons, List.length_nil, Nat.reduceAdd, Nat.reduceSub, Array.replicate_succ, Array.replicate_zero, List.push_toArray, List.append_toArray, List.nil_append, List.cons_append]
  gi_wp2_with (refine ⟨trivial, ?_⟩; gi_at_call 28; refine (callsIn_wide.2 (Referents_any x A c B c2 _)).mono ?_; rintro e w' ⟨rfl, rfl⟩)
  have bD := (Boxed.new (w.alloc (.cells #[.int .i64 x.k, .int .i64 x.e, .int .i64 x.n, .slice A x.d.length c, .slice B x.ks.length c2] 25)) 3 (.int .i64 1)).alloc (.cells #[.int .i64 x.k, .int .i64 x.e, .int .i64 x.n, .slice A x.d.length c, .slice B x.ks.length c2] 25)
  have bN := Box5.new ((w.alloc (.cells #[.int .i64 x.k, .int .i64 x.e, .int .i64 x.n, .slice A x.d.length c, .slice B x.ks.length c2] 25)).alloc (.cells #[.int .i64 1] 3)) #[.int .i64 x.k, .int .i64 x.e, .int .i64 x.n, .slice A x.d.length c, .slice B x.ks.length c2]
  simp only [World.size_alloc] at bD bN
  have hB0 : Below w.heap.size w (((w.alloc (.cells #[.int .i64 x.k, .int .i64 x.e, .int .i64 x.n, .slice A x.d.length c, .slice B x.ks.length c2] 25)).alloc (.cells #[.int .i64 1] 3)).alloc (.cells #[.int .i64 x.k, .int .i64 x.e, .int .i64 x.n, .slice A x.d.length c, .slice B x.ks.length c2] 25)) := (((Below.refl _ w).alloc (Nat.le_refl _) _).alloc (by simp) _).alloc (by simp; omega) _
  have hsz : (((w.alloc (.cells #[.int .i64 x.k, .int .i64 x.e, .int .i64 x.n, .slice A x.d.length c, .slice B x.ks.length c2] 25)).alloc (.cells #[.int .i64 1] 3)).alloc (.cells #[.int .i64 x.k, .int .i64 x.e, .int .i64 x.n, .slice A x.d.length c, .slice B x.ks.length c2] 25)).heap.size = w.heap.size + 3 := by simp
  obtain ⟨W0, hW0⟩ : ∃ W0, ((w.alloc (.cells #[.int .i64 x.k, .int .i64 x.e, .int .i64 x.n, .slice A x.d.length c, .slice B x.ks.length c2] 25)).alloc (.cells #[.int .i64 1] 3)).alloc (.cells #[.int .i64 x.k, .int .i64 x.e, .int .i64 x.n, .slice A x.d.length c, .slice B x.ks.length c2] 25) = W0 := ⟨_, rfl⟩
  rw [hW0] at bD bN hB0 hsz ⊢
  clear hW0
  have bD0 : Boxed W0 (w.heap.size + 1) 3 (.int .i64 (IntKind.i64.wrap ((1 + objsK (nds ([] : List (Ref w x))) : Nat) : Int))) := by
    rw [show IntKind.i64.wrap ((1 + objsK (nds ([] : List (Ref w x))) : Nat) : Int) = 1 by rw [IntKind.wrap_i64]; simp [nds, objsK]]
    exact bD
  refine wpIn_rangeFunc_ownH (α := Ref w x) rfl (by omega) (gf := 33) (lb := #[.pointer (some ⟨w.heap.size + 1 + 1, 0, none⟩)]) rfl trivial (enters_of Tryd.func33 (by kernel_rfl) rfl)
    (Iter_stops 5 (by omega) (w.heap.size + 1 + 1) (w.heap.size + 1) x A c B c2 w W0 hx hs hB0 (by omega) (by omega) (by omega) bN.cell) kpR_t (kpR_b (by omega)) (Below.refl _ _) (fun _ => rfl)
    (fun pre W => Boxed W (w.heap.size + 1) 3 (.int .i64 (IntKind.i64.wrap ((1 + objsK (nds pre) : Nat) : Int))) ∧ Below w.heap.size w W)
    (fun _ _ _ => False)
    (OwnFrom.and (Own.from (boxed_own _ _ _) _) (ownFrom_below (Nat.le_refl _) (by omega)))
    (fun _ _ _ _ _ hs _ _ => hs)
    ⟨bD0, hB0⟩
    (fun p a' W => ∃ Bx, w.heap.size + 1 < Bx ∧ Box5 W Bx #[.int .i64 p.1.x.k, .int .i64 p.1.x.e, .int .i64 p.1.x.n, .slice p.1.A p.1.x.d.length p.1.c, .slice p.1.B p.1.x.ks.length p.1.c2] ∧ a' = { tmps := #[.agg #[.int .i64 x.k, .int .i64 x.e, .int .i64 x.n, .slice A x.d.length c, .slice B x.ks.length c2], .pointer (some ⟨w.heap.size, 0, none⟩), .int .i64 0, .pointer (some ⟨w.heap.size + 1, 0, none⟩), .pointer (some ⟨Bx, 0, none⟩), .pointer (some ⟨w.heap.size, 0, none⟩), .int .i64 x.k, .bool false,
      .agg #[.int .i64 x.k, .int .i64 x.e, .int .i64 x.n, .slice A x.d.length c, .slice B x.ks.length c2], .func (.func 33) #[] #[.pointer (some ⟨w.heap.size + 1 + 1, 0, none⟩)], Pos.val p.1, undef, undef, undef, undef, undef], defers := [] })
    (fun p a' _ X Y row hs hg hr => by obtain ⟨Bx, h1, h2, h3⟩ := hs; exact ⟨Bx, h1, box5_own Bx (fun (_ : Unit) => _) () X Y row h2 hg (fun r e => (hr r e).2), h3⟩)
    ?assign ?body ?done ?stop
  case assign =>
    rintro l pre p W K ⟨bD1, hB1⟩ hK
    dsimp only [Pos.val]
    gi_wp2
    exact hK _ _ ((KeepsOthers.alloc _ _).from _) (kpR_below hB1.size ((Below.refl _ W).alloc (Nat.le_refl _) _)) ⟨bD1.alloc _, hB1.alloc hB1.size _⟩ ⟨W.heap.size, bD1.lt, Box5.new W _, rfl⟩
  case body =>
    rintro l pre p a' W hl ⟨r, hr⟩ ⟨bD1, hB1⟩ ⟨Bx, hBx, bX, rfl⟩ hlt
    have hmx : Tryd.prog.follows .mixedOrders = true := by kernel_rfl
    have hlt3 := targ_lt p.2.2.1
    have hdz2 := objs_size p.1.x
    have hDW : Below w.heap.size w W.drew := bel_drew hB1
    have HC := Lib.hid (HI.out p.1.x hlt3 p.1.A p.1.c p.1.B p.1.c2 W.drew (p.2.1.on hDW (Nat.le_refl _)) (by omega))
    have HB1 := Lib.hid hB1
    have bD2 : Boxed W.drew (w.heap.size + 1) 3 (.int .i64 (IntKind.i64.wrap ((1 + objsK (nds pre) : Nat) : Int))) := bD1
    have BD2 := Lib.hid bD2
    have hS : IntKind.i64.wrap ((1 + objsK (nds (pre ++ [p])) : Nat) : Int) = IntKind.i64.wrap (IntKind.i64.wrap ((1 + objsK (nds pre) : Nat) : Int) + (objsN p.1.x : Int)) := by
      rw [nds_snoc, objs_snoc]
      exact wrap_add _ _
    have HS := Lib.hid hS
    have cD := bD1.cell
    have fD := bD1.frozen
    have cX := bX.cell
    clear hS bD2 hDW hB1 HI
    generalize IntKind.i64.wrap ((1 + objsK (nds pre) : Nat) : Int) = dd at *
    have hd : 1 ≤ 6 - 1 - 1 := by omega
    gi_wp2
    have HCI := Lib.hid (CallsIn.inRound (n := 3) l (callsIn_wide.2 HC.out))
    have hw14 : Fence.wide.fn 16 := trivial
    gi_region_with_o (gi_at_call 16; refine HCI.out.mono ?_; rintro e w' ⟨rfl, hb'⟩; have cD3 := (boxed_on BD2.out hb').cell; have fD3 := (boxed_on BD2.out hb').frozen; have HB' := Lib.hid hb'; clear hb')
    all_goals gi_wp2
    all_goals
      have hb2 : Below W.heap.size W w' := (bel_drew (Below.refl _ W)).trans HB'.out
      refine ⟨(keepsFrom_below hb2).trans ((KeepsOthers.setCell _ _ _).from _), kpR_t (kpR_below HB1.out.size hb2) ⟨(Below.refl _ _).setCell (p := ⟨w.heap.size + 1, 0, none⟩) (Nat.le_succ _) _, KeepC.setCell _ _⟩, ?_, (HB1.out.trans (hb2.mono HB1.out.size)).setCell (p := ⟨w.heap.size + 1, 0, none⟩) (Nat.le_succ _) _⟩
      rw [HS.out]
      exact (boxed_on BD2.out HB'.out).set _
  case done =>
    rintro D ys W hD hys ⟨bD1, hB1⟩ hK
    rw [hys, objsK_nzs] at bD1
    have hz := objsK_size (targN x)
    have hz2 := sizeK_targ x
    rw [show IntKind.i64.wrap ((1 + objsK (targN x) : Nat) : Int) = ((1 + objsK (targN x) : Nat) : Int) by rw [IntKind.wrap_i64]; omega] at bD1
    have cD := bD1.cell
    gi_wp2
    refine ⟨by simp, .inl ⟨_, _, rfl, run_takeDeferred hK, ?_⟩⟩
    exact ⟨_, results_tmp rfl _ _ _, by rw [HR.out]; first | rfl | go_num, hB1.trans (belowK_b (w := w) (Nat.le_refl _) W D _ _ (by omega) hK rfl rfl)⟩
  case stop =>
    rintro D c pre W _ _ h _
    exact h.elim
end Go.Proofs.YtedofcagfopoeaaDoor
