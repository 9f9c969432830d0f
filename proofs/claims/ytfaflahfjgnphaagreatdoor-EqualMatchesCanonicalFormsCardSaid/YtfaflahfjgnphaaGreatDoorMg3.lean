/- The texts Tab, TabL, Region, RegionA (what is wanted of them), one after the other. -/
import Derived.Test.YtfaflahfjgnphaaGreatDoorMg1
import Derived.WalkSpells
import Derived.Test.YtfaflahfjgnphaaGreatDoorCards
import Derived.Test.YtfaflahfjgnphaaGreatDoorTie
import Derived.Deep.DeepHandedRow
import Derived.Lib.LaidTab
import Derived.Orders
namespace Go.Proofs.YtfaflahfjgnphaaGreatDoor
open Go.RowKit Go.ChangeShapes Go.WideShapes Go.ChangeAt
set_option linter.unusedVariables false
set_option linter.unusedSimpArgs false
set_option maxRecDepth 100000
def elemZ:List Int:=[0,1,8,16,32,64,64,0]
def TabOK (w:World):Prop:=∀i,i<8→w.cell? ⟨0,i,none⟩=some (.int .i64 (elemZ.getD i 0))
theorem TabOK.below {w w':World}(h:TabOK w){B:Nat}(hb:Below B w w')(hB:w.heap.size≤B):TabOK w':=fun i hi=>cell_later (hb.mono hB) (h i hi)
theorem TabOK.on {w w':World}(h:TabOK w)(hb:Below w.heap.size w w'):TabOK w':=h.below hb (Nat.le_refl _)
theorem TabOK.alloc {w:World}(h:TabOK w)(o:Obj):TabOK (w.alloc o):=h.on ((Below.refl _ _).alloc (Nat.le_refl _) o)
theorem TabOK.drew {w:World}(h:TabOK w):TabOK w.drew:=h
theorem TabOK.drewN {w:World}(h:TabOK w)(n:Nat):TabOK (w.drewN n):=h
theorem TabOK.lt {w:World}(h:TabOK w):0<w.heap.size:=World.block_lt_of_cell? w _ (h 0 (by decide))
theorem TabOK.setCell {w:World}(h:TabOK w){p:Addr}(hp:w.heap.size≤p.block)(u:Value):TabOK (w.setCell p u):=h.on ((Below.refl _ _).setCell hp u)
theorem gTab : Tryz.prog.globalNamed "capnp/listsize.elementBits" = some 0 := by kernel_rfl
theorem gTabType:(Tryz.prog.globals[0]?).map (·.type)=some 126:=by kernel_rfl
theorem cellsTab:Tryz.prog.cellsOf 126=8:=by kernel_rfl
theorem cellsInt:Tryz.prog.cellsOf 3=1:=by kernel_rfl
theorem tab_laid {W : World} (h : laidMetH Tryz.prog [("capnp/listsize.elementBits", Rows.laid_capnp_listsize_elementBits)] W) : TabOK W := by
 have hT : Lib.TabIs Tryz.prog W "capnp/listsize.elementBits" .i64 elemZ := Lib.tabIs_of_head (rest := []) gTab gTabType Tryz.underlying126 Tryz.underlying3 cellsInt cellsTab h
 exact fun i hi=>hT.cell gTab i hi
noncomputable def laidWorld (os:Os):World:=
 { World.holding Tryz.prog os ⟨#[],#[],[]⟩ with heap:=(World.holding Tryz.prog os ⟨#[],#[],[]⟩).heap.modify 0 fun
   | .cells _ t frozen=>.cells #[.int .i64 0,.int .i64 1,.int .i64 8,.int .i64 16,.int .i64 32,.int .i64 64,.int .i64 64,.int .i64 0] t frozen
   | o=>o }
section
def Fact:Type:=Value→World→Prop
def stable (T:Fact):Prop:=∀v w w',T v w→Below w.heap.size w w'→T v w'
def Is (u:Value):Fact:=fun v _=>v=u
theorem stable_is (u:Value):stable (Is u):=fun _ _ _ h _=>h
def look:List (Tmp×Fact)→Tmp→Option Fact
 | [],_=>none
 | x::r,s=>if x.1=s then some x.2 else look r s
def Knows (F:List (Tmp×Fact))(a0 a:Act)(w:World)(s:Tmp):Prop:=
 match look F s with
 | some T=>T (a.tmps.getD s undef) w
 | none=>a.tmps.getD s undef=a0.tmps.getD s undef
def After (T:Fact)(a:Act)(dst:Option Tmp)(w:World)(a':Act)(w':World):Prop:=∃v,a'=a.put dst v∧T v w'∧Below w.heap.size w w'
def NoWay:Exit→Act→World→Prop:=fun _ _ _=>False
def StepOK (P:Program)(ops:Array Oper)(F:List (Tmp×Fact))(a0:Act)(w0:World)(o:Oper)(T:Fact):Prop:=
 ∀a w,Below w0.heap.size w0 w→(∀s∈o.looksAt ops,Knows F a0 a w s) →
  if Region.wanted o (yielded ops a.tmps) then o.wp P a w (After T a o.dst w) NoWay else T undef w
def Chain (P:Program)(ops:Array Oper)(a0:Act)(w0:World)(Q:Exit→Act→World→Prop):List Oper→List (Tmp×Fact)→Prop
 | [],F=>∀a w,Below w0.heap.size w0 w→a.defers=a0.defers→a.tmps.size=a0.tmps.size→(∀s,s<a0.tmps.size→Knows F a0 a w s)→Q .normal a w
 | o::r,F=>∃d T,o.dst=some d∧stable T∧StepOK P ops F a0 w0 o T∧Chain P ops a0 w0 Q r ((d,T)::F)
def dstAt (l:List Oper)(i:Nat):Option Tmp:=(l[i]?).bind (·.dst)
def chainB (m:Nat)(l:List Oper):Bool:=
  (List.range l.length).all fun i=>match l[i]? with
    | none=>true
    | some o=>
      (match o.dst with
       | none=>false
       | some d=>decide (d<m)) &&
      (List.range l.length).all (fun j=>j==i||dstAt l j != o.dst) &&
      o.after.all (fun e=>!Region.binds .any e||decide (e.on<i)) &&
      (o.looksAt l.toArray).all (fun s=>decide (s<m)&&(List.range l.length).all fun j=>dstAt l j != some s||o.after.any (fun e=>Region.binds .any e&&e.on==j))
theorem look_some {F:List (Tmp×Fact)}{s:Tmp}{T:Fact}(h:look F s=some T):(s,T)∈F:=by
 induction F with
 | nil=>simp [look] at h
 | cons x r ih=>
  unfold look at h
  by_cases hx:x.1=s
  ·rw [if_pos hx] at h
   injection h with h
   subst h
   subst hx
   exact List.mem_cons_self ..
  ·rw [if_neg hx] at h
   exact List.mem_cons_of_mem _ (ih h)
theorem look_mem {F:List (Tmp×Fact)}{s:Tmp}(h:∃x∈F,x.1=s):∃T,look F s=some T:=by
 obtain⟨x,hx,e⟩:=h
 cases hl:look F s with
 | some T=>exact⟨T,rfl⟩
 | none=>
  exfalso
  induction F with
  | nil=>simp at hx
  | cons y r ih=>
   unfold look at hl
   by_cases hy:y.1=s
   ·rw [if_pos hy] at hl;cases hl
   ·rw [if_neg hy] at hl
    rcases List.mem_cons.1 hx with rfl|hx
    ·exact hy e
    ·exact ih hx hl
def factsTo (l:List Oper)(Ts:List Fact):Nat→List (Tmp×Fact)
 | 0=>[]
 | i+1=>match dstAt l i,Ts[i]? with
  | some d,some T=>(d,T)::factsTo l Ts i
  | _,_=>factsTo l Ts i
theorem mem_factsTo {l:List Oper}{Ts:List Fact}{i:Nat}{x:Tmp×Fact}(h:x∈factsTo l Ts i):∃j,j<i∧dstAt l j=some x.1∧Ts[j]?=some x.2:=by
 induction i with
 | zero=>simp [factsTo] at h
 | succ i ih=>
  unfold factsTo at h
  split at h
  ·rename_i d T hd hT
   rcases List.mem_cons.1 h with rfl|h
   ·exact⟨i,by omega,hd,hT⟩
   ·obtain⟨j,hj,r⟩:=ih h
    exact⟨j,by omega,r⟩
  ·obtain⟨j,hj,r⟩:=ih h
   exact⟨j,by omega,r⟩
theorem factsTo_mem {l:List Oper}{Ts:List Fact}{i j:Nat}(hj:j<i){d:Tmp}{T:Fact}(hd:dstAt l j=some d)(hT:Ts[j]?=some T):(d,T)∈factsTo l Ts i:=by
 induction i with
 | zero=>omega
 | succ i ih=>
  unfold factsTo
  by_cases e:j=i
  ·subst e
   rw [hd,hT]
   exact List.mem_cons_self ..
  ·have:=ih (by omega)
   split
   ·exact List.mem_cons_of_mem _ this
   ·exact this
theorem chain_facts {P:Program}{ops:Array Oper}{a0:Act}{w0:World}{Q:Exit→Act→World→Prop}{l:List Oper}:
  ∀(r:List Oper) (i:Nat) (Ts:List Fact),Ts.length=i→l.drop i=r→i≤l.length→Chain P ops a0 w0 Q r (factsTo l Ts i) →
   (∀(j:Nat) (T:Fact),Ts[j]?=some T→stable T) →
   (∀(j:Nat) (o:Oper) (T:Fact),l[j]?=some o→Ts[j]?=some T→StepOK P ops (factsTo l Ts j) a0 w0 o T) →
   ∃Us:List Fact,Us.length=l.length∧(∀(j:Nat) (T:Fact),Us[j]?=some T→stable T) ∧
    (∀(j:Nat) (o:Oper) (T:Fact),l[j]?=some o→Us[j]?=some T→StepOK P ops (factsTo l Us j) a0 w0 o T)∧Chain P ops a0 w0 Q [] (factsTo l Us l.length):=by
 intro r
 induction r with
 | nil=>
  intro i Ts hT hd hi hc hs hst
  have:i=l.length:=by
   have:=congrArg List.length hd
   simp at this
   omega
  subst this
  exact⟨Ts,hT,hs,hst,hc⟩
 | cons o r ih=>
  intro i Ts hT hd hi hc hs hst
  obtain⟨d,T,hdst,hstab,hstep,hrest⟩:=hc
  have hlt:i<l.length:=by
   have:=congrArg List.length hd
   simp at this
   omega
  have hli:l[i]?=some o:=by
   have:=congrArg (fun x=>x[0]?) hd
   simpa using this
  have hdi:dstAt l i=some d:=by simp [dstAt,hli,hdst]
  have hfacts:∀j,j≤i→factsTo l (Ts++[T]) j=factsTo l Ts j:=by
   intro j
   induction j with
   | zero=>intro _;rfl
   | succ j ihj=>
    intro hj
    unfold factsTo
    rw [ihj (by omega),List.getElem?_append_left (by omega)]
  have hget:(Ts++[T])[i]?=some T:=by rw [List.getElem?_append_right (by omega)];simp [hT]
  refine ih (i+1) (Ts++[T]) (by simp [hT]) ?_ (by omega) ?_ ?_ ?_
  ·rw [←List.drop_drop,hd];rfl
  ·have e:factsTo l (Ts++[T]) (i+1)=(d,T)::factsTo l Ts i:=by
    rw [factsTo,hdi,hget,hfacts i (Nat.le_refl _)]
   rw [e]
   exact hrest
  ·intro j U hU
   by_cases hj:j<Ts.length
   ·rw [List.getElem?_append_left hj] at hU
    exact hs j U hU
   ·rw [List.getElem?_append_right (by omega)] at hU
    have:j-Ts.length=0:=by
     rcases Nat.eq_zero_or_pos (j-Ts.length) with h|h
     ·exact h
     ·rw [List.getElem?_eq_none (by simp;omega)] at hU;cases hU
    rw [this] at hU
    simp at hU
    subst hU
    exact hstab
  ·intro j o' U ho' hU
   by_cases hj:j<Ts.length
   ·rw [List.getElem?_append_left hj] at hU
    rw [hfacts j (by omega)]
    exact hst j o' U ho' hU
   ·rw [List.getElem?_append_right (by omega)] at hU
    have h0:j-Ts.length=0:=by
     rcases Nat.eq_zero_or_pos (j-Ts.length) with h|h
     ·exact h
     ·rw [List.getElem?_eq_none (by simp;omega)] at hU;cases hU
    rw [h0] at hU
    simp at hU
    subst hU
    obtain rfl:j=i:=by omega
    rw [hli] at ho'
    injection ho' with ho'
    subst ho'
    rw [hfacts j (Nat.le_refl _)]
    exact hstep
structure Inv (l:List Oper) (Ts:List Fact) (a0:Act) (w0:World) (listed:Array Bool) (a:Act) (w:World):Prop where
 below:Below w0.heap.size w0 w
 defers:a.defers=a0.defers
 size:a.tmps.size=a0.tmps.size
 done:∀(j:Nat) (d:Tmp) (T:Fact),listed.getD j false=true→dstAt l j=some d→Ts[j]?=some T→T (a.tmps.getD d undef) w
 rest:∀s:Tmp,(∀j,listed.getD j false=true→dstAt l j≠some s)→a.tmps.getD s undef=a0.tmps.getD s undef
theorem chainB_at {m:Nat}{l:List Oper}(h:chainB m l=true){i:Nat}{o:Oper}(ho:l[i]?=some o):
  (∃d,o.dst=some d∧d<m)∧(∀j,j<l.length→j≠i→dstAt l j≠o.dst)∧(∀e∈o.after,Region.binds .any e=true→e.on<i) ∧
  (∀s∈o.looksAt l.toArray,s<m∧∀j,j<l.length→dstAt l j=some s→∃e∈o.after,Region.binds .any e=true∧e.on=j):=by
 have hlt:i<l.length:=by
  rcases Nat.lt_or_ge i l.length with h1|h1
  ·exact h1
  ·rw [List.getElem?_eq_none h1] at ho;cases ho
 unfold chainB at h
 rw [List.all_eq_true] at h
 have h1:=h i (List.mem_range.2 hlt)
 rw [ho] at h1
 simp only [Bool.and_eq_true,List.all_eq_true,List.mem_range,Bool.or_eq_true,beq_iff_eq,bne_iff_ne,Bool.not_eq_true',decide_eq_true_eq,Array.all_eq_true_iff_forall_mem,Array.any_eq_true'] at h1
 obtain⟨⟨⟨h2,h3⟩,h4⟩,h5⟩:=h1
 refine⟨?_,fun j hj hne=>?_,fun e he hb=>?_,fun s hs=>⟨(h5 s hs).1,fun j hj hd=>?_⟩⟩
 ·cases hd:o.dst with
  | none=>rw [hd] at h2;cases h2
  | some d=>rw [hd] at h2;exact⟨d,rfl,by simpa using h2⟩
 ·rcases h3 j hj with h|h
  ·exact absurd h hne
  ·exact h
 ·rcases h4 e he with h|h
  ·rw [h] at hb;cases hb
  ·exact h
 ·rcases(h5 s hs).2 j hj with h|⟨e,he,hb⟩
  ·exact absurd hd h
  ·exact⟨e,he,hb⟩
theorem getD_put_same {a:Act}{d:Tmp}{v:Value}(h:d<a.tmps.size):(a.put (some d) v).tmps.getD d undef=v:=by
 simp [Act.put,Array.getD,h]
theorem getD_put_ne {a:Act}{d s:Tmp}{v:Value}(h:d≠s):(a.put (some d) v).tmps.getD s undef=a.tmps.getD s undef:=by
 simp [Act.put,Array.getElem?_setIfInBounds_ne h]
theorem wpOp_noWay {P:Program}{ops:Array Oper}{Q:Exit→Act→World→Prop}{i:Nat}{o:Oper}{a:Act}{w:World}{K K':Act→World→Prop}(hi:ops[i]?=some o)
  (hk:∀a' w',K a' w'→K' a' w')
  (h:if Region.wanted o (yielded ops a.tmps) then o.wp P a w K NoWay else K (a.put o.dst undef) w):wpOp P ops Q i K' a w:=by
 unfold wpOp
 rw [hi]
 simp only
 by_cases hw:Region.wanted o (yielded ops a.tmps)=true
 ·rw [if_pos hw] at h ⊢
  left
  unfold Oper.wp at *
  generalize (execOp a.eval o).run P w=r at *
  cases r with
  | ok n w'=>
   cases n<;>simp only [Oper.upon] at h ⊢ <;>
    first
     | exact hk _ _ h
     | exact Calls.mono h (fun e w'' he=>by
       cases e with
       | returned v=>exact hk _ _ he
       | panicked c=>exact he.elim
       | outgrown=>obtain⟨_,_,h'⟩:=he;exact h'.elim)
     | exact Rows.mono h (fun _ _ he=>hk _ _ he)
  | halt x w'=>cases x<;>simp only [Oper.upon] at h ⊢<;>exact h.elim
 ·rw [if_neg hw] at h ⊢
  exact hk _ _ h
theorem getD_set_cases {listed:Array Bool}{i j:Nat}(h:(listed.setIfInBounds i true).getD j false=true):j=i∨listed.getD j false=true:=by
 by_cases e:i=j
 ·exact .inl e.symm
 ·right
  rwa [getD_set_ne false e] at h
theorem getD_ff {listed:Array Bool}{j:Nat}(h:listed.getD j true=false):listed.getD j false=false:=by
 simp only [Array.getD_eq_getD_getElem?] at *
 cases hj:listed[j]? with
 | none=>rfl
 | some b=>rw [hj] at h;exact h
theorem countP_lt {l:List Nat}{p q:Nat→Bool}{i:Nat}(h:∀x∈l,q x=true→p x=true)(hi:i∈l)(hp:p i=true)(hq:q i=false):l.countP q<l.countP p:=by
 induction l with
 | nil=>cases hi
 | cons x r ih=>
  have hr:r.countP q≤r.countP p:=List.countP_mono_left fun y hy=>h y (List.mem_cons_of_mem _ hy)
  rw [List.countP_cons,List.countP_cons]
  rcases List.mem_cons.1 hi with rfl|hi
  ·rw [hp,hq];simp;omega
  ·have:=ih (fun y hy=>h y (List.mem_cons_of_mem _ hy)) hi
   have hx:=h x (List.mem_cons_self ..)
   cases hqx:q x with
   | false=>simp;omega
   | true=>rw [hx hqx];simp;omega
theorem inv_any {P:Program}{l:List Oper}{Ts:List Fact}{a0:Act}{w0:World}{Q:Exit→Act→World→Prop}(hB:chainB a0.tmps.size l=true)(hlen:Ts.length=l.length)
  (hst:∀(j:Nat) (T:Fact),Ts[j]?=some T→stable T)
  (hstep:∀(j:Nat) (o:Oper) (T:Fact),l[j]?=some o→Ts[j]?=some T→StepOK P l.toArray (factsTo l Ts j) a0 w0 o T)
  (hend:Chain P l.toArray a0 w0 Q [] (factsTo l Ts l.length)) :
  ∀(fuel:Nat) (listed:Array Bool) (a:Act) (w:World),listed.size=l.length→(∃n,n≤fuel∧n=(List.range l.length).countP (fun j=>!listed.getD j true))→Inv l Ts a0 w0 listed a w→wpAny P .any l.toArray Q fuel listed a w:=by
 have hfin:∀(listed:Array Bool) (a:Act) (w:World),listed.size=l.length→Region.ready .any l.toArray listed=[]→Inv l Ts a0 w0 listed a w→Q .normal a w:=by
  intro listed a w hsz hr hI
  have hall:∀j,j<l.length→listed.getD j false=true:=by
   intro j
   induction j using Nat.strongRecOn with
   | _ j ih=>
    intro hj
    cases hb:listed.getD j false with
    | true=>rfl
    | false=>
     exfalso
     have hj':l[j]?=some l[j]:=List.getElem?_eq_getElem hj
     have hc:=chainB_at hB hj'
     have hm:j∈Region.ready .any l.toArray listed:=by
      rw [mem_ready]
      refine⟨?_,l[j],by simp [hj],fun e he hbi=>ih e.on (hc.2.2.1 e he hbi) (Nat.lt_trans (hc.2.2.1 e he hbi) hj)⟩
      have:j<listed.size:=by omega
      simp only [Array.getD_eq_getD_getElem?,Array.getElem?_eq_getElem this,Option.getD_some] at hb ⊢
      exact hb
     rw [hr] at hm
     cases hm
  refine hend a w hI.below hI.defers hI.size fun s hs=>?_
  unfold Knows
  cases hl:look (factsTo l Ts l.length) s with
  | some T=>
   obtain⟨j,hj,hd,hT⟩:=mem_factsTo (look_some hl)
   exact hI.done j s T (hall j hj) hd hT
  | none=>
   refine hI.rest s fun j hj hd=>?_
   have hjl:j<l.length:=by
    rcases Nat.lt_or_ge j l.length with h1|h1
    ·exact h1
    ·simp [dstAt,List.getElem?_eq_none h1] at hd
   have hT:Ts[j]?=some (Ts[j]'(by omega)):=List.getElem?_eq_getElem (by omega)
   obtain⟨T,hT'⟩:=look_mem ⟨_,factsTo_mem (i:=l.length) hjl hd hT,rfl⟩
   rw [hT'] at hl
   cases hl
 intro fuel
 induction fuel with
 | zero=>
  intro listed a w hsz hn hI
  obtain⟨n,hn0,hn⟩:=hn
  have hr:Region.ready .any l.toArray listed=[]:=by
   rw [List.eq_nil_iff_forall_not_mem]
   intro j hj
   obtain⟨hu,o,ho,_⟩:=mem_ready.1 hj
   have hjl:j<l.length:=by
    rcases Nat.lt_or_ge j l.length with h1|h1
    ·exact h1
    ·simp [h1] at ho
   have:0<(List.range l.length).countP (fun j=>!listed.getD j true):=List.countP_pos_iff.2 ⟨j,List.mem_range.2 hjl,by simp [hu]⟩
   omega
  exact⟨hr,hfin listed a w hsz hr hI⟩
 | succ fuel ih=>
  intro listed a w hsz hn hI
  refine⟨fun hr=>hfin listed a w hsz hr hI,fun i hi=>?_⟩
  obtain⟨hu,o,ho,hedges⟩:=mem_ready.1 hi
  have hol:l[i]?=some o:=by simpa using ho
  have hil:i<l.length:=by
   rcases Nat.lt_or_ge i l.length with h1|h1
   ·exact h1
   ·rw [List.getElem?_eq_none h1] at hol;cases hol
  obtain⟨⟨d,hd,hdm⟩,hdis,hbe,hlook⟩:=chainB_at hB hol
  have hdi:dstAt l i=some d:=by simp [dstAt,hol,hd]
  have hTi:Ts[i]?=some (Ts[i]'(by omega)):=List.getElem?_eq_getElem (by omega)
  have hS:=hstep i o _ hol hTi a w hI.below (fun s hs=>by
   unfold Knows
   cases hl:look (factsTo l Ts i) s with
   | some T=>
    obtain⟨j,hj,hdj,hTj⟩:=mem_factsTo (look_some hl)
    obtain⟨e,he,hb,rfl⟩:=(hlook s hs).2 j (by omega) hdj
    exact hI.done _ s T (hedges e he hb) hdj hTj
   | none=>
    refine hI.rest s fun j hj hdj=>?_
    have hjl:j<l.length:=by
     rcases Nat.lt_or_ge j l.length with h1|h1
     ·exact h1
     ·simp [dstAt,List.getElem?_eq_none h1] at hdj
    obtain⟨e,he,hb,rfl⟩:=(hlook s hs).2 j hjl hdj
    have hlt:=hbe e he hb
    have hT:Ts[e.on]?=some (Ts[e.on]'(by omega)):=List.getElem?_eq_getElem (by omega)
    obtain⟨T,hT'⟩:=look_mem ⟨_,factsTo_mem (i:=i) hlt hdj hT,rfl⟩
    rw [hT'] at hl
    cases hl)
  refine wpOp_noWay ho (K:=After (Ts[i]'(by omega)) a o.dst w) ?_ ?_
  ·rintro a' w' ⟨v,rfl,hT,hbel⟩
   have hds:d<a.tmps.size:=by rw [hI.size];exact hdm
   refine ih _ _ _ (by simpa using hsz) ?_ ⟨hI.below.trans (hbel.mono hI.below.size),?_,?_,?_,?_⟩
   ·obtain⟨n,hn0,hn⟩:=hn
    refine⟨_,?_,rfl⟩
    have hlt:(List.range l.length).countP (fun j=>!(listed.setIfInBounds i true).getD j true)<(List.range l.length).countP (fun j=>!listed.getD j true):=by
     refine countP_lt (i:=i) (fun x _ hx=>?_) (List.mem_range.2 hil) (by simp [hu]) ?_
     ·by_cases e:i=x
      ·subst e;simp [hu]
      ·rw [getD_set_ne true e] at hx;exact hx
     ·have:i<listed.size:=by omega
      simp [this]
    omega
   ·rw [hd];exact hI.defers
   ·rw [hd];simp [Act.put,hI.size]
   ·intro j d' T hj hdj hTj
    rw [hd]
    rcases getD_set_cases hj with rfl|hj2
    ·rw [hdi] at hdj
     injection hdj with hdj
     subst hdj
     rw [hTi] at hTj
     injection hTj with hTj
     subst hTj
     rw [getD_put_same hds]
     exact hT
    ·have hne:d≠d':=by
      rintro rfl
      have hji:j≠i:=by
       rintro rfl
       rw [getD_ff hu] at hj2
       cases hj2
      have hjl:j<l.length:=by
       rcases Nat.lt_or_ge j l.length with h1|h1
       ·exact h1
       ·simp [dstAt,List.getElem?_eq_none h1] at hdj
      exact hdis j hjl hji (by rw [hdj,hd])
     rw [getD_put_ne hne]
     exact hst j T hTj _ _ _ (hI.done j d' T hj2 hdj hTj) hbel
   ·intro s hs
    have hne:d≠s:=by
     rintro rfl
     refine hs i ?_ hdi
     have:i<listed.size:=by omega
     simp [this]
    rw [hd,getD_put_ne hne]
    refine hI.rest s fun j hj hdj=>hs j (getD_set_true hj) hdj
  ·by_cases hw:Region.wanted o (yielded l.toArray a.tmps)=true
   ·rw [if_pos hw] at hS ⊢
    exact hS
   ·rw [if_neg hw] at hS ⊢
    exact⟨undef,rfl,hS,Below.refl _ _⟩
theorem wp_region_chain {P:Program}{id:Nat}{l:List Oper}{Q:Exit→Act→World→Prop}{a:Act}{w:World}(hm:P.follows .mixedOrders=true)(hB:chainB a.tmps.size l=true)
  (h:Chain P l.toArray a w.drew Q l []):(Code.region id l.toArray true).wp P Q a w:=by
 obtain⟨Us,hlen,hst,hstep,hend⟩:=chain_facts (l:=l) l 0 [] rfl rfl (Nat.zero_le _) h (fun j T hT=>by simp at hT) (fun j o T _ hT=>by simp at hT)
 refine wp_region_any hm ?_
 refine inv_any hB hlen hst hstep hend _ _ _ _ (by simp) ⟨_,?_,rfl⟩ ⟨Below.refl _ _,rfl,rfl,?_,fun s _=>rfl⟩
 ·refine Nat.le_trans List.countP_le_length ?_
  simp
 ·intro j d T hj
  exfalso
  by_cases hlt:j<l.length<;>simp [hlt] at hj
def KnowsV (F:List (Tmp×Fact))(a0:Act)(w:World)(s:Tmp)(x:Value):Prop:=
 match look F s with
 | some T=>T x w
 | none=>x=a0.tmps.getD s undef
def AllK (F:List (Tmp×Fact))(a0:Act)(w:World)(ρ:Operand→Value):List Tmp→Prop
 | []=>True
 | s::r=>KnowsV F a0 w s (ρ (.tmp s))∧AllK F a0 w ρ r
theorem allK_of {F:List (Tmp×Fact)}{a0 a:Act}{w:World}{X L:List Tmp}(h:∀s∈X,Knows F a0 a w s)(hL:(L.all fun s=>X.contains s)=true):AllK F a0 w a.eval L:=by
 induction L with
 | nil=>trivial
 | cons s r ih=>
  simp only [List.all_cons,Bool.and_eq_true] at hL
  exact⟨h s (by simpa using hL.1),ih hL.2⟩
def Plain (ρ:Operand→Value):Prop:=(∀v,ρ (.const v)=v)∧(∀f,ρ (.func f)=.func (.func f) #[] #[])
theorem plain_eval (a:Act):Plain a.eval:=⟨fun _=>rfl,fun _=>rfl⟩
def GuardOK (ops:Array Oper)(F:List (Tmp×Fact))(a0:Act)(o:Oper):Prop:=
 match o.guard with
 | none=>True
 | some (g,b)=>∃s,s∈o.looksAt ops∧(ops[g]?).bind (·.dst)=some s∧∀w x,KnowsV F a0 w s x→x=.bool b
theorem wanted_of {ops:Array Oper}{F:List (Tmp×Fact)}{a0 a:Act}{w:World}{o:Oper}(hg:GuardOK ops F a0 o)(h:∀s∈o.looksAt ops,Knows F a0 a w s):Region.wanted o (yielded ops a.tmps)=true:=by
 unfold GuardOK at hg
 unfold Region.wanted
 split at hg
 ·rename_i h0;rw [h0]
 ·rename_i g b h0
  rw [h0]
  obtain⟨s,hs,hb,hv⟩:=hg
  have hx:=hv w _ (h s hs)
  have:yielded ops a.tmps g=some b:=by
   unfold yielded
   rw [hb]
   simp only [Option.bind_some]
   simp only [Array.getD_eq_getD_getElem?] at hx
   cases ht:a.tmps[s]? with
   | none=>rw [ht] at hx;simp [undef] at hx
   | some v=>rw [ht] at hx;simp at hx;subst hx;rfl
  simp [this]
section
variable {P:Program} {ops:Array Oper} {a0:Act} {w0:World} {Q:Exit→Act→World→Prop} {o:Oper} {r:List Oper} {F:List (Tmp×Fact)} {d:Tmp}
theorem chain_val {u:Value}(L:List Tmp)(hd:o.dst=some d)(hL:(L.all fun s=>(o.looksAt ops).contains s)=true)(hg:GuardOK ops F a0 o)
  (h:∀ρ w,Below w0.heap.size w0 w→Plain ρ→AllK F a0 w ρ L→(execOp ρ o).run P w=.ok (.value u) w) (hr:Chain P ops a0 w0 Q r ((d,Is u)::F)):Chain P ops a0 w0 Q (o::r) F:=by
 refine⟨d,Is u,hd,stable_is u,fun a w hb hk=>?_,hr⟩
 rw [if_pos (wanted_of hg hk)]
 unfold Oper.wp
 rw [h a.eval w hb (plain_eval a) (allK_of hk hL)]
 exact⟨u,rfl,rfl,Below.refl _ _⟩
theorem chain_new {T:Fact}(L:List Tmp)(hd:o.dst=some d)(hL:(L.all fun s=>(o.looksAt ops).contains s)=true)(hg:GuardOK ops F a0 o)(hs:stable T)
  (h:∀ρ w,Below w0.heap.size w0 w→Plain ρ→AllK F a0 w ρ L→∃v w',(execOp ρ o).run P w=.ok (.value v) w'∧T v w'∧Below w.heap.size w w') (hr:Chain P ops a0 w0 Q r ((d,T)::F)):Chain P ops a0 w0 Q (o::r) F:=by
 refine⟨d,T,hd,hs,fun a w hb hk=>?_,hr⟩
 rw [if_pos (wanted_of hg hk)]
 obtain⟨v,w',h1,h2,h3⟩:=h a.eval w hb (plain_eval a) (allK_of hk hL)
 unfold Oper.wp
 rw [h1]
 exact⟨v,rfl,h2,h3⟩
theorem chain_call {T:Fact}(f:FuncId)(L:List Tmp)(hd:o.dst=some d)(hL:(L.all fun s=>(o.looksAt ops).contains s)=true)(hg:GuardOK ops F a0 o)(hs:stable T)
  (h:∀ρ w,Below w0.heap.size w0 w→Plain ρ→AllK F a0 w ρ L→∃args,(execOp ρ o).run P w=.ok (.enter f args) w∧Calls P f args w fun e w'=>∃v,e=.returned v∧T v w'∧Below w.heap.size w w') (hr:Chain P ops a0 w0 Q r ((d,T)::F)):Chain P ops a0 w0 Q (o::r) F:=by
 refine⟨d,T,hd,hs,fun a w hb hk=>?_,hr⟩
 rw [if_pos (wanted_of hg hk)]
 obtain⟨args,h1,h2⟩:=h a.eval w hb (plain_eval a) (allK_of hk hL)
 unfold Oper.wp
 rw [h1]
 refine h2.mono fun e w' ⟨v,he,hT,hbel⟩=>?_
 subst he
 exact⟨v,rfl,hT,hbel⟩
theorem chain_skip {g s:Nat}{b c:Bool}(hgd:o.guard=some (g,b))(hd:o.dst=some d)(hs:s∈o.looksAt ops)(hb:(ops[g]?).bind (·.dst)=some s)(hbc:(c==b)=false)
  (hv:∀w x,KnowsV F a0 w s x→x=.bool c) (hr:Chain P ops a0 w0 Q r ((d,Is undef)::F)):Chain P ops a0 w0 Q (o::r) F:=by
 refine⟨d,Is undef,hd,stable_is _,fun a w _ hk=>?_,hr⟩
 have hx:=hv w _ (hk s hs)
 have hy:yielded ops a.tmps g=some c:=by
  unfold yielded
  rw [hb]
  simp only [Option.bind_some]
  simp only [Array.getD_eq_getD_getElem?] at hx
  cases ht:a.tmps[s]? with
  | none=>rw [ht] at hx;simp [undef] at hx
  | some v=>rw [ht] at hx;simp at hx;subst hx;rfl
 have hw:Region.wanted o (yielded ops a.tmps)=false:=by
  unfold Region.wanted
  rw [hgd]
  simp only [hy]
  cases c<;>cases b<;>simp_all
 rw [if_neg (by rw [hw];exact Bool.false_ne_true)]
 rfl
end
def AllN (P:Nat→Prop):Nat→Nat→Prop
 | 0,_=>True
 | n+1,s=>P s∧AllN P n (s+1)
theorem allN_of {P:Nat→Prop}:∀(n s:Nat),(∀j,s≤j→j<s+n→P j)→AllN P n s
 | 0,_,_=>trivial
 | n+1,s,h=>⟨h s (Nat.le_refl _) (by omega),allN_of n (s+1) fun j h1 h2=>h j (by omega) (by omega)⟩
def frameL (f:Tmp→Value):Nat→Nat→List Value
 | 0,_=>[]
 | n+1,s=>f s::frameL f n (s+1)
theorem frameL_length (f:Tmp→Value):∀n s,(frameL f n s).length=n
 | 0,_=>rfl
 | n+1,s=>by simp [frameL,frameL_length f n (s+1)]
theorem frameL_get (f:Tmp→Value):∀(n s j:Nat),j<n→(frameL f n s)[j]?=some (f (s+j))
 | 0,_,_,h=>by omega
 | n+1,s,0,_=>by simp [frameL]
 | n+1,s,j+1,h=>by
  simp only [frameL,List.getElem?_cons_succ]
  rw [frameL_get f n (s+1) j (by omega),show s+1+j=s+(j+1) by omega]
section
variable {P:Program} {ops:Array Oper} {a0:Act} {w0:World} {Q:Exit→Act→World→Prop} {F:List (Tmp×Fact)}
theorem chain_end_lit (n:Nat)(hn:a0.tmps.size=n)
  (h:∀(f:Tmp→Value) (w:World),Below w0.heap.size w0 w→AllN (fun s=>KnowsV F a0 w s (f s)) n 0→Q .normal { tmps:=(frameL f n 0).toArray,defers:=a0.defers } w):Chain P ops a0 w0 Q [] F:=by
 intro a w hb hd hs hk
 have e:a={ tmps:=(frameL (fun s=>a.tmps.getD s undef) n 0).toArray,defers:=a0.defers }:=by
  obtain⟨tm,df⟩:=a
  simp only at hd hs
  subst hd
  congr 1
  apply Array.ext'
  apply List.ext_getElem?
  intro j
  by_cases hj:j<n
  ·rw [show ((frameL (fun s=>tm.getD s undef) n 0).toArray.toList)=frameL (fun s=>tm.getD s undef) n 0 from rfl,frameL_get _ _ _ _ hj]
   have:j<tm.size:=by omega
   simp [this]
  ·rw [show ((frameL (fun s=>tm.getD s undef) n 0).toArray.toList)=frameL (fun s=>tm.getD s undef) n 0 from rfl]
   rw [List.getElem?_eq_none (by simp;omega),List.getElem?_eq_none (by rw [frameL_length];omega)]
 rw [e]
 exact h _ w hb (allN_of n 0 fun j _ hj=>hk j (by rw [hn];omega))
end
end
section
structure Keeps (S:Nat→Prop) (w w':World):Prop where
 os:w'.os=w.os
 tape:w'.tape=w.tape
 output:w'.output=w.output
 size:w.heap.size≤w'.heap.size
 block:∀k,k<w.heap.size→¬S k→w'.heap[k]?=w.heap[k]?
theorem Keeps.refl (S:Nat→Prop)(w:World):Keeps S w w:=⟨rfl,rfl,rfl,Nat.le_refl _,fun _ _ _=>rfl⟩
theorem Keeps.trans {S:Nat→Prop}{a b c:World}(h:Keeps S a b)(k:Keeps S b c):Keeps S a c:=
 ⟨k.os.trans h.os,k.tape.trans h.tape,k.output.trans h.output,Nat.le_trans h.size k.size,fun i hi hS=>(k.block i (Nat.lt_of_lt_of_le hi h.size) hS).trans (h.block i hi hS)⟩
theorem keeps_of {S:Nat→Prop}{w w':World}(h:Below w.heap.size w w'):Keeps S w w':=⟨h.os,h.tape,h.output,h.size,fun k hk _=>h.block k hk⟩
theorem Keeps.below {S:Nat→Prop}{w w':World}(h:Keeps S w w'){B:Nat}(hB:B≤w.heap.size)(hS:∀k,S k→B≤k):Below B w w':=
 ⟨h.os,h.tape,h.output,h.size,fun k hk=>h.block k (by omega) (fun hk2=>by have:=hS k hk2;omega)⟩
def stableK (S:Nat→Prop)(T:Fact):Prop:=∀v w w',T v w→Keeps S w w'→T v w'
theorem stableK_is (S:Nat→Prop)(u:Value):stableK S (Is u):=fun _ _ _ h _=>h
def Any:Fact:=fun _ _=>True
theorem stable_anyF:stable Any:=fun _ _ _ _ _=>trivial
theorem stableK_anyF (S:Nat→Prop):stableK S Any:=fun _ _ _ _ _=>trivial
def AfterA (S:Nat→Prop)(sp:Bool)(T:Fact)(a:Act)(dst:Option Tmp)(w:World)(a':Act)(w':World):Prop:=
 ∃v,a'=a.put dst v∧T v w'∧(if sp=true then Keeps S w w' else Below w.heap.size w w')
def before (l:List Oper)(i m:Nat):Bool:=i==m||(match l[m]? with
 | none=>false
 | some o=>o.after.any fun e=>Region.binds .any e&&e.on==i)
def StepA (P:Program)(ops:Array Oper)(l:List Oper)(m:Nat)(S:Nat→Prop)(F G:List (Tmp×Fact))(a0:Act)(w0:World)(i:Nat)(o:Oper)(T:Fact):Prop:=
 ∀a w,Keeps S w0 w→(before l i m=true→Below w0.heap.size w0 w)→(∀s∈o.looksAt ops,Knows (if before l i m=true then F else G) a0 a w s) →
  if Region.wanted o (yielded ops a.tmps) then o.wp P a w (AfterA S (i==m) T a o.dst w) NoWay else (T undef w∧i≠m)
def ChainA (P:Program)(ops:Array Oper)(l:List Oper)(t:Oper)(m:Nat)(S:Nat→Prop)(a0:Act)(w0:World)(Q:Exit→Act→World→Prop):List Oper→Nat→List (Tmp×Fact)→List (Tmp×Fact)→Prop
 | [],_,_,G=>∀a w,Keeps S w0 w→a.defers=a0.defers→a.tmps.size=a0.tmps.size→(∀s,s<a0.tmps.size→Knows G a0 a w s)→wpList P ops Q [t] a w
 | o::r,i,F,G=>∃d T U,o.dst=some d∧stable T∧stable U∧(i≠m→stableK S U)∧(∀v w,T v w→U v w)∧StepA P ops l m S F G a0 w0 i o T∧ChainA P ops l t m S a0 w0 Q r (i+1) ((d,T)::F) ((d,U)::G)
def chainAB (n:Nat)(l:List Oper)(t:Oper):Bool:=
  (List.range l.length).all (fun i=>match l[i]? with
    | none=>true
    | some o=>
      (match o.dst with
       | none=>false
       | some d=>decide (d<n)) &&
      (List.range l.length).all (fun j=>j==i||dstAt l j != o.dst) &&
      o.after.all (fun e=>!Region.binds .any e||decide (e.on<i)) &&
      (o.looksAt (l++[t]).toArray).all (fun s=>decide (s<n)&&(List.range l.length).all fun j=>dstAt l j != some s||o.after.any (fun e=>Region.binds .any e&&e.on==j))) &&
  (List.range l.length).all (fun j=>t.after.any (fun e=>Region.binds .any e&&e.on==j)||(List.range l.length).any (fun k=>decide (j<k)&&(match l[k]? with
    | none=>false
    | some o=>o.after.any (fun e=>Region.binds .any e&&e.on==j)))) &&
  t.after.all (fun e=>!Region.binds .any e||decide (e.on<l.length))
theorem factsTo_app {l:List Oper}{Ts:List Fact}{T:Fact}{i:Nat}(hT:Ts.length=i):∀j,j≤i→factsTo l (Ts++[T]) j=factsTo l Ts j:=by
 intro j
 induction j with
 | zero=>intro _;rfl
 | succ j ihj=>
  intro hj
  unfold factsTo
  rw [ihj (by omega),List.getElem?_append_left (by omega)]
theorem get_app {Ts:List Fact}{T U:Fact}{i j:Nat}(hT:Ts.length=i)(h:(Ts++[T])[j]?=some U):(j<i∧Ts[j]?=some U)∨(j=i∧U=T):=by
 by_cases hj:j<Ts.length
 ·rw [List.getElem?_append_left hj] at h
  exact .inl ⟨by omega,h⟩
 ·rw [List.getElem?_append_right (by omega)] at h
  have h0:j-Ts.length=0:=by
   rcases Nat.eq_zero_or_pos (j-Ts.length) with h1|h1
   ·exact h1
   ·rw [List.getElem?_eq_none (by simp;omega)] at h;cases h
  rw [h0] at h
  simp at h
  exact .inr ⟨by omega,h.symm⟩
structure FactsA (P:Program) (l:List Oper) (t:Oper) (m:Nat) (S:Nat→Prop) (a0:Act) (w0:World) (Ts Us:List Fact) (i:Nat):Prop where
 len:Ts.length=i
 len2:Us.length=i
 st:∀(j:Nat) (T:Fact),Ts[j]?=some T→stable T
 su:∀(j:Nat) (U:Fact),Us[j]?=some U→stable U
 sk:∀(j:Nat) (U:Fact),Us[j]?=some U→j≠m→stableK S U
 weak:∀(j:Nat) (T U:Fact),Ts[j]?=some T→Us[j]?=some U→∀v w,T v w→U v w
 step:∀(j:Nat) (o:Oper) (T:Fact),l[j]?=some o→Ts[j]?=some T→StepA P (l++[t]).toArray l m S (factsTo l Ts j) (factsTo l Us j) a0 w0 j o T
theorem chainA_facts {P:Program}{a0:Act}{w0:World}{Q:Exit→Act→World→Prop}{l:List Oper}{t:Oper}{m:Nat}{S:Nat→Prop}:
  ∀(r:List Oper) (i:Nat) (Ts Us:List Fact),l.drop i=r→i≤l.length→ChainA P (l++[t]).toArray l t m S a0 w0 Q r i (factsTo l Ts i) (factsTo l Us i)→FactsA P l t m S a0 w0 Ts Us i →
   ∃Ts Us:List Fact,FactsA P l t m S a0 w0 Ts Us l.length∧ChainA P (l++[t]).toArray l t m S a0 w0 Q [] l.length (factsTo l Ts l.length) (factsTo l Us l.length):=by
 intro r
 induction r with
 | nil=>
  intro i Ts Us hd hi hc hF
  have:i=l.length:=by
   have:=congrArg List.length hd
   simp at this
   omega
  subst this
  exact⟨Ts,Us,hF,hc⟩
 | cons o r ih=>
  intro i Ts Us hd hi hc hF
  obtain⟨d,T,U,hdst,hs1,hs2,hs3,hw,hstep,hrest⟩:=hc
  have hlt:i<l.length:=by
   have:=congrArg List.length hd
   simp at this
   omega
  have hli:l[i]?=some o:=by
   have:=congrArg (fun x=>x[0]?) hd
   simpa using this
  have hdi:dstAt l i=some d:=by simp [dstAt,hli,hdst]
  have fT:=factsTo_app (l:=l) (T:=T) hF.len
  have fU:=factsTo_app (l:=l) (T:=U) hF.len2
  have gT:(Ts++[T])[i]?=some T:=by rw [List.getElem?_append_right (by have:=hF.len;omega)];simp [hF.len]
  have gU:(Us++[U])[i]?=some U:=by rw [List.getElem?_append_right (by have:=hF.len2;omega)];simp [hF.len2]
  refine ih (i+1) (Ts++[T]) (Us++[U]) (by rw [←List.drop_drop,hd];rfl) (by omega) ?_ ⟨by simp [hF.len],by simp [hF.len2],?_,?_,?_,?_,?_⟩
  ·have e1:factsTo l (Ts++[T]) (i+1)=(d,T)::factsTo l Ts i:=by rw [factsTo,hdi,gT,fT i (Nat.le_refl _)]
   have e2:factsTo l (Us++[U]) (i+1)=(d,U)::factsTo l Us i:=by rw [factsTo,hdi,gU,fU i (Nat.le_refl _)]
   rw [e1,e2]
   exact hrest
  ·intro j V hV
   rcases get_app hF.len hV with ⟨_,h⟩|⟨_,rfl⟩
   ·exact hF.st j V h
   ·exact hs1
  ·intro j V hV
   rcases get_app hF.len2 hV with ⟨_,h⟩|⟨_,rfl⟩
   ·exact hF.su j V h
   ·exact hs2
  ·intro j V hV hm
   rcases get_app hF.len2 hV with ⟨_,h⟩|⟨rfl,rfl⟩
   ·exact hF.sk j V h hm
   ·exact hs3 hm
  ·intro j V V' hV hV'
   rcases get_app hF.len hV with ⟨h0,h⟩|⟨rfl,rfl⟩
   ·rcases get_app hF.len2 hV' with ⟨_,h'⟩|⟨h1,_⟩
    ·exact hF.weak j V V' h h'
    ·omega
   ·rcases get_app hF.len2 hV' with ⟨h1,_⟩|⟨_,rfl⟩
    ·omega
    ·exact hw
  ·intro j o' V ho' hV
   rcases get_app hF.len hV with ⟨h0,h⟩|⟨rfl,rfl⟩
   ·rw [fT j (by omega),fU j (by omega)]
    exact hF.step j o' V ho' h
   ·rw [hli] at ho'
    injection ho' with ho'
    subst ho'
    rw [fT j (Nat.le_refl _),fU j (Nat.le_refl _)]
    exact hstep
structure InvA (l:List Oper) (m:Nat) (S:Nat→Prop) (Ts Us:List Fact) (a0:Act) (w0:World) (listed:Array Bool) (a:Act) (w:World):Prop where
 keep:Keeps S w0 w
 early:listed.getD m false=false→Below w0.heap.size w0 w
 defers:a.defers=a0.defers
 size:a.tmps.size=a0.tmps.size
 done:∀(j:Nat) (d:Tmp) (T:Fact),listed.getD j false=true→listed.getD m false=false→dstAt l j=some d→Ts[j]?=some T→T (a.tmps.getD d undef) w
 weak:∀(j:Nat) (d:Tmp) (U:Fact),listed.getD j false=true→dstAt l j=some d→Us[j]?=some U→U (a.tmps.getD d undef) w
 rest:∀s:Tmp,(∀j,listed.getD j false=true→dstAt l j≠some s)→a.tmps.getD s undef=a0.tmps.getD s undef
 closed:∀(j:Nat) (o:Oper),listed.getD j false=true→l[j]?=some o→∀e∈o.after,Region.binds .any e=true→listed.getD e.on false=true
theorem chainAB_at {n:Nat}{l:List Oper}{t:Oper}(h:chainAB n l t=true){i:Nat}{o:Oper}(ho:l[i]?=some o):
  (∃d,o.dst=some d∧d<n)∧(∀j,j<l.length→j≠i→dstAt l j≠o.dst)∧(∀e∈o.after,Region.binds .any e=true→e.on<i) ∧
  (∀s∈o.looksAt (l++[t]).toArray,s<n∧∀j,j<l.length→dstAt l j=some s→∃e∈o.after,Region.binds .any e=true∧e.on=j):=by
 have hlt:i<l.length:=by
  rcases Nat.lt_or_ge i l.length with h1|h1
  ·exact h1
  ·rw [List.getElem?_eq_none h1] at ho;cases ho
 unfold chainAB at h
 rw [Bool.and_eq_true,Bool.and_eq_true,List.all_eq_true] at h
 have h1:=h.1.1 i (List.mem_range.2 hlt)
 rw [ho] at h1
 simp only [Bool.and_eq_true,List.all_eq_true,List.mem_range,Bool.or_eq_true,beq_iff_eq,bne_iff_ne,Bool.not_eq_true',decide_eq_true_eq,Array.all_eq_true_iff_forall_mem,Array.any_eq_true'] at h1
 obtain⟨⟨⟨h2,h3⟩,h4⟩,h5⟩:=h1
 refine⟨?_,fun j hj hne=>?_,fun e he hb=>?_,fun s hs=>⟨(h5 s hs).1,fun j hj hd=>?_⟩⟩
 ·cases hd:o.dst with
  | none=>rw [hd] at h2;cases h2
  | some d=>rw [hd] at h2;exact⟨d,rfl,by simpa using h2⟩
 ·rcases h3 j hj with h|h
  ·exact absurd h hne
  ·exact h
 ·rcases h4 e he with h|h
  ·rw [h] at hb;cases hb
  ·exact h
 ·rcases(h5 s hs).2 j hj with h|⟨e,he,hb⟩
  ·exact absurd hd h
  ·exact⟨e,he,hb⟩
theorem chainAB_tail {n:Nat}{l:List Oper}{t:Oper}(h:chainAB n l t=true):(∀j,j<l.length→(∃e∈t.after,Region.binds .any e=true∧e.on=j)∨∃k o,j<k∧k<l.length∧l[k]?=some o∧∃e∈o.after,Region.binds .any e=true∧e.on=j)∧(∀e∈t.after,Region.binds .any e=true→e.on<l.length):=by
 unfold chainAB at h
 rw [Bool.and_eq_true,Bool.and_eq_true] at h
 obtain⟨⟨_,h1⟩,h2⟩:=h
 simp only [Bool.and_eq_true,List.all_eq_true,List.any_eq_true,List.mem_range,Bool.or_eq_true,beq_iff_eq,Bool.not_eq_true',decide_eq_true_eq,Array.all_eq_true_iff_forall_mem,Array.any_eq_true'] at h1 h2
 refine⟨fun j hj=>?_,fun e he hb=>?_⟩
 ·rcases h1 j hj with ⟨e,he,hb⟩|⟨k,hk,hjk,hm⟩
  ·exact .inl ⟨e,he,hb⟩
  ·cases ho:l[k]? with
   | none=>rw [ho] at hm;cases hm
   | some o=>
    rw [ho] at hm
    simp only [Array.any_eq_true',Bool.and_eq_true,beq_iff_eq] at hm
    obtain⟨e,he,hb⟩:=hm
    exact .inr ⟨k,o,hjk,hk,ho,e,he,hb⟩
 ·rcases h2 e he with h|h
  ·rw [h] at hb;cases hb
  ·exact h
theorem listed_all {l:List Oper}{t:Oper}{listed:Array Bool}(hc:∀(j:Nat) (o:Oper),listed.getD j false=true→l[j]?=some o→∀e∈o.after,Region.binds .any e=true→listed.getD e.on false=true)
  (ht:∀e∈t.after,Region.binds .any e=true→listed.getD e.on false=true)
  (htail:∀j,j<l.length→(∃e∈t.after,Region.binds .any e=true∧e.on=j)∨∃k o,j<k∧k<l.length∧l[k]?=some o∧∃e∈o.after,Region.binds .any e=true∧e.on=j):∀j,j<l.length→listed.getD j false=true:=by
 intro j
 generalize hn:l.length-j=n
 induction n using Nat.strongRecOn generalizing j with
 | _ n ih=>
  intro hj
  rcases htail j hj with ⟨e,he,hb,rfl⟩|⟨k,o,hjk,hk,ho,e,he,hb,rfl⟩
  ·exact ht e he hb
  ·exact hc k o (ih (l.length-k) (by omega) k rfl hk) ho e he hb
theorem dst_lt {l:List Oper}{j:Nat}{s:Tmp}(h:dstAt l j=some s):j<l.length:=by
 rcases Nat.lt_or_ge j l.length with h1|h1
 ·exact h1
 ·simp [dstAt,List.getElem?_eq_none h1] at h
theorem inva_any {P:Program}{l:List Oper}{t:Oper}{m:Nat}{S:Nat→Prop}{Ts Us:List Fact}{a0:Act}{w0:World}{Q:Exit→Act→World→Prop}(hB:chainAB a0.tmps.size l t=true)
  (hF:FactsA P l t m S a0 w0 Ts Us l.length) (hend:ChainA P (l++[t]).toArray l t m S a0 w0 Q [] l.length (factsTo l Ts l.length) (factsTo l Us l.length)) :
  ∀(fuel:Nat) (listed:Array Bool) (a:Act) (w:World),listed.size=l.length+1→listed.getD l.length true=false→(∃n,n≤fuel∧n=(List.range (l.length+1)).countP (fun j=>!listed.getD j true))→InvA l m S Ts Us a0 w0 listed a w→wpAny P .any (l++[t]).toArray Q fuel listed a w:=by
 have hget:∀j,j<l.length→(l++[t]).toArray[j]?=l[j]?:=fun j hj=>by
  rw [List.getElem?_toArray,List.getElem?_append_left hj]
 have hgetn:(l++[t]).toArray[l.length]?=some t:=by
  rw [List.getElem?_toArray,List.getElem?_append_right (Nat.le_refl _)];simp
 obtain⟨htail,htail2⟩:=chainAB_tail hB
 have hsome:∀(listed:Array Bool),listed.size=l.length+1→listed.getD l.length true=false→Region.ready .any (l++[t]).toArray listed≠[]:=by
  intro listed hsz hn hr
  have hall:∀j,j<l.length→listed.getD j false=true:=by
   intro j
   induction j using Nat.strongRecOn with
   | _ j ih=>
    intro hj
    cases hb:listed.getD j false with
    | true=>rfl
    | false=>
     exfalso
     have hj':l[j]?=some l[j]:=List.getElem?_eq_getElem hj
     have hc:=chainAB_at hB hj'
     have hm:j∈Region.ready .any (l++[t]).toArray listed:=by
      rw [mem_ready]
      refine⟨?_,l[j],by rw [hget j hj,hj'],fun e he hbi=>ih e.on (hc.2.2.1 e he hbi) (Nat.lt_trans (hc.2.2.1 e he hbi) hj)⟩
      have:j<listed.size:=by omega
      simp only [Array.getD_eq_getD_getElem?,Array.getElem?_eq_getElem this,Option.getD_some] at hb ⊢
      exact hb
     rw [hr] at hm
     cases hm
  have hm:l.length∈Region.ready .any (l++[t]).toArray listed:=by
   rw [mem_ready]
   exact⟨hn,t,hgetn,fun e he hb=>hall _ (htail2 e he hb)⟩
  rw [hr] at hm
  cases hm
 intro fuel
 induction fuel with
 | zero=>
  intro listed a w hsz hln hn hI
  exfalso
  obtain⟨n,hn0,hn⟩:=hn
  have:0<(List.range (l.length+1)).countP (fun j=>!listed.getD j true):=List.countP_pos_iff.2 ⟨l.length,List.mem_range.2 (by omega),by simp [hln]⟩
  omega
 | succ fuel ih=>
  intro listed a w hsz hln hn hI
  refine⟨fun hr=>absurd hr (hsome listed hsz hln),fun i hi=>?_⟩
  obtain⟨hu,o,ho,hedges⟩:=mem_ready.1 hi
  have hisz:i<l.length+1:=by
   rcases Nat.lt_or_ge i (l.length+1) with h1|h1
   ·exact h1
   ·rw [List.getElem?_toArray,List.getElem?_eq_none (by simp;omega)] at ho;cases ho
  by_cases hil:i<l.length
  ·
   have hol:l[i]?=some o:=by rw [←hget i hil];exact ho
   obtain⟨⟨d,hd,hdm⟩,hdis,hbe,hlook⟩:=chainAB_at hB hol
   have hdi:dstAt l i=some d:=by simp [dstAt,hol,hd]
   have hl1:=hF.len
   have hl2:=hF.len2
   have hTi:Ts[i]?=some (Ts[i]'(by omega)):=List.getElem?_eq_getElem (by omega)
   have hUi:Us[i]?=some (Us[i]'(by omega)):=List.getElem?_eq_getElem (by omega)
   have hearly:before l i m=true→listed.getD m false=false:=by
    intro hb
    cases hm:listed.getD m false with
    | false=>rfl
    | true=>
     exfalso
     have hui:=getD_ff hu
     unfold before at hb
     rw [Bool.or_eq_true,beq_iff_eq] at hb
     rcases hb with hb|hb
     ·subst hb
      rw [hm] at hui
      cases hui
     ·cases hom:l[m]? with
      | none=>rw [hom] at hb;cases hb
      | some om=>
       rw [hom] at hb
       simp only [Array.any_eq_true',Bool.and_eq_true,beq_iff_eq] at hb
       obtain⟨e,he,hbi,hon⟩:=hb
       have:=hI.closed m om hm hom e he hbi
       rw [hon,hui] at this
       cases this
   have hK:∀(F:List Fact),F.length=l.length→(∀(j:Nat) (d:Tmp) (V:Fact),listed.getD j false=true→dstAt l j=some d→F[j]?=some V→V (a.tmps.getD d undef) w)→∀s∈o.looksAt (l++[t]).toArray,Knows (factsTo l F i) a0 a w s:=by
    intro F hlF hdone s hs
    unfold Knows
    cases hl:look (factsTo l F i) s with
    | some V=>
     obtain⟨j,hj,hdj,hVj⟩:=mem_factsTo (look_some hl)
     obtain⟨e,he,hb,rfl⟩:=(hlook s hs).2 j (by omega) hdj
     exact hdone _ s V (hedges e he hb) hdj hVj
    | none=>
     refine hI.rest s fun j hj hdj=>?_
     have hjl:=dst_lt hdj
     obtain⟨e,he,hb,rfl⟩:=(hlook s hs).2 j hjl hdj
     have hlt:=hbe e he hb
     have hV:F[e.on]?=some (F[e.on]'(by omega)):=List.getElem?_eq_getElem (by omega)
     obtain⟨V,hV'⟩:=look_mem ⟨_,factsTo_mem (i:=i) hlt hdj hV,rfl⟩
     rw [hV'] at hl
     cases hl
   have hS:=hF.step i o _ hol hTi a w hI.keep (fun hb=>hI.early (hearly hb)) (by
    by_cases hb:before l i m=true
    ·rw [if_pos hb]
     exact hK Ts hl1 fun j d V h1 h2 h3=>hI.done j d V h1 (hearly hb) h2 h3
    ·rw [if_neg hb]
     exact hK Us hl2 hI.weak)
   refine wpOp_noWay ho (K:=AfterA S (i==m) (Ts[i]'(by omega)) a o.dst w) ?_ ?_
   ·rintro a' w' ⟨v,rfl,hT,hrel⟩
    have hds:d<a.tmps.size:=by rw [hI.size];exact hdm
    have hkeep:Keeps S w w':=by
     cases hsp:i==m with
     | true=>rw [hsp,if_pos rfl] at hrel;exact hrel
     | false=>rw [hsp,if_neg (by simp)] at hrel;exact keeps_of hrel
    have hsame:∀j,j<l.length→(listed.setIfInBounds i true).getD j false=true→j=i∨listed.getD j false=true:=fun j _ h=>getD_set_cases h
    refine ih _ _ _ (by simpa using hsz) (by rw [getD_set_ne true (by omega)];exact hln) ?_ ⟨hI.keep.trans hkeep,?_,?_,?_,?_,?_,?_,?_⟩
    ·obtain⟨n,hn0,hn⟩:=hn
     refine⟨_,?_,rfl⟩
     have hlt:(List.range (l.length+1)).countP (fun j=>!(listed.setIfInBounds i true).getD j true)<(List.range (l.length+1)).countP (fun j=>!listed.getD j true):=by
      refine countP_lt (i:=i) (fun x _ hx=>?_) (List.mem_range.2 hisz) (by simp [hu]) ?_
      ·by_cases e:i=x
       ·subst e;simp [hu]
       ·rw [getD_set_ne true e] at hx;exact hx
      ·have:i<listed.size:=by omega
       simp [this]
     omega
    ·intro hm
     by_cases e:i=m
     ·subst e
      have:i<listed.size:=by omega
      simp [this] at hm
     ·rw [getD_set_ne false e] at hm
      have hsp:(i==m)=false:=by simpa using e
      rw [hsp,if_neg (by simp)] at hrel
      exact(hI.early hm).trans (hrel.mono (hI.early hm).size)
    ·rw [hd];exact hI.defers
    ·rw [hd];simp [Act.put,hI.size]
    ·intro j d' T hj hm hdj hTj
     rw [hd]
     by_cases e:i=m
     ·subst e
      have:i<listed.size:=by omega
      simp [this] at hm
     ·rw [getD_set_ne false e] at hm
      have hsp:(i==m)=false:=by simpa using e
      rw [hsp,if_neg (by simp)] at hrel
      rcases getD_set_cases hj with rfl|hj2
      ·rw [hdi] at hdj
       injection hdj with hdj
       subst hdj
       rw [hTi] at hTj
       injection hTj with hTj
       subst hTj
       rw [getD_put_same hds]
       exact hT
      ·have hne:d≠d':=by
        rintro rfl
        have hji:j≠i:=by
         rintro rfl
         rw [getD_ff hu] at hj2
         cases hj2
        exact hdis j (dst_lt hdj) hji (by rw [hdj,hd])
       rw [getD_put_ne hne]
       exact hF.st j T hTj _ _ _ (hI.done j d' T hj2 hm hdj hTj) hrel
    ·intro j d' U hj hdj hUj
     rw [hd]
     rcases getD_set_cases hj with rfl|hj2
     ·rw [hdi] at hdj
      injection hdj with hdj
      subst hdj
      rw [getD_put_same hds]
      exact hF.weak j _ U hTi hUj _ _ hT
     ·have hji:j≠i:=by
       rintro rfl
       rw [getD_ff hu] at hj2
       cases hj2
      have hne:d≠d':=by
       rintro rfl
       exact hdis j (dst_lt hdj) hji (by rw [hdj,hd])
      rw [getD_put_ne hne]
      have hold:=hI.weak j d' U hj2 hdj hUj
      by_cases e:i=m
      ·exact hF.sk j U hUj (by omega) _ _ _ hold hkeep
      ·have hsp:(i==m)=false:=by simpa using e
       rw [hsp,if_neg (by simp)] at hrel
       exact hF.su j U hUj _ _ _ hold hrel
    ·intro s hs
     have hne:d≠s:=by
      rintro rfl
      refine hs i ?_ hdi
      have:i<listed.size:=by omega
      simp [this]
     rw [hd,getD_put_ne hne]
     refine hI.rest s fun j hj hdj=>hs j (getD_set_true hj) hdj
    ·intro jj om hm hom e he hbi
     rcases getD_set_cases hm with rfl|hm2
     ·rw [hol] at hom
      injection hom with hom
      subst hom
      exact getD_set_true (hedges e he hbi)
     ·exact getD_set_true (hI.closed jj om hm2 hom e he hbi)
   ·by_cases hw:Region.wanted o (yielded (l++[t]).toArray a.tmps)=true
    ·rw [if_pos hw] at hS ⊢
     exact hS
    ·rw [if_neg hw] at hS ⊢
     refine⟨undef,rfl,hS.1,?_⟩
     have hsp:(i==m)=false:=by simpa using hS.2
     rw [hsp,if_neg (by simp)]
     exact Below.refl _ _
  ·
   obtain rfl:i=l.length:=by omega
   rw [hgetn] at ho
   injection ho with ho
   subst ho
   have hall:∀j,j<l.length→listed.getD j false=true:=listed_all hI.closed hedges htail
   have hE:=hend a w hI.keep hI.defers hI.size fun s hs=>by
    unfold Knows
    cases hl:look (factsTo l Us l.length) s with
    | some U=>
     obtain⟨j,hj,hd,hU⟩:=mem_factsTo (look_some hl)
     exact hI.weak j s U (hall j hj) hd hU
    | none=>
     refine hI.rest s fun j hj hd=>?_
     have hjl:=dst_lt hd
     have hU:Us[j]?=some (Us[j]'(by have:=hF.len2;omega)):=List.getElem?_eq_getElem (by have:=hF.len2;omega)
     obtain⟨U,hU'⟩:=look_mem ⟨_,factsTo_mem (i:=l.length) hjl hd hU,rfl⟩
     rw [hU'] at hl
     cases hl
   have hE2:wpOp P (l++[t]).toArray Q l.length (fun a w=>Q .normal a w) a w:=by
    unfold wpOp
    rw [hgetn]
    exact hE
   refine wpOp_mono (fun a' w' hQ=>?_) hE2
   have hnone:Region.ready .any (l++[t]).toArray (listed.setIfInBounds l.length true)=[]:=by
    rw [List.eq_nil_iff_forall_not_mem]
    intro j hj
    obtain⟨hu',o',ho',_⟩:=mem_ready.1 hj
    have hjl:j<l.length+1:=by
     rcases Nat.lt_or_ge j (l.length+1) with h1|h1
     ·exact h1
     ·rw [List.getElem?_toArray,List.getElem?_eq_none (by simp;omega)] at ho';cases ho'
    by_cases e:l.length=j
    ·subst e
     have:l.length<listed.size:=by omega
     simp [this] at hu'
    ·rw [getD_set_ne true e] at hu'
     have:=getD_ff hu'
     rw [hall j (by omega)] at this
     cases this
   cases fuel with
   | zero=>exact⟨hnone,hQ⟩
   | succ f=>exact⟨fun _=>hQ,fun i hi=>by rw [hnone] at hi;cases hi⟩
theorem wp_region_a {P:Program}{id:Nat}{ops:Array Oper}(l:List Oper)(t:Oper)(m:Nat)(S:Nat→Prop){Q:Exit→Act→World→Prop}{a:Act}{w:World}(hops:ops=(l++[t]).toArray)(hm:P.follows .mixedOrders=true)(hB:chainAB a.tmps.size l t=true)
  (h:ChainA P (l++[t]).toArray l t m S a w.drew Q l 0 [] []):(Code.region id ops true).wp P Q a w:=by
 subst hops
 obtain⟨Ts,Us,hF,hend⟩:=chainA_facts (l:=l) l 0 [] [] rfl (Nat.zero_le _) h ⟨rfl,rfl,fun j T hT=>by simp at hT,fun j T hT=>by simp at hT,fun j T hT=>by simp at hT,fun j T U hT=>by simp at hT,fun j o T _ hT=>by simp at hT⟩
 refine wp_region_any hm ?_
 have hff:∀j,(Array.replicate (l++[t]).toArray.size false).getD j false=false:=by
  intro j
  by_cases hlt:j<l.length+1<;>simp [hlt]
 refine inva_any hB hF hend _ _ _ _ (by simp) (by simp) ⟨_,?_,rfl⟩ ⟨Keeps.refl _ _,fun _=>Below.refl _ _,rfl,rfl,?_,?_,fun s _=>rfl,?_⟩
 ·refine Nat.le_trans List.countP_le_length ?_
  simp
 ·intro j d T hj
  rw [hff] at hj;cases hj
 ·intro j d U hj
  rw [hff] at hj;cases hj
 ·intro jj om hj
  rw [hff] at hj;cases hj
def OnlyN (K:Act→World→Prop):Exit→Act→World→Prop:=fun e a w=>e=.normal∧K a w
theorem wp_of_list {P:Program}{ops:Array Oper}{o:Oper}{a:Act}{w:World}{K:Act→World→Prop}(hw:Region.wanted o (yielded ops a.tmps)=true)(h:wpList P ops (OnlyN K) [o] a w):o.wp P a w K NoWay:=by
 unfold wpList at h
 rw [if_pos hw] at h
 rcases h with h|⟨_,a',w',he,_⟩
 ·unfold Oper.wp at *
  generalize (execOp a.eval o).run P w=r at *
  cases r with
  | ok n w'=>
   cases n<;>simp only [Oper.upon] at h ⊢ <;>
    first
     | exact h.2
     | exact Calls.mono h (fun e w'' he=>by
       cases e with
       | returned v=>exact he.2
       | panicked c=>exact absurd he.1 (by simp)
       | outgrown=>obtain⟨_,_,h',_⟩:=he;cases h')
     | exact Rows.mono h (fun _ _ he=>he.2)
  | halt x w'=>
   cases x<;>simp only [Oper.upon] at h ⊢ <;>
    first
     | exact h.elim
     | exact absurd h.1 (by simp)
 ·cases he
section
variable {P:Program} {ops:Array Oper} {l:List Oper} {t:Oper} {m:Nat} {S:Nat→Prop} {a0:Act} {w0:World} {Q:Exit→Act→World→Prop} {o:Oper} {r:List Oper} {i:Nat} {F G:List (Tmp×Fact)} {d:Tmp}
theorem a_val {u:Value}(L:List Tmp)(hE:before l i m=true)(hm:(i==m)=false)(hd:o.dst=some d)(hL:(L.all fun s=>(o.looksAt ops).contains s)=true)(hg:GuardOK ops F a0 o)
  (h:∀ρ w,Below w0.heap.size w0 w→Plain ρ→AllK F a0 w ρ L→(execOp ρ o).run P w=.ok (.value u) w) (hr:ChainA P ops l t m S a0 w0 Q r (i+1) ((d,Is u)::F) ((d,Is u)::G)):ChainA P ops l t m S a0 w0 Q (o::r) i F G:=by
 refine⟨d,Is u,Is u,hd,stable_is u,stable_is u,fun _=>stableK_is S u,fun _ _ h=>h,fun a w hK hb hk=>?_,hr⟩
 rw [if_pos hE] at hk
 rw [if_pos (wanted_of hg hk)]
 unfold Oper.wp
 rw [h a.eval w (hb hE) (plain_eval a) (allK_of hk hL)]
 exact⟨u,rfl,rfl,by rw [hm,if_neg (by simp)];exact Below.refl _ _⟩
theorem a_val_l {u:Value}(L:List Tmp)(hE:before l i m=false)(hd:o.dst=some d)(hL:(L.all fun s=>(o.looksAt ops).contains s)=true)(hg:GuardOK ops G a0 o)
  (h:∀ρ w,Keeps S w0 w→Plain ρ→AllK G a0 w ρ L→(execOp ρ o).run P w=.ok (.value u) w) (hr:ChainA P ops l t m S a0 w0 Q r (i+1) ((d,Is u)::F) ((d,Is u)::G)):ChainA P ops l t m S a0 w0 Q (o::r) i F G:=by
 refine⟨d,Is u,Is u,hd,stable_is u,stable_is u,fun _=>stableK_is S u,fun _ _ h=>h,fun a w hK hb hk=>?_,hr⟩
 rw [if_neg (by rw [hE];simp)] at hk
 rw [if_pos (wanted_of hg hk)]
 have hm:(i==m)=false:=by
  unfold before at hE
  rw [Bool.or_eq_false_iff] at hE
  exact hE.1
 unfold Oper.wp
 rw [h a.eval w hK (plain_eval a) (allK_of hk hL)]
 exact⟨u,rfl,rfl,by rw [hm,if_neg (by simp)];exact Below.refl _ _⟩
theorem a_new {T:Fact}(L:List Tmp)(hE:before l i m=true)(hm:(i==m)=false)(hd:o.dst=some d)(hL:(L.all fun s=>(o.looksAt ops).contains s)=true)(hg:GuardOK ops F a0 o)(hs:stable T)
  (h:∀ρ w,Below w0.heap.size w0 w→Plain ρ→AllK F a0 w ρ L→∃v w',(execOp ρ o).run P w=.ok (.value v) w'∧T v w'∧Below w.heap.size w w') (hr:ChainA P ops l t m S a0 w0 Q r (i+1) ((d,T)::F) ((d,Any)::G)):ChainA P ops l t m S a0 w0 Q (o::r) i F G:=by
 refine⟨d,T,Any,hd,hs,stable_anyF,fun _=>stableK_anyF S,fun _ _ _=>trivial,fun a w hK hb hk=>?_,hr⟩
 rw [if_pos hE] at hk
 rw [if_pos (wanted_of hg hk)]
 obtain⟨v,w',h1,h2,h3⟩:=h a.eval w (hb hE) (plain_eval a) (allK_of hk hL)
 unfold Oper.wp
 rw [h1]
 exact⟨v,rfl,h2,by rw [hm,if_neg (by simp)];exact h3⟩
theorem a_call {T:Fact}(f:FuncId)(L:List Tmp)(hE:before l i m=true)(hm:(i==m)=false)(hd:o.dst=some d)(hL:(L.all fun s=>(o.looksAt ops).contains s)=true)(hg:GuardOK ops F a0 o)(hs:stable T)
  (h:∀ρ w,Below w0.heap.size w0 w→Plain ρ→AllK F a0 w ρ L→∃args,(execOp ρ o).run P w=.ok (.enter f args) w∧Calls P f args w fun e w'=>∃v,e=.returned v∧T v w'∧Below w.heap.size w w') (hr:ChainA P ops l t m S a0 w0 Q r (i+1) ((d,T)::F) ((d,Any)::G)):ChainA P ops l t m S a0 w0 Q (o::r) i F G:=by
 refine⟨d,T,Any,hd,hs,stable_anyF,fun _=>stableK_anyF S,fun _ _ _=>trivial,fun a w hK hb hk=>?_,hr⟩
 rw [if_pos hE] at hk
 rw [if_pos (wanted_of hg hk)]
 obtain⟨args,h1,h2⟩:=h a.eval w (hb hE) (plain_eval a) (allK_of hk hL)
 unfold Oper.wp
 rw [h1]
 refine h2.mono fun e w' ⟨v,he,hT,hbel⟩=>?_
 subst he
 exact⟨v,rfl,hT,by rw [hm,if_neg (by simp)];exact hbel⟩
theorem a_sp {T:Fact}(L:List Tmp)(hm:(i==m)=true)(hd:o.dst=some d)(hL:(L.all fun s=>(o.looksAt ops).contains s)=true)(hg:GuardOK ops F a0 o)(hs:stable T)
  (h:∀a w,Below w0.heap.size w0 w→Plain a.eval→AllK F a0 w a.eval L→wpList P ops (OnlyN (AfterA S true T a o.dst w)) [o] a w) (hr:ChainA P ops l t m S a0 w0 Q r (i+1) ((d,T)::F) ((d,T)::G)):ChainA P ops l t m S a0 w0 Q (o::r) i F G:=by
 have hE:before l i m=true:=by unfold before;rw [hm];rfl
 refine⟨d,T,T,hd,hs,hs,fun hne=>absurd (by simpa using hm) hne,fun _ _ h=>h,fun a w hK hb hk=>?_,hr⟩
 rw [if_pos hE] at hk
 have hw:=wanted_of hg hk
 rw [if_pos hw,hm]
 exact wp_of_list hw (h a w (hb hE) (plain_eval a) (allK_of hk hL))
theorem a_end_lit (n:Nat)(hn:a0.tmps.size=n)
  (h:∀(f:Tmp→Value) (w:World),Keeps S w0 w→AllN (fun s=>KnowsV G a0 w s (f s)) n 0→wpList P ops Q [t] { tmps:=(frameL f n 0).toArray,defers:=a0.defers } w):ChainA P ops l t m S a0 w0 Q [] i F G:=by
 intro a w hb hd hs hk
 have e:a={ tmps:=(frameL (fun s=>a.tmps.getD s undef) n 0).toArray,defers:=a0.defers }:=by
  obtain⟨tm,df⟩:=a
  simp only at hd hs
  subst hd
  congr 1
  apply Array.ext'
  apply List.ext_getElem?
  intro j
  by_cases hj:j<n
  ·rw [show ((frameL (fun s=>tm.getD s undef) n 0).toArray.toList)=frameL (fun s=>tm.getD s undef) n 0 from rfl,frameL_get _ _ _ _ hj]
   have:j<tm.size:=by omega
   simp [this]
  ·rw [show ((frameL (fun s=>tm.getD s undef) n 0).toArray.toList)=frameL (fun s=>tm.getD s undef) n 0 from rfl]
   rw [List.getElem?_eq_none (by simp;omega),List.getElem?_eq_none (by rw [frameL_length];omega)]
 rw [e]
 exact h _ w hb (allN_of n 0 fun j _ hj=>hk j (by rw [hn];omega))
end
theorem wp_region_a11 {P:Program}{id:Nat}{o0 o1 o2 o3 o4 o5 o6 o7 o8 o9 o10 t:Oper}(m:Nat)(S:Nat→Prop){Q:Exit→Act→World→Prop}{a:Act}{w:World}(hm:P.follows .mixedOrders=true)(hB:chainAB a.tmps.size [o0,o1,o2,o3,o4,o5,o6,o7,o8,o9,o10] t=true)
  (h:ChainA P #[o0,o1,o2,o3,o4,o5,o6,o7,o8,o9,o10,t] [o0,o1,o2,o3,o4,o5,o6,o7,o8,o9,o10] t m S a w.drew Q [o0,o1,o2,o3,o4,o5,o6,o7,o8,o9,o10] 0 [] []):(Code.region id #[o0,o1,o2,o3,o4,o5,o6,o7,o8,o9,o10,t] true).wp P Q a w:=
 wp_region_a [o0,o1,o2,o3,o4,o5,o6,o7,o8,o9,o10] t m S rfl hm hB h
def NoBlk:Nat→Prop:=fun _=>False
theorem keeps_none {w w':World}(h:Keeps NoBlk w w'):Below w.heap.size w w':=⟨h.os,h.tape,h.output,h.size,fun k hk=>h.block k hk (fun h=>h)⟩
theorem stable_none {T:Fact}(h:stable T):stableK NoBlk T:=fun v w w' hT hk=>h v w w' hT (keeps_none hk)
section
variable {P:Program} {ops:Array Oper} {l:List Oper} {t:Oper} {a0:Act} {w0:World} {Q:Exit→Act→World→Prop} {o:Oper} {r:List Oper} {i:Nat} {F G:List (Tmp×Fact)} {d:Tmp}
theorem n_val {u:Value}(L:List Tmp)(hE:before l i 999=false)(hd:o.dst=some d)(hL:(L.all fun s=>(o.looksAt ops).contains s)=true)(hg:GuardOK ops G a0 o)
  (h:∀ρ w,Below w0.heap.size w0 w→Plain ρ→AllK G a0 w ρ L→(execOp ρ o).run P w=.ok (.value u) w) (hr:ChainA P ops l t 999 NoBlk a0 w0 Q r (i+1) ((d,Is u)::F) ((d,Is u)::G)):ChainA P ops l t 999 NoBlk a0 w0 Q (o::r) i F G:=
 a_val_l L hE hd hL hg (fun ρ w hk=>h ρ w (keeps_none hk)) hr
theorem n_call {T:Fact}(f:FuncId)(L:List Tmp)(hE:before l i 999=false)(hd:o.dst=some d)(hL:(L.all fun s=>(o.looksAt ops).contains s)=true)(hg:GuardOK ops G a0 o)(hs:stable T)
  (h:∀ρ w,Below w0.heap.size w0 w→Plain ρ→AllK G a0 w ρ L→∃args,(execOp ρ o).run P w=.ok (.enter f args) w∧Calls P f args w fun e w'=>∃v,e=.returned v∧T v w'∧Below w.heap.size w w') (hr:ChainA P ops l t 999 NoBlk a0 w0 Q r (i+1) ((d,T)::F) ((d,T)::G)):ChainA P ops l t 999 NoBlk a0 w0 Q (o::r) i F G:=by
 have hm:(i==999)=false:=by
  unfold before at hE
  rw [Bool.or_eq_false_iff] at hE
  exact hE.1
 refine⟨d,T,T,hd,hs,hs,fun _=>stable_none hs,fun _ _ h=>h,fun a w hK hb hk=>?_,hr⟩
 rw [if_neg (by rw [hE];simp)] at hk
 rw [if_pos (wanted_of hg hk)]
 obtain⟨args,h1,h2⟩:=h a.eval w (keeps_none hK) (plain_eval a) (allK_of hk hL)
 unfold Oper.wp
 rw [h1]
 refine h2.mono fun e w' ⟨v,he,hT,hbel⟩=>?_
 subst he
 exact⟨v,rfl,hT,by rw [hm,if_neg (by simp)];exact hbel⟩
end
theorem wp_region_n8 {P:Program}{id:Nat}{o0 o1 o2 o3 o4 o5 o6 o7 t:Oper}{Q:Exit→Act→World→Prop}{a:Act}{w:World}(hm:P.follows .mixedOrders=true)(hB:chainAB a.tmps.size [o0,o1,o2,o3,o4,o5,o6,o7] t=true)
  (h:ChainA P #[o0,o1,o2,o3,o4,o5,o6,o7,t] [o0,o1,o2,o3,o4,o5,o6,o7] t 999 NoBlk a w.drew Q [o0,o1,o2,o3,o4,o5,o6,o7] 0 [] []):(Code.region id #[o0,o1,o2,o3,o4,o5,o6,o7,t] true).wp P Q a w:=
 wp_region_a [o0,o1,o2,o3,o4,o5,o6,o7] t 999 NoBlk rfl hm hB h
theorem chain_skipU {P:Program}{ops:Array Oper}{a0:Act}{w0:World}{Q:Exit→Act→World→Prop}{o:Oper}{r:List Oper}{F:List (Tmp×Fact)}{d:Tmp}{g s:Nat}{b:Bool}(hgd:o.guard=some (g,b))(hd:o.dst=some d)(hs:s∈o.looksAt ops)(hb:(ops[g]?).bind (·.dst)=some s)
  (hv:∀w x,KnowsV F a0 w s x→x=undef) (hr:Chain P ops a0 w0 Q r ((d,Is undef)::F)):Chain P ops a0 w0 Q (o::r) F:=by
 refine⟨d,Is undef,hd,stable_is _,fun a w _ hk=>?_,hr⟩
 have hx:=hv w _ (hk s hs)
 have hy:yielded ops a.tmps g=none:=by
  unfold yielded
  rw [hb]
  simp only [Option.bind_some]
  simp only [Array.getD_eq_getD_getElem?] at hx
  cases ht:a.tmps[s]? with
  | none=>rfl
  | some v=>rw [ht] at hx;simp at hx;subst hx;rfl
 have hw:Region.wanted o (yielded ops a.tmps)=false:=by
  unfold Region.wanted
  rw [hgd]
  simp only [hy]
  cases b<;>rfl
 rw [if_neg (by rw [hw];exact Bool.false_ne_true)]
 rfl
section
variable {P:Program} {ops:Array Oper} {l:List Oper} {t:Oper} {m:Nat} {S:Nat→Prop} {a0:Act} {w0:World} {Q:Exit→Act→World→Prop} {o:Oper} {r:List Oper} {i:Nat} {F G:List (Tmp×Fact)} {d:Tmp}
end
theorem wp_region_a10 {P:Program}{id:Nat}{o0 o1 o2 o3 o4 o5 o6 o7 o8 o9 t:Oper}(m:Nat)(S:Nat→Prop){Q:Exit→Act→World→Prop}{a:Act}{w:World}(hm:P.follows .mixedOrders=true)(hB:chainAB a.tmps.size [o0,o1,o2,o3,o4,o5,o6,o7,o8,o9] t=true)
  (h:ChainA P #[o0,o1,o2,o3,o4,o5,o6,o7,o8,o9,t] [o0,o1,o2,o3,o4,o5,o6,o7,o8,o9] t m S a w.drew Q [o0,o1,o2,o3,o4,o5,o6,o7,o8,o9] 0 [] []):(Code.region id #[o0,o1,o2,o3,o4,o5,o6,o7,o8,o9,t] true).wp P Q a w:=
 wp_region_a [o0,o1,o2,o3,o4,o5,o6,o7,o8,o9] t m S rfl hm hB h
end
end Go.Proofs.YtfaflahfjgnphaaGreatDoor
