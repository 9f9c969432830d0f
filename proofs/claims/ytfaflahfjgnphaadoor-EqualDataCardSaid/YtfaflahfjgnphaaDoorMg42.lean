/- The texts EqC, EqD, EqE, EqF, EqG, EqH, EqI (what is wanted of them), one after the other. -/
import Derived.Test.YtfaflahfjgnphaaDoorMg26
import Derived.Test.YtfaflahfjgnphaaDoorMg36
import Derived.Test.YtfaflahfjgnphaaDoorMg39
import Derived.Test.YtfaflahfjgnphaaDoorMg40
namespace Go.Proofs.YtfaflahfjgnphaaDoor
open Go.ChangeShapes Go.WideShapes Go.ChangeAt Go.RowKit
set_option linter.unusedVariables false
set_option linter.unusedSimpArgs false
set_option maxRecDepth 100000
section
attribute [local simp] AllK KnowsV look Is
structure EnvQ (A:Option Addr) (ls:List (List Int)) (w:World):Prop where
 sg:Sg w A ls
 tab:TabOK w
 wd:Wd2 ls
 m:ls.length≤40
 f:∀j,(seg ls j).length≤20000000
theorem EnvQ.on {A:Option Addr}{ls:List (List Int)}{w w':World}(h:EnvQ A ls w)(hb:Below w.heap.size w w'):EnvQ A ls w':=⟨h.sg.below hb (Nat.le_refl _),h.tab.below hb (Nat.le_refl _),h.wd,h.m,h.f⟩
structure ObQ (o:Ob):Prop where
 k:0≤o.k∧o.k≤2
 sg:0≤o.sg∧o.sg≤40
 at':0≤o.at'∧o.at'≤100000000000
 d:0≤o.d∧o.d≤65535
 p:0≤o.p∧o.p≤65535
 el:0≤o.el∧o.el≤7
 n:0≤o.n∧o.n≤536870911
theorem obQ0:ObQ ob0:=by constructor<;>decide
theorem ObjOk.q {ls:List (List Int)}(hw:Wd2 ls)(hm:ls.length≤40)(hf:∀j,(seg ls j).length≤20000000){r:Nat}{o:Ob}{X:Nd}(h:ObjOk ls r o X):ObQ o:=by
 rcases h with ⟨rfl,-⟩|⟨-,-,h,-⟩
 ·exact obQ0
 ·have:=located hw hm hf h
  constructor<;>omega
theorem Edata_any (A:Option Addr)(c n:Nat)(ls:List (List Int))(k sg at' d p el m cost:Int)(w:World)(E:EnvQ A ls w)(hn:ls.length=n)(h1:0≤sg∧sg≤40)(h2:0≤at'∧at'≤100000000000)(h3:0≤d∧d≤65535):
  Calls Tryd.prog 36 #[.slice A n c,.agg #[.int .i64 k,.int .i64 sg,.int .i64 at',.int .i64 d,.int .i64 p,.int .i64 el,.int .i64 m,.int .i64 cost]] w fun r w'=>∃v,r=.returned v∧Got w' w.heap.size 32 .u64 v (datW ls sg at' d)∧Below w.heap.size w w':=by
 subst hn
 have HB1:=Lib.hid ((Below.refl w.heap.size w).alloc (Nat.le_refl _) (.cells #[.int .i64 k,.int .i64 sg,.int .i64 at',.int .i64 d,.int .i64 p,.int .i64 el,.int .i64 m,.int .i64 cost] 45))
 have HSL:=Lib.hid (ASlice_any A c ls sg at' d _ (E.on HB1.out).sg (by have:=E.m;omega) (fun j=>by have:=E.f j;omega) (by omega) (by omega) (by omega) (by omega) (by omega) (by omega))
 clear E h1 h2 h3
 go_enter Tryd.func36,Tryd.ntmps36
 go_wp2_with fail
 refine HSL.out.mono ?_
 rintro r w1 ⟨v,rfl,hg,hb1⟩
 have HG:=Lib.hid (hg.mono (show w.heap.size≤_ by simp))
 have HB2:=Lib.hid (bel_on HB1.out hb1)
 clear hg hb1 HSL
 go_wp2
 go_ret
 exact⟨v,rfl,HG.out,HB2.out⟩
set_option maxHeartbeats 2000000 in
theorem Eobject_any (A:Option Addr)(c n:Nat)(ls:List (List Int))(s a k sg at' d p el m cost e0:Int)(w:World)(E:EnvQ A ls w)(hn:ls.length=n)(h1:0≤s∧s≤40)(h2:0≤a∧a≤1000000000000)(hq:objF ls s a=(⟨k,sg,at',d,p,el,m,cost⟩,e0)):
  Calls Tryd.prog 14 #[.slice A n c,.int .i64 s,.int .i64 a] w fun r w'=>r=.returned (.agg #[.int .i64 k,.int .i64 sg,.int .i64 at',.int .i64 d,.int .i64 p,.int .i64 el,.int .i64 m,.int .i64 cost])∧Below w.heap.size w w':=by
 have HB1:=Lib.hid ((Below.refl w.heap.size w).alloc (Nat.le_refl _) (.cells #[.int .i64 0,.int .i64 0,.int .i64 0,.int .i64 0,.int .i64 0,.int .i64 0,.int .i64 0,.int .i64 0] 45))
 have HO1:=Lib.hid (Blk.fresh w #[.int .i64 0,.int .i64 0,.int .i64 0,.int .i64 0,.int .i64 0,.int .i64 0,.int .i64 0,.int .i64 0] 45)
 have HC:=Lib.hid (RObject_at A c n ls s a k sg at' d p el m cost e0 _ (E.on HB1.out).tab hn.symm (E.on HB1.out).sg E.wd (by have:=E.m;omega) (fun j=>by have:=E.f j;omega) (by omega) (by omega) (by omega) (by omega) hq)
 clear E h1 h2 hq
 go_enter Tryd.func14,Tryd.ntmps14
 go_wp2_with fail
 refine HC.out.mono ?_
 rintro r w1 ⟨rfl,hb1⟩
 have HO2:=Lib.hid ((HO1.out.below hb1).alloc (.cells #[.int .i64 k,.int .i64 sg,.int .i64 at',.int .i64 d,.int .i64 p,.int .i64 el,.int .i64 m,.int .i64 cost] 45))
 have HB2:=Lib.hid ((bel_on HB1.out hb1).alloc (bel_on HB1.out hb1).size (.cells #[.int .i64 k,.int .i64 sg,.int .i64 at',.int .i64 d,.int .i64 p,.int .i64 el,.int .i64 m,.int .i64 cost] 45))
 clear HC HO1 HB1 hb1
 obtain⟨x1,y1,z1⟩:=HO2.out
 go_wp2_with fail
 refine abs_post (F:=fun W=>Blk W w.heap.size #[.int .i64 k,.int .i64 sg,.int .i64 at',.int .i64 d,.int .i64 p,.int .i64 el,.int .i64 m,.int .i64 cost]∧Below w.heap.size w W) ⟨?_,?_⟩ ?_
 ·exact((((((((HO2.out.set 0 (by simp) _).set 1 (by simp) _).set 2 (by simp) _).set 3 (by simp) _).set 4 (by simp) _).set 5 (by simp) _).set 6 (by simp) _).set 7 (by simp) _)
 ·repeat (with_reducible first|exact HB2.out|refine Below.setCell ?_ (by simp) _)
 rintro V ⟨B6,hbv⟩
 exact bodyPost_ret (v:=.agg #[.int .i64 k,.int .i64 sg,.int .i64 at',.int .i64 d,.int .i64 p,.int .i64 el,.int .i64 m,.int .i64 cost]) (by simp [results,Tryd.results14,go_sem,B6.cell]) rfl ⟨rfl,hbv⟩
end
section
attribute [local simp] AllK KnowsV look Is
set_option maxHeartbeats 2000000 in
theorem Ekid_core (A:Option Addr)(c n:Nat)(ls:List (List Int))(k sg at' d p el m cost x y i:Int)(v:Ob)(w:World)(E:EnvQ A ls w)(hn:ls.length=n)(h1:0≤sg∧sg≤40)(h2:0≤at'∧at'≤100000000000)(h3:0≤d∧d≤65535)(h4:0≤i∧i≤1000000000)(hp:ptrO ⟨k,sg,at',d,p,el,m,cost⟩=(x,y))(hx:0≤x∧x≤200000000000)
  (hv:if y≤i then v=ob0 else ∃e0,objF ls sg (x+i)=(v,e0)) :
  Calls Tryd.prog 38 #[.slice A n c,.agg #[.int .i64 k,.int .i64 sg,.int .i64 at',.int .i64 d,.int .i64 p,.int .i64 el,.int .i64 m,.int .i64 cost],.int .i64 i] w fun r w'=>r=.returned (.agg #[.int .i64 v.k,.int .i64 v.sg,.int .i64 v.at',.int .i64 v.d,.int .i64 v.p,.int .i64 v.el,.int .i64 v.n,.int .i64 v.cost])∧Below w.heap.size w w':=by
 have HB1:=Lib.hid (((Below.refl w.heap.size w).alloc (Nat.le_refl _) (.cells #[.int .i64 k,.int .i64 sg,.int .i64 at',.int .i64 d,.int .i64 p,.int .i64 el,.int .i64 m,.int .i64 cost] 45)).alloc (by simp) (.cells #[.int .i64 0,.int .i64 0,.int .i64 0,.int .i64 0,.int .i64 0,.int .i64 0,.int .i64 0,.int .i64 0] 45))
 have HX1:=Lib.hid ((Blk.fresh w #[.int .i64 k,.int .i64 sg,.int .i64 at',.int .i64 d,.int .i64 p,.int .i64 el,.int .i64 m,.int .i64 cost] 45).alloc (.cells #[.int .i64 0,.int .i64 0,.int .i64 0,.int .i64 0,.int .i64 0,.int .i64 0,.int .i64 0,.int .i64 0] 45))
 have HO1:Hid (Blk ((w.alloc (.cells #[.int .i64 k,.int .i64 sg,.int .i64 at',.int .i64 d,.int .i64 p,.int .i64 el,.int .i64 m,.int .i64 cost] 45)).alloc (.cells #[.int .i64 0,.int .i64 0,.int .i64 0,.int .i64 0,.int .i64 0,.int .i64 0,.int .i64 0,.int .i64 0] 45)) (w.heap.size+1) #[.int .i64 0,.int .i64 0,.int .i64 0,.int .i64 0,.int .i64 0,.int .i64 0,.int .i64 0,.int .i64 0]):=Lib.hid (Blk.new (by simp))
 have HE:=Lib.hid E
 have HP:=Lib.hid (fun w2=>RPointers_is k sg at' d p el m cost x y w2 (by omega) (by omega) (by omega) (by omega) hp)
 have HV:=Lib.hid hv
 clear E hp hv
 go_enter Tryd.func38,Tryd.ntmps38
 go_wp2_with fail
 refine(HP.out _).mono ?_
 rintro r w1 ⟨rfl,hb1⟩
 have HB2:=Lib.hid (bel_on HB1.out hb1)
 have HX2:=Lib.hid (HX1.out.below hb1)
 have HO2:=Lib.hid (HO1.out.below hb1)
 clear hb1 HP HX1 HO1 HB1
 by_cases hi:y≤i
 ·have t1:decide (y≤i)=true:=decide_eq_true hi
  have hv:v=ob0:=by have:=HV.out;rw [if_pos hi] at this;exact this
  subst hv
  clear HV hi
  obtain⟨x1,y1,z1⟩:=HO2.out
  go_wp2_with fail
  refine abs_post (F:=fun W=>Blk W (w.heap.size+1) #[.int .i64 0,.int .i64 0,.int .i64 0,.int .i64 0,.int .i64 0,.int .i64 0,.int .i64 0,.int .i64 0]∧Below w.heap.size w W) ⟨?_,?_⟩ ?_
  ·exact((((((((HO2.out.set 0 (by simp) _).set 1 (by simp) _).set 2 (by simp) _).set 3 (by simp) _).set 4 (by simp) _).set 5 (by simp) _).set 6 (by simp) _).set 7 (by simp) _)
  ·repeat (with_reducible first|exact HB2.out|refine Below.setCell ?_ (by simp) _)
  rintro V ⟨B6,hbv⟩
  exact bodyPost_ret (v:=.agg #[.int .i64 0,.int .i64 0,.int .i64 0,.int .i64 0,.int .i64 0,.int .i64 0,.int .i64 0,.int .i64 0]) (by simp [results,Tryd.results38,go_sem,B6.cell]) rfl ⟨rfl,hbv⟩
 ·have t1:decide (y≤i)=false:=decide_eq_false hi
  obtain⟨e0,hq⟩:∃e0,objF ls sg (x+i)=(v,e0):=by have:=HV.out;rw [if_neg hi] at this;exact this
  obtain⟨k',sg',at'',d',p',el',m',cost'⟩:=v
  have HC:=Lib.hid (Eobject_any A c n ls sg (x+i) k' sg' at'' d' p' el' m' cost' e0 w1 (HE.out.on HB2.out) hn (by omega) (by omega) hq)
  clear HV hi hq
  obtain⟨x1,y1,z1⟩:=HX2.out
  go_wp2_with fail
  refine HC.out.mono ?_
  rintro r w2 ⟨rfl,hb2⟩
  have HB3:=Lib.hid (bel_on HB2.out hb2)
  have HO3:=Lib.hid (HO2.out.below hb2)
  clear hb2 x1 y1 z1 HB2 HX2 HO2 HC
  obtain⟨x1,y1,z1⟩:=HO3.out
  go_wp2_with fail
  refine abs_post (F:=fun W=>Blk W (w.heap.size+1) #[.int .i64 k',.int .i64 sg',.int .i64 at'',.int .i64 d',.int .i64 p',.int .i64 el',.int .i64 m',.int .i64 cost']∧Below w.heap.size w W) ⟨?_,?_⟩ ?_
  ·exact((((((((HO3.out.set 0 (by simp) _).set 1 (by simp) _).set 2 (by simp) _).set 3 (by simp) _).set 4 (by simp) _).set 5 (by simp) _).set 6 (by simp) _).set 7 (by simp) _)
  ·repeat (with_reducible first|exact HB3.out|refine Below.setCell ?_ (by simp) _)
  rintro V ⟨B6,hbv⟩
  exact bodyPost_ret (v:=.agg #[.int .i64 k',.int .i64 sg',.int .i64 at'',.int .i64 d',.int .i64 p',.int .i64 el',.int .i64 m',.int .i64 cost']) (by simp [results,Tryd.results38,go_sem,B6.cell]) rfl ⟨rfl,hbv⟩
theorem Eelements_any (A:Option Addr)(c n:Nat)(ls:List (List Int))(k sg at' d p el m cost i u:Int)(w:World)(E:EnvQ A ls w)(hn:ls.length=n)(h1:0≤sg∧sg≤40)(h2:0≤at'∧at'≤100000000000)(h4:0≤i∧i≤1000000000)(h5:1≤u∧u≤64):
  Calls Tryd.prog 41 #[.slice A n c,.agg #[.int .i64 k,.int .i64 sg,.int .i64 at',.int .i64 d,.int .i64 p,.int .i64 el,.int .i64 m,.int .i64 cost],.int .i64 i,.int .i64 u] w fun r w'=>r=.returned (.int .u64 (fld (wordV ls sg (at'+i)) 0 u))∧Below w.heap.size w w':=by
 subst hn
 have HB1:=Lib.hid ((Below.refl w.heap.size w).alloc (Nat.le_refl _) (.cells #[.int .i64 k,.int .i64 sg,.int .i64 at',.int .i64 d,.int .i64 p,.int .i64 el,.int .i64 m,.int .i64 cost] 45))
 have HW:=Lib.hid (AWord_any A c ls sg (at'+i) _ (E.on HB1.out).sg (by have:=E.m;omega) (fun j=>by have:=E.f j;omega) (by omega) (by omega) (by omega) (by omega))
 have hbd:=wordV_bd E.wd sg (at'+i)
 have HF:=Lib.hid (fun w2=>Field_any (wordV ls sg (at'+i)) 0 u w2 h5.1 (by omega) (by omega) hbd.1 hbd.2)
 clear E h1 hbd h5
 generalize wordV ls sg (at'+i)=z at *
 generalize hasB ls sg (at'+i)=hb at *
 generalize fld z 0 u=y at *
 go_enter Tryd.func41,Tryd.ntmps41
 go_wp2_with fail
 refine HW.out.mono ?_
 rintro r w1 ⟨rfl,rfl⟩
 go_wp2_with fail
 refine(HF.out _).mono ?_
 rintro r w1 ⟨rfl,rfl⟩
 go_wp2
 go_ret
 exact⟨rfl,HB1.out⟩
end
section
attribute [local simp] AllK KnowsV look Is
def EqOC (A:Option Addr)(c:Nat)(B:Option Addr)(c2:Nat)(ms ns:List (List Int))(r:Nat):Prop:=
 ∀(o p:Ob) (X Y:Nd) (w:World),EnvQ A ms w→EnvQ B ns w→ObjOk ms r o X→ObjOk ns r p Y →
  Calls Tryd.prog 13 #[.agg #[.slice A ms.length c,.slice B ns.length c2],.agg #[.int .i64 o.k,.int .i64 o.sg,.int .i64 o.at',.int .i64 o.d,.int .i64 o.p,.int .i64 o.el,.int .i64 o.n,.int .i64 o.cost],.agg #[.int .i64 p.k,.int .i64 p.sg,.int .i64 p.at',.int .i64 p.d,.int .i64 p.p,.int .i64 p.el,.int .i64 p.n,.int .i64 p.cost]] w fun rr w'=>rr=.returned (.bool (eqT X Y))∧Below w.heap.size w w'
theorem ptrO_bdE {o:Ob}(h:ObQ o):∃(x:Int) (y:Nat),ptrO o=(x,(y:Int))∧0≤x∧x≤200000000000∧y≤536870911:=by
 have h1:=h.at'
 have h2:=h.d
 have h3:=h.p
 have h4:=h.n
 refine⟨(ptrO o).1,(ptrO o).2.toNat,Prod.ext rfl ?_,?_⟩
 ·unfold ptrO
  repeat' split
  all_goals simp only
  all_goals omega
 ·unfold ptrO
  repeat' split
  all_goals simp only
  all_goals omega
theorem kid_ok {ls:List (List Int)}(hw:Wd2 ls)(hm:ls.length≤40)(hf:∀j,(seg ls j).length≤20000000){r:Nat}{o:Ob}{ks:List Nd}(h:KidsOk ls r o ks){x:Int}{y:Nat}(hp:ptrO o=(x,(y:Int)))(i:Nat):
  ∃v,ObjOk ls r v (kidN ks i)∧(if (y:Int)≤(i:Int) then v=ob0 else ∃e0,objF ls o.sg (x+(i:Int))=(v,e0)):=by
 have hl:ks.length=y:=by have:=h.1;rw [hp] at this;simpa using this
 by_cases hi:(y:Int)≤(i:Int)
 ·refine⟨ob0,.inl ⟨rfl,kidN_out (by omega)⟩,?_⟩
  rw [if_pos hi]
 ·have h1:=h.2 i (by omega)
  rw [hp] at h1
  refine⟨_,okV_obj hw hm hf h1,?_⟩
  rw [if_neg hi]
  exact⟨_,rfl⟩
set_option maxHeartbeats 4000000 in
theorem Eptrs_any (A:Option Addr)(c:Nat)(B:Option Addr)(c2:Nat)(ms ns:List (List Int))(r:Nat)(HO:EqOC A c B c2 ms ns r)(o p:Ob)(ks ks':List Nd)(w:World)(E1:EnvQ A ms w)(E2:EnvQ B ns w)(ho:ObQ o)(hp:ObQ p)(h:KidsOk ms r o ks)(h':KidsOk ns r p ks'):
  Calls Tryd.prog 25 #[.agg #[.slice A ms.length c,.slice B ns.length c2],.agg #[.int .i64 o.k,.int .i64 o.sg,.int .i64 o.at',.int .i64 o.d,.int .i64 o.p,.int .i64 o.el,.int .i64 o.n,.int .i64 o.cost],.agg #[.int .i64 p.k,.int .i64 p.sg,.int .i64 p.at',.int .i64 p.d,.int .i64 p.p,.int .i64 p.el,.int .i64 p.n,.int .i64 p.cost]] w fun rr w'=>rr=.returned (.bool (rowE ks ks'))∧Below w.heap.size w w':=by
 obtain⟨x,y,hx,hx0,hx1,hy⟩:=ptrO_bdE ho
 obtain⟨x',y',hx',hx0',hx1',hy'⟩:=ptrO_bdE hp
 have hl:ks.length=y:=by have:=h.1;rw [hx] at this;simpa using this
 have hl':ks'.length=y':=by have:=h'.1;rw [hx'] at this;simpa using this
 have HB0:Hid (Below w.heap.size w (((w.alloc (.cells #[.slice A ms.length c,.slice B ns.length c2] 42)).alloc (.cells (obA o) 45)).alloc (.cells (obA p) 45))):=Lib.hid ((((Below.refl w.heap.size w).alloc (Nat.le_refl _) _).alloc (by simp) _).alloc (by simp;omega) _)
 have HP0:Hid (Blk (((w.alloc (.cells #[.slice A ms.length c,.slice B ns.length c2] 42)).alloc (.cells (obA o) 45)).alloc (.cells (obA p) 45)) w.heap.size #[.slice A ms.length c,.slice B ns.length c2]):=Lib.hid (((Blk.fresh _ _ _).alloc _).alloc _)
 have HX0:Hid (Blk (((w.alloc (.cells #[.slice A ms.length c,.slice B ns.length c2] 42)).alloc (.cells (obA o) 45)).alloc (.cells (obA p) 45)) (w.heap.size+1) (obA o)):=Lib.hid ((Blk.new (by simp)).alloc _)
 have HY0:Hid (Blk (((w.alloc (.cells #[.slice A ms.length c,.slice B ns.length c2] 42)).alloc (.cells (obA o) 45)).alloc (.cells (obA p) 45)) (w.heap.size+2) (obA p)):=Lib.hid (Blk.new (by simp))
 have HR1:=Lib.hid (fun w2=>RPointers_is o.k o.sg o.at' o.d o.p o.el o.n o.cost x y w2 ho.at'.1 (by have:=ho.at';omega) ho.d.1 ho.d.2 hx)
 have HR2:=Lib.hid (fun w2=>RPointers_is p.k p.sg p.at' p.d p.p p.el p.n p.cost x' y' w2 hp.at'.1 (by have:=hp.at';omega) hp.d.1 hp.d.2 hx')
 unfold obA at HB0 HP0 HX0 HY0
 go_enter Tryd.func25,Tryd.ntmps25
 go_wp2_with fail
 refine(HR1.out _).mono ?_
 rintro rr w1 ⟨rfl,hb1⟩
 have HB1:=Lib.hid (bel_on HB0.out hb1)
 have HP1:=Lib.hid (HP0.out.below hb1)
 have HX1:=Lib.hid (HX0.out.below hb1)
 have HY1:=Lib.hid (HY0.out.below hb1)
 clear hb1 HB0 HP0 HX0 HY0
 obtain⟨x1,y1,z1⟩:=HY1.out
 go_wp2_with fail
 refine(HR2.out _).mono ?_
 rintro rr w2 ⟨rfl,hb2⟩
 have HB2:=Lib.hid (bel_on HB1.out hb2)
 have HP2:=Lib.hid (HP1.out.below hb2)
 have HX2:=Lib.hid (HX1.out.below hb2)
 have HY2:=Lib.hid (HY1.out.below hb2)
 clear hb2 HB1 HP1 HX1 HY1 x1 y1 z1 HR1 HR2
 have HE1:=Lib.hid (E1.on HB2.out)
 have HE2:=Lib.hid (E2.on HB2.out)
 have HK:=Lib.hid (fun i=>kid_ok E1.wd E1.m E1.f h hx i)
 have HK':=Lib.hid (fun i=>kid_ok E2.wd E2.m E2.f h' hx' i)
 have HKA:=Lib.hid (fun (i:Nat) (hi:i≤536870911) (v:Ob) (hv:if (y:Int)≤(i:Int) then v=ob0 else ∃e0,objF ms o.sg (x+(i:Int))=(v,e0)) w3 (E3:EnvQ A ms w3)=>Ekid_core A c ms.length ms o.k o.sg o.at' o.d o.p o.el o.n o.cost x y i v w3 E3 rfl ho.sg ho.at' ho.d (by omega) hx (by omega) hv)
 have HKB:=Lib.hid (fun (i:Nat) (hi:i≤536870911) (v:Ob) (hv:if (y':Int)≤(i:Int) then v=ob0 else ∃e0,objF ns p.sg (x'+(i:Int))=(v,e0)) w3 (E3:EnvQ B ns w3)=>Ekid_core B c2 ns.length ns p.k p.sg p.at' p.d p.p p.el p.n p.cost x' y' i v w3 E3 rfl hp.sg hp.at' hp.d (by omega) hx' (by omega) hv)
 obtain⟨N,hN⟩:∃N,N=max y y':=⟨_,rfl⟩
 have HY:Hid ((∀j,j<N→eqT (kidN ks j) (kidN ks' j)=true)→rowE ks ks'=true):=Lib.hid (fun h=>by unfold rowE;rw [hl,hl',←hN];exact decide_eq_true h)
 have HNO:Hid (∀j,eqT (kidN ks j) (kidN ks' j)=false→rowE ks ks'=false):=Lib.hid (fun j h=>rowE_no h)
 have HO':=Lib.hid HO
 have HL:Hid (y<y'→N=y'):=Lib.hid (fun h=>by omega)
 have HG:Hid (¬y<y'→N=y):=Lib.hid (fun h=>by omega)
 have hNb:N≤536870911:=by omega
 clear E1 E2 HO h h' hx hx' hl hl' ho hp hN hx0 hx1 hx0' hx1'
 by_cases hyy:y<y'
 all_goals
  first
  | (have e:=HL.out hyy;subst e)
  | (have e:=HG.out hyy;subst e)
  clear HL HG
  go_wp2
  clear hyy
  go_loopw [25] (fun i wr=>∃j:Nat,j≤N∧i=.int .i64 j∧(∀l,l<j→eqT (kidN ks l) (kidN ks' l)=true)∧Below w2.heap.size w2 wr) (fun i _=>N-(intOf i).toNat)
  case atStart=>exact⟨0,by omega,rfl,fun l hl=>absurd hl (Nat.not_lt_zero _),Below.refl _ _⟩
  case round=>
   obtain⟨j,hj,rfl,hal,hbr⟩:=hrel
   have HR:=Lib.hid hbr
   have HAL:=Lib.hid hal
   clear hbr hal
   by_cases hlt:j<N
   ·have hj1:(j:Int)<(N:Int):=by omega
    obtain⟨v,hov,hv⟩:=HK.out j
    obtain⟨v',hov',hv'⟩:=HK'.out j
    have HK1:=Lib.hid (HKA.out j (by omega) v hv)
    have HK2:=Lib.hid (HKB.out j (by omega) v' hv')
    have HOB:=Lib.hid (fun w3 (a:EnvQ A ms w3) (b:EnvQ B ns w3)=>HO'.out v v' _ _ w3 a b hov hov')
    have HNJ:=Lib.hid (HNO.out j)
    have HAN:Hid (eqT (kidN ks j) (kidN ks' j)=true→∀l,l<j+1→eqT (kidN ks l) (kidN ks' l)=true):=Lib.hid (fun h l hl=>by
     by_cases e:l=j
     ·subst e;exact h
     ·exact HAL.out l (by omega))
    have HE1:=Lib.hid (HE1.out.on HR.out)
    have HE2:=Lib.hid (HE2.out.on HR.out)
    have HP3:=Lib.hid (HP2.out.below HR.out)
    have HX3:=Lib.hid (HX2.out.below HR.out)
    have HY3:=Lib.hid (HY2.out.below HR.out)
    clear hov hov' hv hv'
    generalize eqT (kidN ks j) (kidN ks' j)=b at *
    go_wp2_with fail
    rename_i KK hKK
    refine wp_region_chain (by kernel_rfl) (by kernel_rfl) ?_
    refine chain_val (u:=?_) [3] rfl (by kernel_rfl) trivial (fun ρ wc hbc hcn hq=>?_) ?_;rotate_left
    ·obtain⟨hcn,hfn⟩:=hcn
     simp at hq
     have x1:=(HP3.out.drew.below hbc).cell
     have x2:=(HX3.out.drew.below hbc).cell
     have x3:=(HY3.out.drew.below hbc).cell
     go_simp
     rfl
    refine chain_val (u:=?_) [3] rfl (by kernel_rfl) trivial (fun ρ wc hbc hcn hq=>?_) ?_;rotate_left
    ·obtain⟨hcn,hfn⟩:=hcn
     simp at hq
     go_simp
     rfl
    refine chain_val (u:=?_) [29] rfl (by kernel_rfl) trivial (fun ρ wc hbc hcn hq=>?_) ?_;rotate_left
    ·obtain⟨hcn,hfn⟩:=hcn
     simp at hq
     have x1:=(HP3.out.drew.below hbc).cell
     have x2:=(HX3.out.drew.below hbc).cell
     have x3:=(HY3.out.drew.below hbc).cell
     go_simp
     rfl
    refine chain_val (u:=?_) [4] rfl (by kernel_rfl) trivial (fun ρ wc hbc hcn hq=>?_) ?_;rotate_left
    ·obtain⟨hcn,hfn⟩:=hcn
     simp at hq
     have x1:=(HP3.out.drew.below hbc).cell
     have x2:=(HX3.out.drew.below hbc).cell
     have x3:=(HY3.out.drew.below hbc).cell
     go_simp
     rfl
    refine chain_val (u:=?_) [11] rfl (by kernel_rfl) trivial (fun ρ wc hbc hcn hq=>?_) ?_;rotate_left
    ·obtain⟨hcn,hfn⟩:=hcn
     simp at hq
     go_simp
     rfl
    refine chain_call (T:=Is ?_) 38 [30,31,32] rfl (by kernel_rfl) trivial (stable_is _) (fun ρ wc hbc hcn hq=>?_) ?_;rotate_left
    ·obtain⟨hcn,hfn⟩:=hcn
     simp at hq
     refine⟨_,by go_simp;rfl,?_⟩
     refine(HK1.out _ (HE1.out.on (und hbc))).mono ?_
     rintro e w' ⟨rfl,hbq⟩
     refine⟨_,rfl,?_,hbq⟩
     unfold Is
     rfl
    refine chain_val (u:=?_) [3] rfl (by kernel_rfl) trivial (fun ρ wc hbc hcn hq=>?_) ?_;rotate_left
    ·obtain⟨hcn,hfn⟩:=hcn
     simp at hq
     go_simp
     rfl
    refine chain_val (u:=?_) [34] rfl (by kernel_rfl) trivial (fun ρ wc hbc hcn hq=>?_) ?_;rotate_left
    ·obtain⟨hcn,hfn⟩:=hcn
     simp at hq
     have x1:=(HP3.out.drew.below hbc).cell
     have x2:=(HX3.out.drew.below hbc).cell
     have x3:=(HY3.out.drew.below hbc).cell
     go_simp
     rfl
    refine chain_val (u:=?_) [5] rfl (by kernel_rfl) trivial (fun ρ wc hbc hcn hq=>?_) ?_;rotate_left
    ·obtain⟨hcn,hfn⟩:=hcn
     simp at hq
     have x1:=(HP3.out.drew.below hbc).cell
     have x2:=(HX3.out.drew.below hbc).cell
     have x3:=(HY3.out.drew.below hbc).cell
     go_simp
     rfl
    refine chain_val (u:=?_) [11] rfl (by kernel_rfl) trivial (fun ρ wc hbc hcn hq=>?_) ?_;rotate_left
    ·obtain⟨hcn,hfn⟩:=hcn
     simp at hq
     go_simp
     rfl
    refine chain_call (T:=Is ?_) 38 [35,36,37] rfl (by kernel_rfl) trivial (stable_is _) (fun ρ wc hbc hcn hq=>?_) ?_;rotate_left
    ·obtain⟨hcn,hfn⟩:=hcn
     simp at hq
     refine⟨_,by go_simp;rfl,?_⟩
     refine(HK2.out _ (HE2.out.on (und hbc))).mono ?_
     rintro e w' ⟨rfl,hbq⟩
     refine⟨_,rfl,?_,hbq⟩
     unfold Is
     rfl
    refine chain_call (T:=Is ?_) 13 [28,33,38] rfl (by kernel_rfl) trivial (stable_is _) (fun ρ wc hbc hcn hq=>?_) ?_;rotate_left
    ·obtain⟨hcn,hfn⟩:=hcn
     simp at hq
     refine⟨_,by go_simp;rfl,?_⟩
     refine(HOB.out _ (HE1.out.on (und hbc)) (HE2.out.on (und hbc))).mono ?_
     rintro e w' ⟨rfl,hbq⟩
     refine⟨_,rfl,?_,hbq⟩
     unfold Is
     rfl
    refine chain_val (u:=?_) [39] rfl (by kernel_rfl) trivial (fun ρ wc hbc hcn hq=>?_) ?_;rotate_left
    ·obtain⟨hcn,hfn⟩:=hcn
     simp at hq
     go_simp
     rfl
    refine chain_end_lit 42 rfl (fun ff w5 hb5 hk=>?_)
    have HB6:=Lib.hid (HR.out.trans ((und hb5).mono HR.out.size))
    simp [AllN] at hk
    simp only [frameL,hk]
    refine hKK _ _ ?_
    clear hk hb5 hKK KK
    cases b with
    | false=>
     have HV:=Lib.hid (HNJ.out rfl)
     go_wp2
     go_ret
     exact⟨by rw [HV.out];rfl,bel_on HB2.out HB6.out⟩
    | true=>
     have HV:=Lib.hid (HAN.out rfl)
     go_wp2
     go_roundw
     case rel=>exact⟨j+1,by omega,by go_num,HV.out,HB6.out⟩
     case measure=>simp [intOf];omega
   ·obtain rfl:j=N:=by omega
    have HV:=Lib.hid (HY.out HAL.out)
    go_wp2
    go_ret
    exact⟨by rw [HV.out];rfl,bel_on HB2.out HR.out⟩
end
section
attribute [local simp] AllK KnowsV look Is
set_option maxHeartbeats 4000000 in
theorem Estr_any (A:Option Addr)(c:Nat)(B:Option Addr)(c2:Nat)(ms ns:List (List Int))(r:Nat)(HO:EqOC A c B c2 ms ns r)(o p:Ob)(ks ks':List Nd)(w:World)(E1:EnvQ A ms w)(E2:EnvQ B ns w)(ho:ObQ o)(hp:ObQ p)(h:KidsOk ms r o ks)(h':KidsOk ns r p ks'):
    Calls Tryd.prog 24 #[.agg #[.slice A ms.length c,.slice B ns.length c2],.agg #[.int .i64 o.k,.int .i64 o.sg,.int .i64 o.at',.int .i64 o.d,.int .i64 o.p,.int .i64 o.el,.int .i64 o.n,.int .i64 o.cost],.agg #[.int .i64 p.k,.int .i64 p.sg,.int .i64 p.at',.int .i64 p.d,.int .i64 p.p,.int .i64 p.el,.int .i64 p.n,.int .i64 p.cost]] w fun rr w'=>rr=.returned (.bool (dataE (datW ms o.sg o.at' o.d) (datW ns p.sg p.at' p.d)&&rowE ks ks'))∧Below w.heap.size w w':=by
  have HB0:Hid (Below w.heap.size w (((w.alloc (.cells #[.slice A ms.length c,.slice B ns.length c2] 42)).alloc (.cells (obA o) 45)).alloc (.cells (obA p) 45))):=Lib.hid ((((Below.refl w.heap.size w).alloc (Nat.le_refl _) _).alloc (by simp) _).alloc (by simp;omega) _)
  have HP0:Hid (Blk (((w.alloc (.cells #[.slice A ms.length c,.slice B ns.length c2] 42)).alloc (.cells (obA o) 45)).alloc (.cells (obA p) 45)) w.heap.size #[.slice A ms.length c,.slice B ns.length c2]):=Lib.hid (((Blk.fresh _ _ _).alloc _).alloc _)
  have HX0:Hid (Blk (((w.alloc (.cells #[.slice A ms.length c,.slice B ns.length c2] 42)).alloc (.cells (obA o) 45)).alloc (.cells (obA p) 45)) (w.heap.size+1) (obA o)):=Lib.hid ((Blk.new (by simp)).alloc _)
  have HY0:Hid (Blk (((w.alloc (.cells #[.slice A ms.length c,.slice B ns.length c2] 42)).alloc (.cells (obA o) 45)).alloc (.cells (obA p) 45)) (w.heap.size+2) (obA p)):=Lib.hid (Blk.new (by simp))
  have HS0:Hid (w.heap.size≤(((w.alloc (.cells #[.slice A ms.length c,.slice B ns.length c2] 42)).alloc (.cells (obA o) 45)).alloc (.cells (obA p) 45)).heap.size):=Lib.hid (by simp;omega)
  unfold obA at HB0 HP0 HX0 HY0 HS0
  have HPT:=Lib.hid (fun w2 (a:EnvQ A ms w2) (b:EnvQ B ns w2)=>Eptrs_any A c B c2 ms ns r HO o p ks ks' w2 a b ho hp h h')
  have HDX:=Lib.hid (fun w2 (a:EnvQ A ms w2)=>Edata_any A c ms.length ms o.k o.sg o.at' o.d o.p o.el o.n o.cost w2 a rfl ho.sg ho.at' ho.d)
  have HDY:=Lib.hid (fun w2 (a:EnvQ B ns w2)=>Edata_any B c2 ns.length ns p.k p.sg p.at' p.d p.p p.el p.n p.cost w2 a rfl hp.sg hp.at' hp.d)
  have hx1:(datW ms o.sg o.at' o.d).length≤1000000:=by have:=datW_le ms o.sg o.at' o.d;have:=ho.d;omega
  have hy1:(datW ns p.sg p.at' p.d).length≤1000000:=by have:=datW_le ns p.sg p.at' p.d;have:=hp.d;omega
  generalize datW ms o.sg o.at' o.d=xs at *
  generalize datW ns p.sg p.at' p.d=ys at *
  have HE1:=Lib.hid (E1.on HB0.out)
  have HE2:=Lib.hid (E2.on HB0.out)
  obtain⟨d,hd⟩:∃d,dataE xs ys=d:=⟨_,rfl⟩
  have HD:=Lib.hid (fun A1 c1 A2 c3 w2 (h1:Ri w2 .u64 A1 xs) (h2:Ri w2 .u64 A2 ys) h3 h4 h5 h6=>(by
    have h:=EDataB_any A1 c1 A2 c3 xs ys w2 h1 h2 hx1 hy1 h3 h4 h5 h6
    rw [hd] at h
    exact h:Calls Tryd.prog 9 #[.slice A1 xs.length c1,.slice A2 ys.length c3] w2 fun r w'=>r=.returned (.bool d)∧Below w2.heap.size w2 w'))
  rw [hd]
  clear E1 E2 HO h h' ho hp hd hx1 hy1
  generalize rowE ks ks'=q at *
  go_enter Tryd.func24,Tryd.ntmps24
  go_wp2_with fail
  refine abs_code10 (F:=fun W=>W=(((w.alloc (.cells #[.slice A ms.length c,.slice B ns.length c2] 42)).alloc (.cells #[.int .i64 o.k,.int .i64 o.sg,.int .i64 o.at',.int .i64 o.d,.int .i64 o.p,.int .i64 o.el,.int .i64 o.n,.int .i64 o.cost] 45)).alloc (.cells #[.int .i64 p.k,.int .i64 p.sg,.int .i64 p.at',.int .i64 p.d,.int .i64 p.p,.int .i64 p.el,.int .i64 p.n,.int .i64 p.cost] 45))) rfl ?_
  rintro W1 hW1
  rw [←hW1] at HB0 HP0 HX0 HY0 HS0 HE1 HE2
  clear hW1
  rename_i KK hKK
  rcases d with _|_
  all_goals
    refine wp_region_chain (by kernel_rfl) (by kernel_rfl) ?_
    refine chain_val (u:=?_) [3] rfl (by kernel_rfl) trivial (fun ρ wc hbc hcn hq=>?_) ?_;rotate_left
    · obtain⟨hcn,hfn⟩:=hcn
      simp at hq
      go_simp
      rfl
    refine chain_val (u:=?_) [7] rfl (by kernel_rfl) trivial (fun ρ wc hbc hcn hq=>?_) ?_;rotate_left
    · obtain⟨hcn,hfn⟩:=hcn
      simp at hq
      have x1:=(HP0.out.drew.below hbc).cell
      have x2:=(HX0.out.drew.below hbc).cell
      have x3:=(HY0.out.drew.below hbc).cell
      go_simp
      rfl
    refine chain_val (u:=?_) [4] rfl (by kernel_rfl) trivial (fun ρ wc hbc hcn hq=>?_) ?_;rotate_left
    · obtain⟨hcn,hfn⟩:=hcn
      simp at hq
      have x1:=(HP0.out.drew.below hbc).cell
      have x2:=(HX0.out.drew.below hbc).cell
      have x3:=(HY0.out.drew.below hbc).cell
      go_simp
      rfl
    refine chain_call (T:=WrdG w.heap.size xs) 36 [8,9] rfl (by kernel_rfl) trivial (stable_wrdg _ _) (fun ρ wc hbc hcn hq=>?_) ?_
    · obtain⟨hcn,hfn⟩:=hcn
      simp at hq
      refine⟨_,by go_simp;rfl,?_⟩
      refine(HDX.out _ (HE1.out.on (und hbc))).mono ?_
      rintro e w' ⟨v,rfl,hg,hbq⟩
      exact⟨_,rfl,hg.mono (Nat.le_trans HS0.out hbc.size),hbq⟩
    refine chain_val (u:=?_) [3] rfl (by kernel_rfl) trivial (fun ρ wc hbc hcn hq=>?_) ?_;rotate_left
    · obtain⟨hcn,hfn⟩:=hcn
      simp at hq
      go_simp
      rfl
    refine chain_val (u:=?_) [11] rfl (by kernel_rfl) trivial (fun ρ wc hbc hcn hq=>?_) ?_;rotate_left
    · obtain⟨hcn,hfn⟩:=hcn
      simp at hq
      have x1:=(HP0.out.drew.below hbc).cell
      have x2:=(HX0.out.drew.below hbc).cell
      have x3:=(HY0.out.drew.below hbc).cell
      go_simp
      rfl
    refine chain_val (u:=?_) [5] rfl (by kernel_rfl) trivial (fun ρ wc hbc hcn hq=>?_) ?_;rotate_left
    · obtain⟨hcn,hfn⟩:=hcn
      simp at hq
      have x1:=(HP0.out.drew.below hbc).cell
      have x2:=(HX0.out.drew.below hbc).cell
      have x3:=(HY0.out.drew.below hbc).cell
      go_simp
      rfl
    refine chain_call (T:=WrdG w.heap.size ys) 36 [12,13] rfl (by kernel_rfl) trivial (stable_wrdg _ _) (fun ρ wc hbc hcn hq=>?_) ?_
    · obtain⟨hcn,hfn⟩:=hcn
      simp at hq
      refine⟨_,by go_simp;rfl,?_⟩
      refine(HDY.out _ (HE2.out.on (und hbc))).mono ?_
      rintro e w' ⟨v,rfl,hg,hbq⟩
      exact⟨_,rfl,hg.mono (Nat.le_trans HS0.out hbc.size),hbq⟩
    refine chain_call (T:=Is ?_) 9 [10,14] rfl (by kernel_rfl) trivial (stable_is _) (fun ρ wc hbc hcn hq=>?_) ?_;rotate_left
    · obtain⟨hcn,hfn⟩:=hcn
      simp at hq
      obtain⟨h10,h14⟩:=hq
      obtain⟨A1,c1,e10,hc0,hm0,hri,hnil⟩:=Got.full h10
      obtain⟨A2,c3,e14,hc1,hm1,hri1,hnil1⟩:=Got.full h14
      refine⟨_,by go_simp;rfl,?_⟩
      refine(HD.out A1 c1 A2 c3 _ hri hri1 hc0 hc1 hm0 hm1).mono ?_
      rintro e w' ⟨rfl,hbq⟩
      refine⟨_,rfl,?_,hbq⟩
      unfold Is
      rfl
    refine chain_val (u:=?_) [15] rfl (by kernel_rfl) trivial (fun ρ wc hbc hcn hq=>?_) ?_;rotate_left
    · obtain⟨hcn,hfn⟩:=hcn
      simp at hq
      go_simp
      rfl
    first
    | refine chain_skip (s:=16) (c:=false) rfl rfl (by decide +kernel) rfl rfl (fun w x hx=>by simpa using hx) ?_
    | refine chain_skipU (s:=16) rfl rfl (by decide +kernel) rfl (fun w x hx=>by simpa using hx) ?_
    | (refine chain_val (u:=?_) [3] rfl (by kernel_rfl) ⟨16,by decide +kernel,rfl,fun w x hx=>by simpa using hx⟩ (fun ρ wc hbc hcn hq=>?_) ?_;rotate_left
       · obtain⟨hcn,hfn⟩:=hcn
         simp at hq
         have x1:=(HP0.out.drew.below hbc).cell
         have x2:=(HX0.out.drew.below hbc).cell
         have x3:=(HY0.out.drew.below hbc).cell
         go_simp
         rfl)
    first
    | refine chain_skip (s:=16) (c:=false) rfl rfl (by decide +kernel) rfl rfl (fun w x hx=>by simpa using hx) ?_
    | refine chain_skipU (s:=16) rfl rfl (by decide +kernel) rfl (fun w x hx=>by simpa using hx) ?_
    | (refine chain_val (u:=?_) [4] rfl (by kernel_rfl) ⟨16,by decide +kernel,rfl,fun w x hx=>by simpa using hx⟩ (fun ρ wc hbc hcn hq=>?_) ?_;rotate_left
       · obtain⟨hcn,hfn⟩:=hcn
         simp at hq
         have x1:=(HP0.out.drew.below hbc).cell
         have x2:=(HX0.out.drew.below hbc).cell
         have x3:=(HY0.out.drew.below hbc).cell
         go_simp
         rfl)
    first
    | refine chain_skip (s:=16) (c:=false) rfl rfl (by decide +kernel) rfl rfl (fun w x hx=>by simpa using hx) ?_
    | refine chain_skipU (s:=16) rfl rfl (by decide +kernel) rfl (fun w x hx=>by simpa using hx) ?_
    | (refine chain_val (u:=?_) [5] rfl (by kernel_rfl) ⟨16,by decide +kernel,rfl,fun w x hx=>by simpa using hx⟩ (fun ρ wc hbc hcn hq=>?_) ?_;rotate_left
       · obtain⟨hcn,hfn⟩:=hcn
         simp at hq
         have x1:=(HP0.out.drew.below hbc).cell
         have x2:=(HX0.out.drew.below hbc).cell
         have x3:=(HY0.out.drew.below hbc).cell
         go_simp
         rfl)
    first
    | refine chain_skip (s:=16) (c:=false) rfl rfl (by decide +kernel) rfl rfl (fun w x hx=>by simpa using hx) ?_
    | refine chain_skipU (s:=16) rfl rfl (by decide +kernel) rfl (fun w x hx=>by simpa using hx) ?_
    | (refine chain_call (T:=Is ?_) 25 [17,18,19] rfl (by kernel_rfl) ⟨16,by decide +kernel,rfl,fun w x hx=>by simpa using hx⟩ (stable_is _) (fun ρ wc hbc hcn hq=>?_) ?_;rotate_left
       · obtain⟨hcn,hfn⟩:=hcn
         simp at hq
         refine⟨_,by go_simp;rfl,?_⟩
         refine(HPT.out _ (HE1.out.on (und hbc)) (HE2.out.on (und hbc))).mono ?_
         rintro e w' ⟨rfl,hbq⟩
         refine⟨_,rfl,?_,hbq⟩
         unfold Is
         rfl)
    refine chain_val (u:=?_) [16,20] rfl (by kernel_rfl) trivial (fun ρ wc hbc hcn hq=>?_) ?_;rotate_left
    · obtain⟨hcn,hfn⟩:=hcn
      simp at hq
      go_simp
      rfl
    refine chain_val (u:=?_) [21] rfl (by kernel_rfl) trivial (fun ρ wc hbc hcn hq=>?_) ?_;rotate_left
    · obtain⟨hcn,hfn⟩:=hcn
      simp at hq
      go_simp
      rfl
    refine chain_end_lit 22 rfl (fun ff w5 hb5 hk=>?_)
    have HB6:=Lib.hid (bel_on HB0.out (und hb5))
    simp [AllN] at hk
    simp only [frameL,hk]
    refine hKK _ _ ?_
    clear hk hb5
    go_wp2
    go_ret
    exact⟨by first|rfl|simp,HB6.out⟩
end
section
attribute [local simp] AllK KnowsV look Is
set_option maxHeartbeats 4000000 in
theorem Ecmp_any (A:Option Addr)(c:Nat)(B:Option Addr)(c2:Nat)(ms ns:List (List Int))(r:Nat)(HO:EqOC A c B c2 ms ns r)(o p:Ob)(es es':List Nd)(w:World)(E1:EnvQ A ms w)(E2:EnvQ B ns w)(ho:ObQ o)(hp:ObQ p)(hn:o.n=p.n)(ho7:o.at'+o.n*(o.d+o.p)≤100000000000)(hp7:p.at'+p.n*(p.d+p.p)≤100000000000)(h:ElsOk ms r o es)(h':ElsOk ns r p es'):
  Calls Tryd.prog 26 #[.agg #[.slice A ms.length c,.slice B ns.length c2],.agg #[.int .i64 o.k,.int .i64 o.sg,.int .i64 o.at',.int .i64 o.d,.int .i64 o.p,.int .i64 o.el,.int .i64 o.n,.int .i64 o.cost],.agg #[.int .i64 p.k,.int .i64 p.sg,.int .i64 p.at',.int .i64 p.d,.int .i64 p.p,.int .i64 p.el,.int .i64 p.n,.int .i64 p.cost]] w fun rr w'=>rr=.returned (.bool (rowE es es'))∧Below w.heap.size w w':=by
 obtain⟨N,hN⟩:=Int.eq_ofNat_of_zero_le ho.n.1
 have hl:es.length=N:=by have:=h.1;omega
 have hl':es'.length=N:=by have:=h'.1;omega
 have hNb:N≤536870911:=by have:=ho.n;omega
 have HB0:Hid (Below w.heap.size w (((w.alloc (.cells #[.slice A ms.length c,.slice B ns.length c2] 42)).alloc (.cells (obA o) 45)).alloc (.cells (obA p) 45))):=Lib.hid ((((Below.refl w.heap.size w).alloc (Nat.le_refl _) _).alloc (by simp) _).alloc (by simp;omega) _)
 have HP0:Hid (Blk (((w.alloc (.cells #[.slice A ms.length c,.slice B ns.length c2] 42)).alloc (.cells (obA o) 45)).alloc (.cells (obA p) 45)) w.heap.size #[.slice A ms.length c,.slice B ns.length c2]):=Lib.hid (((Blk.fresh _ _ _).alloc _).alloc _)
 have HX0:Hid (Blk (((w.alloc (.cells #[.slice A ms.length c,.slice B ns.length c2] 42)).alloc (.cells (obA o) 45)).alloc (.cells (obA p) 45)) (w.heap.size+1) (obA o)):=Lib.hid ((Blk.new (by simp)).alloc _)
 have HY0:Hid (Blk (((w.alloc (.cells #[.slice A ms.length c,.slice B ns.length c2] 42)).alloc (.cells (obA o) 45)).alloc (.cells (obA p) 45)) (w.heap.size+2) (obA p)):=Lib.hid (Blk.new (by simp))
 have HS0:Hid (w.heap.size≤(((w.alloc (.cells #[.slice A ms.length c,.slice B ns.length c2] 42)).alloc (.cells (obA o) 45)).alloc (.cells (obA p) 45)).heap.size):=Lib.hid (by simp;omega)
 unfold obA at HB0 HP0 HX0 HY0 HS0
 have b1:=ho.d
 have b2:=ho.p
 have b3:=hp.d
 have b4:=hp.p
 by_cases hz:o.d+o.p+p.d+p.p=0
 ·have HV:=Lib.hid (els_void (by omega:o.d+o.p=0) (by omega:p.d+p.p=0) b1.1 b3.1 b2.1 b4.1 hn h h')
  have t1:(o.d+o.p+p.d+p.p==0)=true:=by simpa using hz
  clear E1 E2 HO h h' ho hp hl hl' ho7 hp7 hn hN
  obtain⟨x1,y1,z1⟩:=HX0.out
  obtain⟨x2,y2,z2⟩:=HY0.out
  go_enter Tryd.func26,Tryd.ntmps26
  go_wp2
  go_ret
  exact⟨by rw [HV.out];rfl,HB0.out⟩
 have t1:(o.d+o.p+p.d+p.p==0)=false:=by simpa using hz
 have HRX:=Lib.hid (fun (i:Nat) (hi:i<N) w2=>RElement_any o.k o.sg o.at' o.d o.p o.el o.n o.cost (i:Int) w2 (by omega) (by omega) ho.at'.1 (by have:=ho.at';omega) b1.1 b1.2 b2.1 b2.2)
 have HRY:=Lib.hid (fun (i:Nat) (hi:i<N) w2=>RElement_any p.k p.sg p.at' p.d p.p p.el p.n p.cost (i:Int) w2 (by omega) (by omega) hp.at'.1 (by have:=hp.at';omega) b3.1 b3.2 b4.1 b4.2)
 have hq:∀(o:Ob),ObQ o→o.n=(N:Int)→o.at'+o.n*(o.d+o.p)≤100000000000→∀i,i<N→ObQ (eleO o (i:Int)):=fun o ho hn h7 i hi=>by
  have m0:0≤(i:Int)*(o.d+o.p):=Int.mul_nonneg (by omega) (by have:=ho.d;have:=ho.p;omega)
  have m1:(i:Int)*(o.d+o.p)≤o.n*(o.d+o.p):=Int.mul_le_mul_of_nonneg_right (by omega) (by have:=ho.d;have:=ho.p;omega)
  exact⟨by show (0:Int)≤1∧(1:Int)≤2;omega,ho.sg,by show 0≤o.at'+(i:Int)*(o.d+o.p)∧o.at'+(i:Int)*(o.d+o.p)≤100000000000;have:=ho.at';omega,ho.d,ho.p,by show (0:Int)≤0∧(0:Int)≤7;omega,by show (0:Int)≤0∧(0:Int)≤536870911;omega⟩
 have HST:=Lib.hid (fun (i:Nat) (hi:i<N)=>(by
  obtain⟨ks,h1,h2⟩:=h.2 i (by omega)
  obtain⟨ks',h3,h4⟩:=h'.2 i (by omega)
  intro w2 a b
  rw [h1,h3,eqT_strO E1.wd E1.m E1.f E2.wd E2.m E2.f rfl rfl h2 h4]
  exact Estr_any A c B c2 ms ns r HO (eleO o (i:Int)) (eleO p (i:Int)) ks ks' w2 a b (hq o ho hN ho7 i hi) (hq p hp (by omega) hp7 i hi) h2 h4 :
  ∀w2,EnvQ A ms w2→EnvQ B ns w2→Calls Tryd.prog 24 #[.agg #[.slice A ms.length c,.slice B ns.length c2],.agg #[.int .i64 1,.int .i64 o.sg,.int .i64 (o.at'+(i:Int)*(o.d+o.p)),.int .i64 o.d,.int .i64 o.p,.int .i64 0,.int .i64 0,.int .i64 0],.agg #[.int .i64 1,.int .i64 p.sg,.int .i64 (p.at'+(i:Int)*(p.d+p.p)),.int .i64 p.d,.int .i64 p.p,.int .i64 0,.int .i64 0,.int .i64 0]] w2 fun rr w'=>rr=.returned (.bool (eqT (kidN es i) (kidN es' i)))∧Below w2.heap.size w2 w'))
 have HE1:=Lib.hid (E1.on HB0.out)
 have HE2:=Lib.hid (E2.on HB0.out)
 have HY:Hid ((∀j,j<N→eqT (kidN es j) (kidN es' j)=true)→rowE es es'=true):=Lib.hid (fun h=>by unfold rowE;rw [hl,hl',Nat.max_self];exact decide_eq_true h)
 have HNO:Hid (∀j,eqT (kidN es j) (kidN es' j)=false→rowE es es'=false):=Lib.hid (fun j h=>rowE_no h)
 have HNN:=Lib.hid hN
 clear E1 E2 HO h h' ho hp hl hl' ho7 hp7 hn hz hq hN
 obtain⟨x1,y1,z1⟩:=HX0.out
 obtain⟨x2,y2,z2⟩:=HY0.out
 go_enter Tryd.func26,Tryd.ntmps26
 go_wp2_with fail
 refine abs_code10 (F:=fun W=>W=(((w.alloc (.cells #[.slice A ms.length c,.slice B ns.length c2] 42)).alloc (.cells #[.int .i64 o.k,.int .i64 o.sg,.int .i64 o.at',.int .i64 o.d,.int .i64 o.p,.int .i64 o.el,.int .i64 o.n,.int .i64 o.cost] 45)).alloc (.cells #[.int .i64 p.k,.int .i64 p.sg,.int .i64 p.at',.int .i64 p.d,.int .i64 p.p,.int .i64 p.el,.int .i64 p.n,.int .i64 p.cost] 45))) rfl ?_
 rintro W1 hW1
 rw [←hW1] at HB0 HP0 HX0 HY0 HS0 HE1 HE2
 clear hW1
 clear x1 y1 z1 x2 y2 z2 t1 b1 b2 b3 b4
 rw [HNN.out]
 go_loopw [22] (fun i wr=>∃j:Nat,j≤N∧i=.int .i64 j∧(∀l,l<j→eqT (kidN es l) (kidN es' l)=true)∧Below W1.heap.size W1 wr) (fun i _=>N-(intOf i).toNat)
 case atStart=>exact⟨0,by omega,rfl,fun l hl=>absurd hl (Nat.not_lt_zero _),Below.refl _ _⟩
 case round=>
  obtain⟨j,hj,rfl,hal,hbr⟩:=hrel
  have HR:=Lib.hid hbr
  have HAL:=Lib.hid hal
  clear hbr hal
  by_cases hlt:j<N
  ·have hj1:(j:Int)<(N:Int):=by omega
   have HEA:=Lib.hid (HRX.out j hlt)
   have HEB:=Lib.hid (HRY.out j hlt)
   have HST:=Lib.hid (HST.out j hlt)
   have HNJ:=Lib.hid (HNO.out j)
   have HAN:Hid (eqT (kidN es j) (kidN es' j)=true→∀l,l<j+1→eqT (kidN es l) (kidN es' l)=true):=Lib.hid (fun h l hl=>by
    by_cases e:l=j
    ·subst e;exact h
    ·exact HAL.out l (by omega))
   have HE1:=Lib.hid (HE1.out.on HR.out)
   have HE2:=Lib.hid (HE2.out.on HR.out)
   have HP3:=Lib.hid (HP0.out.below HR.out)
   have HX3:=Lib.hid (HX0.out.below HR.out)
   have HY3:=Lib.hid (HY0.out.below HR.out)
   generalize eqT (kidN es j) (kidN es' j)=b at *
   go_wp2_with fail
   rename_i KK hKK
   refine wp_region_chain (by kernel_rfl) (by kernel_rfl) ?_
   refine chain_val (u:=?_) [3] rfl (by kernel_rfl) trivial (fun ρ wc hbc hcn hq=>?_) ?_;rotate_left
   ·obtain⟨hcn,hfn⟩:=hcn
    simp at hq
    have x1:=(HP3.out.drew.below hbc).cell
    have x2:=(HX3.out.drew.below hbc).cell
    have x3:=(HY3.out.drew.below hbc).cell
    go_simp
    rfl
   refine chain_val (u:=?_) [4] rfl (by kernel_rfl) trivial (fun ρ wc hbc hcn hq=>?_) ?_;rotate_left
   ·obtain⟨hcn,hfn⟩:=hcn
    simp at hq
    have x1:=(HP3.out.drew.below hbc).cell
    have x2:=(HX3.out.drew.below hbc).cell
    have x3:=(HY3.out.drew.below hbc).cell
    go_simp
    rfl
   refine chain_val (u:=?_) [7] rfl (by kernel_rfl) trivial (fun ρ wc hbc hcn hq=>?_) ?_;rotate_left
   ·obtain⟨hcn,hfn⟩:=hcn
    simp at hq
    go_simp
    rfl
   refine chain_call (T:=Is ?_) 35 [26,27] rfl (by kernel_rfl) trivial (stable_is _) (fun ρ wc hbc hcn hq=>?_) ?_;rotate_left
   ·obtain⟨hcn,hfn⟩:=hcn
    simp at hq
    refine⟨_,by go_simp;rfl,?_⟩
    refine(HEA.out _).mono ?_
    rintro e w' ⟨rfl,hbq⟩
    refine⟨_,rfl,?_,hbq⟩
    unfold Is
    rfl
   refine chain_val (u:=?_) [5] rfl (by kernel_rfl) trivial (fun ρ wc hbc hcn hq=>?_) ?_;rotate_left
   ·obtain⟨hcn,hfn⟩:=hcn
    simp at hq
    have x1:=(HP3.out.drew.below hbc).cell
    have x2:=(HX3.out.drew.below hbc).cell
    have x3:=(HY3.out.drew.below hbc).cell
    go_simp
    rfl
   refine chain_val (u:=?_) [7] rfl (by kernel_rfl) trivial (fun ρ wc hbc hcn hq=>?_) ?_;rotate_left
   ·obtain⟨hcn,hfn⟩:=hcn
    simp at hq
    go_simp
    rfl
   refine chain_call (T:=Is ?_) 35 [29,30] rfl (by kernel_rfl) trivial (stable_is _) (fun ρ wc hbc hcn hq=>?_) ?_;rotate_left
   ·obtain⟨hcn,hfn⟩:=hcn
    simp at hq
    refine⟨_,by go_simp;rfl,?_⟩
    refine(HEB.out _).mono ?_
    rintro e w' ⟨rfl,hbq⟩
    refine⟨_,rfl,?_,hbq⟩
    unfold Is
    rfl
   refine chain_call (T:=Is ?_) 24 [25,28,31] rfl (by kernel_rfl) trivial (stable_is _) (fun ρ wc hbc hcn hq=>?_) ?_;rotate_left
   ·obtain⟨hcn,hfn⟩:=hcn
    simp at hq
    refine⟨_,by go_simp;rfl,?_⟩
    refine(HST.out _ (HE1.out.on (und hbc)) (HE2.out.on (und hbc))).mono ?_
    rintro e w' ⟨rfl,hbq⟩
    refine⟨_,rfl,?_,hbq⟩
    unfold Is
    rfl
   refine chain_val (u:=?_) [32] rfl (by kernel_rfl) trivial (fun ρ wc hbc hcn hq=>?_) ?_;rotate_left
   ·obtain⟨hcn,hfn⟩:=hcn
    simp at hq
    go_simp
    rfl
   refine chain_end_lit 35 rfl (fun ff w5 hb5 hk=>?_)
   have HB6:=Lib.hid (HR.out.trans ((und hb5).mono HR.out.size))
   simp [AllN] at hk
   simp only [frameL,hk]
   refine hKK _ _ ?_
   clear hk hb5 hKK KK
   cases b with
   | false=>
    have HV:=Lib.hid (HNJ.out rfl)
    go_wp2
    go_ret
    exact⟨by rw [HV.out];rfl,bel_on HB0.out HB6.out⟩
   | true=>
    have HV:=Lib.hid (HAN.out rfl)
    go_wp2
    go_roundw
    case rel=>exact⟨j+1,by omega,by go_num,HV.out,HB6.out⟩
    case measure=>simp [intOf];omega
  ·obtain rfl:j=N:=by omega
   have HV:=Lib.hid (HY.out HAL.out)
   go_wp2
   go_ret
   exact⟨by rw [HV.out];rfl,bel_on HB0.out HR.out⟩
end
section
attribute [local simp] AllK KnowsV look Is
set_option maxHeartbeats 4000000 in
theorem Elst_any (A:Option Addr)(c:Nat)(B:Option Addr)(c2:Nat)(ms ns:List (List Int))(o p:Ob)(v:Bool)(w:World)(E1:EnvQ A ms w)(E2:EnvQ B ns w)(ho:ObQ o)(hp:ObQ p)(h6:o.el<6){T N:Nat}(hT:bitsI o.el*o.n=T)(hN:wordsI o.el o.n=N)
  (hv:v=true↔∀i,i<N→fld (wordV ms o.sg (o.at'+(i:Int))) 0 ((min (T-64*i) 64:Nat):Int)=fld (wordV ns p.sg (p.at'+(i:Int))) 0 ((min (T-64*i) 64:Nat):Int)) :
  Calls Tryd.prog 27 #[.agg #[.slice A ms.length c,.slice B ns.length c2],.agg #[.int .i64 o.k,.int .i64 o.sg,.int .i64 o.at',.int .i64 o.d,.int .i64 o.p,.int .i64 o.el,.int .i64 o.n,.int .i64 o.cost],.agg #[.int .i64 p.k,.int .i64 p.sg,.int .i64 p.at',.int .i64 p.d,.int .i64 p.p,.int .i64 p.el,.int .i64 p.n,.int .i64 p.cost]] w fun rr w'=>rr=.returned (.bool (v))∧Below w.heap.size w w':=by
 have hTb:T≤64*536870911:=by have h1:=bitsI_mul o.el o.n ho.n.1;have h2:=ho.n;omega
 have hNT:64*N<T+64:=by
  have h3:=hN
  unfold wordsI at h3
  rw [if_neg (by omega),hT] at h3
  omega
 have HB0:Hid (Below w.heap.size w (((w.alloc (.cells #[.slice A ms.length c,.slice B ns.length c2] 42)).alloc (.cells (obA o) 45)).alloc (.cells (obA p) 45))):=Lib.hid ((((Below.refl w.heap.size w).alloc (Nat.le_refl _) _).alloc (by simp) _).alloc (by simp;omega) _)
 have HP0:Hid (Blk (((w.alloc (.cells #[.slice A ms.length c,.slice B ns.length c2] 42)).alloc (.cells (obA o) 45)).alloc (.cells (obA p) 45)) w.heap.size #[.slice A ms.length c,.slice B ns.length c2]):=Lib.hid (((Blk.fresh _ _ _).alloc _).alloc _)
 have HX0:Hid (Blk (((w.alloc (.cells #[.slice A ms.length c,.slice B ns.length c2] 42)).alloc (.cells (obA o) 45)).alloc (.cells (obA p) 45)) (w.heap.size+1) (obA o)):=Lib.hid ((Blk.new (by simp)).alloc _)
 have HY0:Hid (Blk (((w.alloc (.cells #[.slice A ms.length c,.slice B ns.length c2] 42)).alloc (.cells (obA o) 45)).alloc (.cells (obA p) 45)) (w.heap.size+2) (obA p)):=Lib.hid (Blk.new (by simp))
 have HS0:Hid (w.heap.size≤(((w.alloc (.cells #[.slice A ms.length c,.slice B ns.length c2] 42)).alloc (.cells (obA o) 45)).alloc (.cells (obA p) 45)).heap.size):=Lib.hid (by simp;omega)
 unfold obA at HB0 HP0 HX0 HY0 HS0
 have HTW:Hid (IntKind.i64.wrap (bitsI o.el*o.n)=(T:Int)):=Lib.hid (by rw [hT,IntKind.wrap_i64];omega)
 have HBI:=Lib.hid (fun w2 (hT:TabOK w2)=>LBits_any o.el w2 hT ho.el.1 ho.el.2)
 have HWI:=Lib.hid (fun w2 (hT:TabOK w2)=>(by
  have h:=LWords_any o.el o.n w2 hT ho.el.1 ho.el.2 ho.n.1 ho.n.2
  rw [hN] at h
  exact h:Calls Tryd.prog 40 #[.int .i64 o.el,.int .i64 o.n] w2 fun r w'=>r=.returned (.int .i64 (N:Int))∧w2=w'))
 have HEX:=Lib.hid (fun (i:Nat) (hi:i<N) w2 (a:EnvQ A ms w2)=>Eelements_any A c ms.length ms o.k o.sg o.at' o.d o.p o.el o.n o.cost (i:Int) ((min (T-64*i) 64:Nat):Int) w2 a rfl ho.sg ho.at' (by omega) (by omega))
 have HEY:=Lib.hid (fun (i:Nat) (hi:i<N) w2 (a:EnvQ B ns w2)=>Eelements_any B c2 ns.length ns p.k p.sg p.at' p.d p.p p.el p.n p.cost (i:Int) ((min (T-64*i) 64:Nat):Int) w2 a rfl hp.sg hp.at' (by omega) (by omega))
 have HY:Hid ((∀i,i<N→fld (wordV ms o.sg (o.at'+(i:Int))) 0 ((min (T-64*i) 64:Nat):Int)=fld (wordV ns p.sg (p.at'+(i:Int))) 0 ((min (T-64*i) 64:Nat):Int))→v=true):=Lib.hid hv.2
 have HNO:Hid (∀i,i<N→fld (wordV ms o.sg (o.at'+(i:Int))) 0 ((min (T-64*i) 64:Nat):Int)≠fld (wordV ns p.sg (p.at'+(i:Int))) 0 ((min (T-64*i) 64:Nat):Int)→v=false):=Lib.hid (fun i hi h=>by
  cases hv1:v with
  | false=>rfl
  | true=>exact absurd (hv.1 hv1 i hi) h)
 have HE1:=Lib.hid (E1.on HB0.out)
 have HE2:=Lib.hid (E2.on HB0.out)
 clear E1 E2 ho hp hT hN hv h6
 go_enter Tryd.func27,Tryd.ntmps27
 go_wp2_with fail
 refine abs_code10 (F:=fun W=>W=(((w.alloc (.cells #[.slice A ms.length c,.slice B ns.length c2] 42)).alloc (.cells #[.int .i64 o.k,.int .i64 o.sg,.int .i64 o.at',.int .i64 o.d,.int .i64 o.p,.int .i64 o.el,.int .i64 o.n,.int .i64 o.cost] 45)).alloc (.cells #[.int .i64 p.k,.int .i64 p.sg,.int .i64 p.at',.int .i64 p.d,.int .i64 p.p,.int .i64 p.el,.int .i64 p.n,.int .i64 p.cost] 45))) rfl ?_
 rintro W1 hW1
 rw [←hW1] at HB0 HP0 HX0 HY0 HS0 HE1 HE2
 clear hW1
 rename_i KK hKK
 refine wp_region_chain (by kernel_rfl) (by kernel_rfl) ?_
 refine chain_val (u:=?_) [4] rfl (by kernel_rfl) trivial (fun ρ wc hbc hcn hq=>?_) ?_;rotate_left
 ·obtain⟨hcn,hfn⟩:=hcn
  simp at hq
  go_simp
  rfl
 refine chain_val (u:=?_) [10] rfl (by kernel_rfl) trivial (fun ρ wc hbc hcn hq=>?_) ?_;rotate_left
 ·obtain⟨hcn,hfn⟩:=hcn
  simp at hq
  have x1:=(HP0.out.drew.below hbc).cell
  have x2:=(HX0.out.drew.below hbc).cell
  have x3:=(HY0.out.drew.below hbc).cell
  go_simp
  rfl
 refine chain_call (T:=Is ?_) 39 [11] rfl (by kernel_rfl) trivial (stable_is _) (fun ρ wc hbc hcn hq=>?_) ?_;rotate_left
 ·obtain⟨hcn,hfn⟩:=hcn
  simp at hq
  refine⟨_,by go_simp;rfl,?_⟩
  refine(HBI.out _ (HE1.out.on (und hbc)).tab).mono ?_
  rintro e w' ⟨rfl,rfl⟩
  refine⟨_,rfl,?_,Below.refl _ _⟩
  unfold Is
  rfl
 refine chain_val (u:=?_) [4] rfl (by kernel_rfl) trivial (fun ρ wc hbc hcn hq=>?_) ?_;rotate_left
 ·obtain⟨hcn,hfn⟩:=hcn
  simp at hq
  go_simp
  rfl
 refine chain_val (u:=?_) [13] rfl (by kernel_rfl) trivial (fun ρ wc hbc hcn hq=>?_) ?_;rotate_left
 ·obtain⟨hcn,hfn⟩:=hcn
  simp at hq
  have x1:=(HP0.out.drew.below hbc).cell
  have x2:=(HX0.out.drew.below hbc).cell
  have x3:=(HY0.out.drew.below hbc).cell
  go_simp
  rfl
 refine chain_val (u:=.int .i64 (T:Int)) [12,14] rfl (by kernel_rfl) trivial (fun ρ wc hbc hcn hq=>?_) ?_
 ·obtain⟨hcn,hfn⟩:=hcn
  simp at hq
  have hz:=HTW.out
  go_simp
 refine chain_val (u:=?_) [15] rfl (by kernel_rfl) trivial (fun ρ wc hbc hcn hq=>?_) ?_;rotate_left
 ·obtain⟨hcn,hfn⟩:=hcn
  simp at hq
  go_simp
  rfl
 refine chain_end_lit 43 rfl (fun ff w5 hb5 hk=>?_)
 have HB1:=Lib.hid (bel_on HB0.out (und hb5))
 have HP1:=Lib.hid (HP0.out.below (und hb5))
 have HX1:=Lib.hid (HX0.out.below (und hb5))
 have HY1:=Lib.hid (HY0.out.below (und hb5))
 have HE1:=Lib.hid (HE1.out.on (und hb5))
 have HE2:=Lib.hid (HE2.out.on (und hb5))
 simp [AllN] at hk
 simp only [frameL,hk]
 refine hKK _ _ ?_
 clear hk hb5 HB0 HP0 HX0 HY0 HS0 hKK KK
 obtain⟨x1,y1,z1⟩:=HX1.out
 go_wp2_with fail
 refine(HWI.out _ HE1.out.tab).mono ?_
 rintro rr w6 ⟨rfl,rfl⟩
 clear x1 y1 z1
 go_wp2
 go_loopw [21] (fun i wr=>∃j:Nat,j≤N∧i=.int .i64 j∧(∀i,i<j→fld (wordV ms o.sg (o.at'+(i:Int))) 0 ((min (T-64*i) 64:Nat):Int)=fld (wordV ns p.sg (p.at'+(i:Int))) 0 ((min (T-64*i) 64:Nat):Int))∧Below w5.heap.size w5 wr) (fun i _=>N-(intOf i).toNat)
 case atStart=>exact⟨0,by omega,rfl,fun l hl=>absurd hl (Nat.not_lt_zero _),Below.refl _ _⟩
 case round=>
  obtain⟨j,hj,rfl,hal,hbr⟩:=hrel
  have HR:=Lib.hid hbr
  have HAL:=Lib.hid hal
  clear hbr hal
  by_cases hlt:j<N
  ·have hj1:(j:Int)<(N:Int):=by omega
   have HEA:=Lib.hid (HEX.out j hlt)
   have HEB:=Lib.hid (HEY.out j hlt)
   have HNJ:=Lib.hid (HNO.out j hlt)
   have HAN:Hid (fld (wordV ms o.sg (o.at'+(j:Int))) 0 ((min (T-64*j) 64:Nat):Int)=fld (wordV ns p.sg (p.at'+(j:Int))) 0 ((min (T-64*j) 64:Nat):Int)→∀i,i<j+1→fld (wordV ms o.sg (o.at'+(i:Int))) 0 ((min (T-64*i) 64:Nat):Int)=fld (wordV ns p.sg (p.at'+(i:Int))) 0 ((min (T-64*i) 64:Nat):Int)):=Lib.hid (fun h l hl=>by
    by_cases e:l=j
    ·subst e;exact h
    ·exact HAL.out l (by omega))
   have HE1:=Lib.hid (HE1.out.on HR.out)
   have HE2:=Lib.hid (HE2.out.on HR.out)
   have HP3:=Lib.hid (HP1.out.below HR.out)
   have HX3:=Lib.hid (HX1.out.below HR.out)
   have HY3:=Lib.hid (HY1.out.below HR.out)
   generalize fld (wordV ms o.sg (o.at'+(j:Int))) 0 ((min (T-64*j) 64:Nat):Int)=a1 at *
   generalize fld (wordV ns p.sg (p.at'+(j:Int))) 0 ((min (T-64*j) 64:Nat):Int)=a2 at *
   obtain⟨u,hu⟩:∃u:Int,((min (T-64*j) 64:Nat):Int)=u:=⟨_,rfl⟩
   rw [hu] at HEA HEB
   have b1:(j:Int)≤536870912:=by omega
   have b2:(T:Int)≤34359738304:=by omega
   have HU1:Hid (64<(T:Int)-(j:Int)*64→u=64):=Lib.hid (fun h=>by omega)
   have HU2:Hid ((T:Int)-(j:Int)*64≤64→u=(T:Int)-(j:Int)*64):=Lib.hid (fun h=>by omega)
   clear hu
   go_wp2
   all_goals
    first
    | (have e:=HU1.out h;subst e)
    | (have e:=HU2.out h;subst e)
    clear HU1 HU2
    rename_i KK hKK
    refine wp_region_chain (by kernel_rfl) (by kernel_rfl) ?_
    refine chain_val (u:=?_) [3] rfl (by kernel_rfl) trivial (fun ρ wc hbc hcn hq=>?_) ?_;rotate_left
    ·obtain⟨hcn,hfn⟩:=hcn
     simp at hq
     go_simp
     rfl
    refine chain_val (u:=?_) [29] rfl (by kernel_rfl) trivial (fun ρ wc hbc hcn hq=>?_) ?_;rotate_left
    ·obtain⟨hcn,hfn⟩:=hcn
     simp at hq
     have x1:=(HP3.out.drew.below hbc).cell
     have x2:=(HX3.out.drew.below hbc).cell
     have x3:=(HY3.out.drew.below hbc).cell
     go_simp
     rfl
    refine chain_val (u:=?_) [4] rfl (by kernel_rfl) trivial (fun ρ wc hbc hcn hq=>?_) ?_;rotate_left
    ·obtain⟨hcn,hfn⟩:=hcn
     simp at hq
     have x1:=(HP3.out.drew.below hbc).cell
     have x2:=(HX3.out.drew.below hbc).cell
     have x3:=(HY3.out.drew.below hbc).cell
     go_simp
     rfl
    refine chain_val (u:=?_) [8] rfl (by kernel_rfl) trivial (fun ρ wc hbc hcn hq=>?_) ?_;rotate_left
    ·obtain⟨hcn,hfn⟩:=hcn
     simp at hq
     go_simp
     rfl
    refine chain_val (u:=?_) [9] rfl (by kernel_rfl) trivial (fun ρ wc hbc hcn hq=>?_) ?_;rotate_left
    ·obtain⟨hcn,hfn⟩:=hcn
     simp at hq
     go_simp
     rfl
    refine chain_call (T:=Is ?_) 41 [30,31,32,33] rfl (by kernel_rfl) trivial (stable_is _) (fun ρ wc hbc hcn hq=>?_) ?_;rotate_left
    ·obtain⟨hcn,hfn⟩:=hcn
     simp at hq
     refine⟨_,by go_simp;rfl,?_⟩
     refine(HEA.out _ (HE1.out.on (und hbc))).mono ?_
     rintro e w' ⟨rfl,hbq⟩
     refine⟨_,rfl,?_,hbq⟩
     unfold Is
     rfl
    refine chain_val (u:=?_) [3] rfl (by kernel_rfl) trivial (fun ρ wc hbc hcn hq=>?_) ?_;rotate_left
    ·obtain⟨hcn,hfn⟩:=hcn
     simp at hq
     go_simp
     rfl
    refine chain_val (u:=?_) [35] rfl (by kernel_rfl) trivial (fun ρ wc hbc hcn hq=>?_) ?_;rotate_left
    ·obtain⟨hcn,hfn⟩:=hcn
     simp at hq
     have x1:=(HP3.out.drew.below hbc).cell
     have x2:=(HX3.out.drew.below hbc).cell
     have x3:=(HY3.out.drew.below hbc).cell
     go_simp
     rfl
    refine chain_val (u:=?_) [5] rfl (by kernel_rfl) trivial (fun ρ wc hbc hcn hq=>?_) ?_;rotate_left
    ·obtain⟨hcn,hfn⟩:=hcn
     simp at hq
     have x1:=(HP3.out.drew.below hbc).cell
     have x2:=(HX3.out.drew.below hbc).cell
     have x3:=(HY3.out.drew.below hbc).cell
     go_simp
     rfl
    refine chain_val (u:=?_) [8] rfl (by kernel_rfl) trivial (fun ρ wc hbc hcn hq=>?_) ?_;rotate_left
    ·obtain⟨hcn,hfn⟩:=hcn
     simp at hq
     go_simp
     rfl
    refine chain_val (u:=?_) [9] rfl (by kernel_rfl) trivial (fun ρ wc hbc hcn hq=>?_) ?_;rotate_left
    ·obtain⟨hcn,hfn⟩:=hcn
     simp at hq
     go_simp
     rfl
    refine chain_call (T:=Is ?_) 41 [36,37,38,39] rfl (by kernel_rfl) trivial (stable_is _) (fun ρ wc hbc hcn hq=>?_) ?_;rotate_left
    ·obtain⟨hcn,hfn⟩:=hcn
     simp at hq
     refine⟨_,by go_simp;rfl,?_⟩
     refine(HEB.out _ (HE2.out.on (und hbc))).mono ?_
     rintro e w' ⟨rfl,hbq⟩
     refine⟨_,rfl,?_,hbq⟩
     unfold Is
     rfl
    refine chain_val (u:=?_) [34,40] rfl (by kernel_rfl) trivial (fun ρ wc hbc hcn hq=>?_) ?_;rotate_left
    ·obtain⟨hcn,hfn⟩:=hcn
     simp at hq
     go_simp
     rfl
    refine chain_end_lit 43 rfl (fun ff w6 hb6 hk=>?_)
    have HB6:=Lib.hid (HR.out.trans ((und hb6).mono HR.out.size))
    simp [AllN] at hk
    simp only [frameL,hk]
    refine hKK _ _ ?_
    clear hk hb6 hKK KK
    by_cases hab:a1=a2
    ·have s3:(a1 != a2)=false:=by simpa using hab
     have HV:=Lib.hid (HAN.out hab)
     clear hab
     go_wp2
     go_roundw
     case rel=>exact⟨j+1,by omega,by go_num,HV.out,HB6.out⟩
     case measure=>simp [intOf];omega
    ·have s3:(a1 != a2)=true:=by simpa using hab
     have HV:=Lib.hid (HNJ.out hab)
     clear hab
     go_wp2
     go_ret
     exact⟨by rw [HV.out];rfl,bel_on HB1.out HB6.out⟩
  ·obtain rfl:j=N:=by omega
   have HV:=Lib.hid (HY.out HAL.out)
   go_wp2
   go_ret
   exact⟨by rw [HV.out];rfl,bel_on HB1.out HR.out⟩
end
section
attribute [local simp] AllK KnowsV look Is
theorem Enul_any (A:Option Addr)(c:Nat)(B:Option Addr)(c2:Nat)(ms ns:List (List Int))(o p:Ob)(w:World):
  Calls Tryd.prog 23 #[.agg #[.slice A ms.length c,.slice B ns.length c2],.agg #[.int .i64 o.k,.int .i64 o.sg,.int .i64 o.at',.int .i64 o.d,.int .i64 o.p,.int .i64 o.el,.int .i64 o.n,.int .i64 o.cost],.agg #[.int .i64 p.k,.int .i64 p.sg,.int .i64 p.at',.int .i64 p.d,.int .i64 p.p,.int .i64 p.el,.int .i64 p.n,.int .i64 p.cost]] w fun rr w'=>rr=.returned (.bool (true))∧Below w.heap.size w w':=by
 have HB0:Hid (Below w.heap.size w (((w.alloc (.cells #[.slice A ms.length c,.slice B ns.length c2] 42)).alloc (.cells (obA o) 45)).alloc (.cells (obA p) 45))):=Lib.hid ((((Below.refl w.heap.size w).alloc (Nat.le_refl _) _).alloc (by simp) _).alloc (by simp;omega) _)
 have HP0:Hid (Blk (((w.alloc (.cells #[.slice A ms.length c,.slice B ns.length c2] 42)).alloc (.cells (obA o) 45)).alloc (.cells (obA p) 45)) w.heap.size #[.slice A ms.length c,.slice B ns.length c2]):=Lib.hid (((Blk.fresh _ _ _).alloc _).alloc _)
 have HX0:Hid (Blk (((w.alloc (.cells #[.slice A ms.length c,.slice B ns.length c2] 42)).alloc (.cells (obA o) 45)).alloc (.cells (obA p) 45)) (w.heap.size+1) (obA o)):=Lib.hid ((Blk.new (by simp)).alloc _)
 have HY0:Hid (Blk (((w.alloc (.cells #[.slice A ms.length c,.slice B ns.length c2] 42)).alloc (.cells (obA o) 45)).alloc (.cells (obA p) 45)) (w.heap.size+2) (obA p)):=Lib.hid (Blk.new (by simp))
 have HS0:Hid (w.heap.size≤(((w.alloc (.cells #[.slice A ms.length c,.slice B ns.length c2] 42)).alloc (.cells (obA o) 45)).alloc (.cells (obA p) 45)).heap.size):=Lib.hid (by simp;omega)
 unfold obA at HB0 HP0 HX0 HY0 HS0
 go_enter Tryd.func23,Tryd.ntmps23
 go_wp2
 go_ret
 exact⟨rfl,HB0.out⟩
set_option maxHeartbeats 4000000 in
theorem Eobj_step (A:Option Addr)(c:Nat)(B:Option Addr)(c2:Nat)(ms ns:List (List Int))(r:Nat)(HO:0<r→EqOC A c B c2 ms ns (r-1)):EqOC A c B c2 ms ns r:=by
 have hmf:∀(fn:Fn) (first cap:Array Value) (w:World),(Instr.makeFunc fn first cap).run Tryd.prog w=.ok (.func fn first cap) w:=fun _ _ _ _=>rfl
 intro o p X Y w E1 E2 ho hp
 have HB0:Hid (Below w.heap.size w (((w.alloc (.cells #[.slice A ms.length c,.slice B ns.length c2] 42)).alloc (.cells (obA o) 45)).alloc (.cells (obA p) 45))):=Lib.hid ((((Below.refl w.heap.size w).alloc (Nat.le_refl _) _).alloc (by simp) _).alloc (by simp;omega) _)
 have HP0:Hid (Blk (((w.alloc (.cells #[.slice A ms.length c,.slice B ns.length c2] 42)).alloc (.cells (obA o) 45)).alloc (.cells (obA p) 45)) w.heap.size #[.slice A ms.length c,.slice B ns.length c2]):=Lib.hid (((Blk.fresh _ _ _).alloc _).alloc _)
 have HX0:Hid (Blk (((w.alloc (.cells #[.slice A ms.length c,.slice B ns.length c2] 42)).alloc (.cells (obA o) 45)).alloc (.cells (obA p) 45)) (w.heap.size+1) (obA o)):=Lib.hid ((Blk.new (by simp)).alloc _)
 have HY0:Hid (Blk (((w.alloc (.cells #[.slice A ms.length c,.slice B ns.length c2] 42)).alloc (.cells (obA o) 45)).alloc (.cells (obA p) 45)) (w.heap.size+2) (obA p)):=Lib.hid (Blk.new (by simp))
 have HS0:Hid (w.heap.size≤(((w.alloc (.cells #[.slice A ms.length c,.slice B ns.length c2] 42)).alloc (.cells (obA o) 45)).alloc (.cells (obA p) 45)).heap.size):=Lib.hid (by simp;omega)
 unfold obA at HB0 HP0 HX0 HY0 HS0
 obtain⟨g1,g2,g3⟩:=objOk_head ho
 obtain⟨g4,g5,g6⟩:=objOk_head hp
 obtain⟨x1,y1,z1⟩:=HX0.out
 obtain⟨x2,y2,z2⟩:=HY0.out
 obtain⟨x3,y3,z3⟩:=HP0.out
 by_cases hk:o.k=p.k
 rotate_left
 ·have t1:(o.k != p.k)=true:=by simpa using hk
  have HV:=Lib.hid (eqT_head (x:=X) (y:=Y) (fun h=>hk (by rw [←g1,←g4];exact h.1)))
  clear g1 g2 g3 g4 g5 g6 hk
  clear HO E1 E2 ho hp
  go_enter Tryd.func13,Tryd.ntmps13
  go_wp2
  go_ret
  exact⟨by rw [HV.out];rfl,HB0.out⟩
 have t1:(o.k != p.k)=false:=by simpa using hk
 by_cases he:o.el=p.el
 rotate_left
 ·have t2:(o.el != p.el)=true:=by simpa using he
  have HV:=Lib.hid (eqT_head (x:=X) (y:=Y) (fun h=>he (by rw [←g2,←g5];exact h.2.1)))
  clear g1 g2 g3 g4 g5 g6 hk he
  clear HO E1 E2 ho hp
  go_enter Tryd.func13,Tryd.ntmps13
  go_wp2
  go_ret
  exact⟨by rw [HV.out];rfl,HB0.out⟩
 have t2:(o.el != p.el)=false:=by simpa using he
 by_cases hn:o.n=p.n
 rotate_left
 ·have t3:(o.n != p.n)=true:=by simpa using hn
  have HV:=Lib.hid (eqT_head (x:=X) (y:=Y) (fun h=>hn (by rw [←g3,←g6];exact h.2.2)))
  clear g1 g2 g3 g4 g5 g6 hk he hn
  clear HO E1 E2 ho hp
  go_enter Tryd.func13,Tryd.ntmps13
  go_wp2
  go_ret
  exact⟨by rw [HV.out];rfl,HB0.out⟩
 have t3:(o.n != p.n)=false:=by simpa using hn
 have qo:=ho.q E1.wd E1.m E1.f
 have qp:=hp.q E2.wd E2.m E2.f
 rcases ho with ⟨ho,hX⟩|⟨hr,ho,hol,hoN⟩
 ·rcases hp with ⟨hp,hY⟩|⟨-,hp,-⟩
  ·have HC:=Lib.hid (Enul_any A c B c2 ms ns o p (((w.alloc (.cells #[.slice A ms.length c,.slice B ns.length c2] 42)).alloc (.cells #[.int .i64 o.k,.int .i64 o.sg,.int .i64 o.at',.int .i64 o.d,.int .i64 o.p,.int .i64 o.el,.int .i64 o.n,.int .i64 o.cost] 45)).alloc (.cells #[.int .i64 p.k,.int .i64 p.sg,.int .i64 p.at',.int .i64 p.d,.int .i64 p.p,.int .i64 p.el,.int .i64 p.n,.int .i64 p.cost] 45)))
   have s1:(o.k==1)=false:=by rw [ho];decide
   have s2:(o.k==2)=false:=by rw [ho];decide
   have HV:Hid (eqT X Y=true):=Lib.hid (by rw [hX,hY];exact eqT_nd0)
   clear g1 g2 g3 g4 g5 g6 hk he hn ho hX hp hY qo qp HO E1 E2
   go_enter Tryd.func13,Tryd.ntmps13
   go_wp2_with fail
   refine HC.out.mono ?_
   rintro rr w5 ⟨rfl,hb5⟩
   have HB5:=Lib.hid (bel_on HB0.out hb5)
   clear hb5
   go_wp2
   go_ret
   exact⟨by rw [HV.out];rfl,HB5.out⟩
  ·exact absurd (by rw [←hk,ho];rfl) hp
 rcases hp with ⟨hp,-⟩|⟨-,-,hpl,hpN⟩
 ·exact absurd (by rw [hk,hp];rfl) ho
 have hO:=HO hr
 have loc:=located E1.wd E1.m E1.f hol
 have loc':=located E2.wd E2.m E2.f hpl
 by_cases hk1:o.k=1
 ·obtain⟨e1,e2⟩:=located_str E1.wd E1.m E1.f hol hk1
  obtain⟨e3,e4⟩:=located_str E2.wd E2.m E2.f hpl (by omega)
  rcases hoN with ⟨-,ks,hX,hK⟩|⟨h7,-⟩
  rotate_left
  ·omega
  rcases hpN with ⟨-,ks',hY,hK'⟩|⟨h7,-⟩
  rotate_left
  ·omega
  have hV:=eqT_strO E1.wd E1.m E1.f E2.wd E2.m E2.f hk1 (by omega) hK hK'
  rw [hk1,e1,e2] at hX
  rw [←hk,hk1,e3,e4] at hY
  rw [←hX,←hY] at hV
  have HC:=Lib.hid (Estr_any A c B c2 ms ns (r-1) hO o p ks ks' _ (E1.on HB0.out) (E2.on HB0.out) qo qp hK hK')
  rw [←hV] at HC
  have s1:(o.k==1)=true:=by simpa using hk1
  clear g1 g2 g3 g4 g5 g6 hk he hn ho hX hY qo qp HO E1 E2 hV hK hK' hO loc loc' e1 e2 e3 e4 hk1 hol hpl
  go_enter Tryd.func13,Tryd.ntmps13
  go_wp2_with fail
  refine HC.out.mono ?_
  rintro rr w5 ⟨rfl,hb5⟩
  have HB5:=Lib.hid (bel_on HB0.out hb5)
  clear hb5
  go_wp2
  go_ret
  exact⟨rfl,HB5.out⟩
 have s1:(o.k==1)=false:=by simpa using hk1
 have hk2:o.k=2:=by omega
 have s2:(o.k==2)=true:=by simpa using hk2
 by_cases h7:o.el=7
 ·rcases hoN with ⟨h,-⟩|⟨-,es,hX,hK⟩
  ·exact absurd h7 h
  rcases hpN with ⟨h,-⟩|⟨-,es',hY,hK'⟩
  ·exact absurd (he ▸ h7) h
  have hV:eqT X Y=rowE es es':=by
   rw [hX,hY,←hk,←he,←hn,hk2]
   exact eqT_lst (by rw [hK.1,hK'.1,hn])
  have HC:=Lib.hid (Ecmp_any A c B c2 ms ns (r-1) hO o p es es' _ (E1.on HB0.out) (E2.on HB0.out) qo qp hn (by omega) (by omega) hK hK')
  rw [←hV] at HC
  have s3:(o.el==6)=false:=by rw [h7];decide
  have s4:(o.el==7)=true:=by rw [h7];decide
  clear g1 g2 g3 g4 g5 g6 hk he hn ho hX hY qo qp HO E1 E2 hV hK hK' hO loc loc' hk1 hk2 h7 hol hpl
  go_enter Tryd.func13,Tryd.ntmps13
  go_wp2_with fail
  refine HC.out.mono ?_
  rintro rr w5 ⟨rfl,hb5⟩
  have HB5:=Lib.hid (bel_on HB0.out hb5)
  clear hb5
  go_wp2
  go_ret
  exact⟨rfl,HB5.out⟩
 have s4:(o.el==7)=false:=by simpa using h7
 rcases hoN with ⟨-,ks,hX,hK⟩|⟨h,-⟩
 rotate_left
 ·exact absurd h h7
 rcases hpN with ⟨-,ks',hY,hK'⟩|⟨h,-⟩
 rotate_left
 ·exact absurd (he.trans h) h7
 by_cases h6:o.el=6
 ·have hd:datO ms o=[]:=by unfold datO;rw [if_neg (by omega),if_neg (fun h=>h.2 h6)]
  have hd':datO ns p=[]:=by unfold datO;rw [if_neg (by omega),if_neg (fun h=>h.2 (by omega))]
  have hV:eqT X Y=rowE ks ks':=by
   rw [hX,hY,←hk,←he,←hn,hk2,hd,hd']
   exact eqT_lst (by rw [hK.1,hK'.1,(ptrO_num o (.inr (.inl hk2))).2 hk2 h6,(ptrO_num p (.inr (.inl (by omega)))).2 (by omega) (by omega),hn])
  have HC:=Lib.hid (Eptrs_any A c B c2 ms ns (r-1) hO o p ks ks' _ (E1.on HB0.out) (E2.on HB0.out) qo qp hK hK')
  rw [←hV] at HC
  have s3:(o.el==6)=true:=by rw [h6];decide
  clear g1 g2 g3 g4 g5 g6 hk he hn ho hX hY qo qp HO E1 E2 hV hK hK' hO loc loc' hk1 hk2 h7 h6 hol hpl hd hd'
  go_enter Tryd.func13,Tryd.ntmps13
  go_wp2_with fail
  refine HC.out.mono ?_
  rintro rr w5 ⟨rfl,hb5⟩
  have HB5:=Lib.hid (bel_on HB0.out hb5)
  clear hb5
  go_wp2
  go_ret
  exact⟨rfl,HB5.out⟩
 have s3:(o.el==6)=false:=by simpa using h6
 obtain⟨T,hT⟩:=Int.eq_ofNat_of_zero_le (bitsI_mul o.el o.n qo.n.1).1
 obtain⟨N,hN⟩:=Int.eq_ofNat_of_zero_le (wordsI_lim o.el o.n qo.n.1 qo.n.2).1
 have hV:=eqT_datO E1.wd E2.wd hk2 (by omega) he.symm hn.symm qo.el.1 (by omega) qo.n.1 (located_lst E1.wd E1.m E1.f hol hk2 (by omega)) (located_lst E2.wd E2.m E2.f hpl (by omega) (by omega)) hK hK' hT hN
 rw [←hX,←hY] at hV
 have HC:=Lib.hid (Elst_any A c B c2 ms ns o p (eqT X Y) _ (E1.on HB0.out) (E2.on HB0.out) qo qp (by omega) hT hN hV)
 clear g1 g2 g3 g4 g5 g6 hk he hn ho hX hY qo qp HO E1 E2 hV hK hK' hO loc loc' hk1 hk2 h7 h6 hol hpl hT hN
 go_enter Tryd.func13,Tryd.ntmps13
 go_wp2_with fail
 refine HC.out.mono ?_
 rintro rr w5 ⟨rfl,hb5⟩
 have HB5:=Lib.hid (bel_on HB0.out hb5)
 clear hb5
 go_wp2
 go_ret
 exact⟨rfl,HB5.out⟩
theorem Eobj_any (A:Option Addr)(c:Nat)(B:Option Addr)(c2:Nat)(ms ns:List (List Int)):∀r,EqOC A c B c2 ms ns r
 | 0=>Eobj_step A c B c2 ms ns 0 (fun h=>absurd h (Nat.lt_irrefl _))
 | r+1=>Eobj_step A c B c2 ms ns (r+1) (fun _=>Eobj_any A c B c2 ms ns r)
end
end Go.Proofs.YtfaflahfjgnphaaDoor
