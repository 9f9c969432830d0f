/- The texts Can2, Cost (what is wanted of them), one after the other. -/
import Derived.Test.YtfaflahfjgnphaaGreatDoorMg30
namespace Go.Proofs.YtfaflahfjgnphaaGreatDoor
open Go.ChangeShapes Go.WideShapes Go.ChangeAt Go.RowKit
set_option linter.unusedVariables false
set_option linter.unusedSimpArgs false
set_option maxRecDepth 100000
def sumI (G:Nd→Int):List Nd→Int
 | []=>0
 | x::xs=>G x+sumI G xs
theorem sumI_append (G:Nd→Int)(a b:List Nd):sumI G (a++b)=sumI G a+sumI G b:=by
 induction a with
 | nil=>simp [sumI]
 | cons x xs ih=>simp only [List.cons_append,sumI,ih];omega
theorem sumI_nonneg {G:Nd→Int}:∀l:List Nd,(∀y∈l,0≤G y)→0≤sumI G l
 | [],_=>Int.le_refl _
 | x::xs,h=>by
  have h1:=h x (List.mem_cons_self ..)
  have h2:=sumI_nonneg xs fun y hy=>h y (List.mem_cons_of_mem _ hy)
  show 0≤G x+sumI G xs
  omega
theorem canK_sum (l:List Nd):canK l=sumI canN l:=by
 induction l with
 | nil=>simp [canK,sumI]
 | cons x xs ih=>simp only [canK,sumI,ih]
theorem canG_sum (l:List Nd):canG l=sumI (fun y=>canK y.ks) l:=by
 induction l with
 | nil=>simp [canG,sumI]
 | cons x xs ih=>
  obtain⟨k,e,n,d,ks⟩:=x
  simp only [canG,sumI,ih,Nd.ks]
theorem sumI_map (G:Nd→Int)(t:Nd→Nd)(l:List Nd):sumI G (l.map t)=sumI (fun y=>G (t y)) l:=by
 induction l with
 | nil=>simp [sumI]
 | cons x xs ih=>simp only [List.map_cons,sumI,ih]
theorem valid_list {k e n:Int}{d:List Int}{ks:List Nd}(h:validN (.mk k e n d ks)=true)(hk:k=2):0≤n∧n≤536870911∧0≤e∧e≤7:=by
 subst hk
 simp only [validN,Bool.and_eq_true] at h
 have h2:=h.2
 unfold headB at h2
 rw [if_neg (by omega),if_neg (by omega),if_pos rfl,decide_eq_true_iff] at h2
 omega
theorem canO_nonneg {x:Nd}(h:validN x=true):0≤canO x:=by
 obtain⟨k,e,n,d,ks⟩:=x
 show 0≤canOf k e n d ks
 unfold canOf
 by_cases h0:k=0
 ·rw [if_pos h0]
  exact Int.le_refl _
 rw [if_neg h0]
 by_cases h1:k=1
 ·rw [if_pos h1]
  omega
 rw [if_neg h1]
 have h2:=valid_k h
 simp only [Nd.k] at h2
 obtain⟨a1,a2,a3,a4⟩:=valid_list h (by omega)
 by_cases h7:e=7
 ·rw [if_pos h7]
  have:0≤n*((uniD ks ks.length+uniP ks ks.length:Nat):Int):=Int.mul_nonneg a1 (by omega)
  omega
 ·rw [if_neg h7]
  have:=bitsI_mul e n a1
  unfold wordsI
  split<;>omega
theorem can_nonneg:∀x:Nd,validN x=true→0≤canN x∧0≤canK x.ks:=Nd.ind (by
 intro k e n d ks ih h
 have hv:=(valid_kids11 h).1
 have h1:0≤canK ks:=by rw [canK_sum];exact sumI_nonneg _ fun y hy=>(ih y hy (hv y hy)).1
 have h2:0≤canG ks:=by rw [canG_sum];exact sumI_nonneg _ fun y hy=>(ih y hy (hv y hy)).2
 have h3:=canO_nonneg h
 refine⟨?_,h1⟩
 simp only [canN]
 have h4:canOf k e n d ks=canO (.mk k e n d ks):=rfl
 rw [h4]
 split<;>omega)
theorem canK_take_le (l:List Nd)(j:Nat)(h:∀y∈l,validN y=true):canK (l.take j)≤canK l:=by
 have h1:canK l=canK (l.take j)+canK (l.drop j):=by rw [←canK_append,List.take_append_drop]
 have h2:0≤canK (l.drop j):=by rw [canK_sum];exact sumI_nonneg _ fun y hy=>(can_nonneg y (h y (List.mem_of_mem_drop hy))).1
 omega
theorem can_struct {d:List Int}{ks:List Nd}(h:validN (.mk 1 0 0 d ks)=true):canN (trimN (.mk 1 0 0 d ks))≤(d.length / 8+ks.length:Nat)+canK (trimK ks)∧(trimN (.mk 1 0 0 d ks)).d.length / 8≤d.length / 8∧(trimN (.mk 1 0 0 d ks)).ks.length≤ks.length∧canK (trimN (.mk 1 0 0 d ks)).ks≤canK (trimK ks):=by
 have hv:=valid_kids11 h
 have h8:=hv.2 rfl
 have hw:=wordsT_le d h8
 have hp:=ptrsT_le ks
 have hvt:∀y∈trimK ks,validN y=true:=by
  intro y hy
  rw [trimK_map] at hy
  obtain⟨z,hz,rfl⟩:=List.mem_map.1 hy
  exact valid_trim z (hv.1 z hz)
 have ht:canK ((trimK ks).take (ptrsT ks))≤canK (trimK ks):=canK_take_le _ _ hvt
 have e1:(d.take (8*wordsT d)).length=8*wordsT d:=by rw [List.length_take];omega
 have e2:((trimK ks).take (ptrsT ks)).length=ptrsT ks:=by rw [List.length_take,trimK_length];omega
 refine⟨?_,?_,?_,?_⟩
 ·simp only [trimN,if_pos,canN]
  rw [if_neg (by omega)]
  unfold canOf
  rw [if_neg (by omega),if_pos rfl,e1,e2]
  omega
 ·simp only [trimN,if_pos,Nd.d]
  rw [e1]
  omega
 ·simp only [trimN,if_pos,Nd.ks]
  rw [e2]
  exact hp
 ·simp only [trimN,if_pos,Nd.ks]
  exact ht
theorem runK_can {f:Int→Nat→Val}{m:Int}(G:Nd→Int):∀n,(∀m i,i<n→(f m i).e=0→G (f m i).n≤m-(f m i).m)→(runK f m n).e=0→sumI G (runK f m n).ks≤m-(runK f m n).m
 | 0,_,_=>by simp [runK,sumI]
 | n+1,h,he=>by
  obtain⟨e1,e2⟩:=runK_succ0 he
  have ih:=runK_can G n (fun m i hi=>h m i (by omega)) e1
  have h1:=h (runK f m n).m n (by omega) e2
  rw [runK_ok e1 e2]
  simp only
  rw [sumI_append]
  simp only [sumI]
  omega
theorem structV_can {ls:List (List Int)}{val:Int→Int→Int→Val}(hv:∀m s a,validN (val m s a).n=true)(hc:∀m s a,(val m s a).e=0→canN (trimN (val m s a).n)≤m-(val m s a).m)(m:Int)(o:Ob)(h1:0≤o.d)(h2:o.d≤65535)(h3:0≤o.p)(h4:o.p≤65535)(he:(structV val ls m o).e=0):
  canN (trimN (structV val ls m o).n)≤o.d+o.p+(m-(structV val ls m o).m)∧((trimN (structV val ls m o).n).d.length / 8:Nat)≤o.d∧(trimN (structV val ls m o).n).ks.length≤o.p∧canK (trimN (structV val ls m o).n).ks≤m-(structV val ls m o).m:=by
 have hval:=(structV_valid hv ls m o h1 h2 h3 h4).1
 unfold structV at he hval ⊢
 by_cases h:(runK (fun m i=>val m o.sg (o.at'+o.d+i)) m o.p.toNat).e=0
 ·rw [if_neg (fun h'=>h' h)] at hval ⊢
  have hr:=runK_can (fun y=>canN (trimN y)) (f:=fun m i=>val m o.sg (o.at'+o.d+i)) (m:=m) o.p.toNat (fun m i _ he=>hc m _ _ he) h
  have hs:=can_struct hval
  have hl:=runK_length h
  have hdl:=datW_le ls o.sg o.at' o.d
  have e1:canK (trimK (runK (fun m i=>val m o.sg (o.at'+o.d+i)) m o.p.toNat).ks)=sumI (fun y=>canN (trimN y)) (runK (fun m i=>val m o.sg (o.at'+o.d+i)) m o.p.toNat).ks:=by rw [canK_sum,trimK_map,sumI_map]
  have e2:(bytesOf (datW ls o.sg o.at' o.d)).length=8*(datW ls o.sg o.at' o.d).length:=bytesOf_length _
  rw [e1,hl,e2] at hs
  simp only
  omega
 ·rw [if_pos h] at he
  exact absurd he h
theorem listV_can {ls:List (List Int)}{val:Int→Int→Int→Val}(hv:∀m s a,validN (val m s a).n=true)(hc:∀m s a,(val m s a).e=0→canN (trimN (val m s a).n)≤m-(val m s a).m)(m:Int)(o:Ob)(h1:0≤o.d)(h2:o.d≤65535)(h3:0≤o.p)(h4:o.p≤65535)(h5:0≤o.n)(h6:6≤o.el)(h7:o.el≤7)(he:(listV val ls m o).e=0):
  canN (trimN (listV val ls m o).n)≤(if o.el=6 then o.n else 1+o.n*(o.d+o.p))+(m-(listV val ls m o).m):=by
 unfold listV at he ⊢
 by_cases h:(runK (elemV val ls o) m o.n.toNat).e=0
 ·rw [if_neg (fun h'=>h' h)]
  by_cases h66:o.el=6
  ·rw [if_pos h66]
   have hr:=runK_can (fun y=>canN (trimN y)) (f:=elemV val ls o) (m:=m) o.n.toNat (fun m i _ he=>by
    unfold elemV at he ⊢
    rw [if_pos h66] at he ⊢
    exact hc m _ _ he) h
   simp only [trimN,canN]
   rw [if_neg (by omega),if_neg (by omega),if_neg (by omega)]
   unfold canOf
   rw [if_neg (by omega),if_neg (by omega),if_neg (by omega),canK_sum,trimK_map,sumI_map,h66]
   have e3:wordsI 6 o.n=o.n:=by unfold wordsI bitsI;simp;omega
   omega
  ·have h77:o.el=7:=by omega
   rw [if_neg h66]
   have hk:∀y∈(runK (elemV val ls o) m o.n.toNat).ks,((trimN y).d.length / 8:Nat)≤o.d∧(trimN y).ks.length≤o.p:=runK_all (fun y=>(((trimN y).d.length / 8:Nat):Int)≤o.d∧((trimN y).ks.length:Int)≤o.p) _ (fun m i _ he=>by
    unfold elemV at he ⊢
    rw [if_neg h66] at he ⊢
    have:=structV_can hv hc m (eleO o i) h1 h2 h3 h4 he
    exact⟨this.2.1,this.2.2.1⟩)
   have hr:=runK_can (fun y=>canK (trimN y).ks) (f:=elemV val ls o) (m:=m) o.n.toNat (fun m i _ he=>by
    unfold elemV at he ⊢
    rw [if_neg h66] at he ⊢
    exact(structV_can hv hc m (eleO o i) h1 h2 h3 h4 he).2.2.2) h
   have hl:=runK_length h
   generalize (runK (elemV val ls o) m o.n.toNat).ks=ks at *
   have hkt:∀y∈trimK ks,y.d.length / 8≤o.d.toNat∧y.ks.length≤o.p.toNat:=by
    intro y hy
    rw [trimK_map] at hy
    obtain⟨z,hz,rfl⟩:=List.mem_map.1 hy
    have:=hk z hz
    omega
   have hu:=uniD_le (trimK ks) o.d.toNat (trimK ks).length (Nat.le_refl _) (fun y hy=>(hkt y hy).1)
   have hp:=uniP_le (trimK ks) o.p.toNat (trimK ks).length (Nat.le_refl _) (fun y hy=>(hkt y hy).2)
   simp only [trimN,canN]
   rw [if_neg (by omega),if_neg (by omega),if_pos ⟨trivial,h77⟩]
   unfold canOf
   rw [if_neg (by omega),if_neg (by omega),if_pos h77,canG_sum,trimK_map,sumI_map]
   rw [trimK_map] at hu hp
   have hmul:o.n*((uniD (ks.map trimN) (ks.map trimN).length+uniP (ks.map trimN) (ks.map trimN).length:Nat):Int)≤o.n*(o.d+o.p):=Int.mul_le_mul_of_nonneg_left (by omega) h5
   omega
 ·rw [if_pos h] at he
  exact absurd he h
theorem objF_cost {ls:List (List Int)}(hw:Wd2 ls)(hm:ls.length≤40)(hf:∀j,(seg ls j).length≤20000000)(s a:Int)(q:Ob×Int)(hq:objF ls s a=q)(h1:¬q.2≠0)(h0:q.1≠ob0):
  (q.1.k=1→q.1.d+q.1.p=q.1.cost)∧(¬q.1.k=1→q.1.el<7→q.1.cost=wordsI q.1.el q.1.n)∧(¬q.1.k=1→q.1.el=7→1+q.1.n*(q.1.d+q.1.p)≤q.1.cost):=by
 have h:=objF_cases hw (by omega) (fun j=>by have:=hf j;omega) s a
 rw [hq] at h
 obtain⟨⟨k,sg,at',d,p,el,n,cost⟩,e⟩:=q
 simp only [ob0,Ob.mk.injEq,ne_eq] at h h1 h0 ⊢
 rcases h with ⟨h2,h4⟩|⟨-,rfl,rfl,rfl,h5,h6,h7,h8,rfl,h9⟩|⟨-,rfl,h4,h5,h6,h7,rfl,rfl,rfl,h8⟩|⟨-,rfl,rfl,h4,h5,h6,h7,h8,h9,c,h10,h11,h12,h13,rfl⟩
 ·exact absurd h2 h0
 ·exact⟨fun _=>rfl,fun h=>absurd rfl h,fun h=>absurd rfl h⟩
 ·exact⟨fun h=>by omega,fun _ _=>rfl,fun _ h=>by omega⟩
 ·exact⟨fun h=>by omega,fun _ h=>by omega,fun _ _=>by split<;>omega⟩
theorem can_nd0:canN (trimN nd0)=0:=by decide
theorem valV_can {ls:List (List Int)}(hw:Wd2 ls)(hm:ls.length≤40)(hf:∀j,(seg ls j).length≤20000000):∀r m s a,(valV ls r m s a).e=0→canN (trimN (valV ls r m s a).n)≤m-(valV ls r m s a).m
 | 0,m,s,a,he=>by
  unfold valV at he ⊢
  by_cases hn:(followF ls s a).e≠0∨(followF ls s a).w=0
  ·rw [if_pos hn]
   show canN (trimN nd0)≤m-m
   rw [can_nd0]
   omega
  ·rw [if_neg hn] at he
   exact absurd he (by simp [errV])
 | r+1,m,s,a,he=>by
  have ih:=fun m s a he=>valV_can hw hm hf r m s a he
  have hv:=fun m s a=>valV_valid hw hm hf r m s a
  have hb:=objF_num hw hm hf s a rfl
  unfold valV at he ⊢
  by_cases hn:(followF ls s a).e≠0∨(followF ls s a).w=0
  ·rw [if_pos hn]
   show canN (trimN nd0)≤m-m
   rw [can_nd0]
   omega
  ·rw [if_neg hn] at he
   rw [if_neg hn]
   have hco:=objF_cost hw hm hf s a _ rfl
   unfold bodyV at he ⊢
   generalize objF ls s a=q at *
   by_cases h1:q.2≠0
   ·rw [if_pos h1] at he
    exact absurd he h1
   rw [if_neg h1] at he
   rw [if_neg h1]
   by_cases h2:m<q.1.cost
   ·rw [if_pos h2] at he
    exact absurd he (by simp [errV])
   rw [if_neg h2] at he
   rw [if_neg h2]
   by_cases hz:q.1=ob0
   ·rw [hz]
    rw [if_neg (by simp [ob0]),if_pos (by simp [ob0])]
    show canN (trimN (.mk 2 0 0 (trimL (bytesOf (datW ls 0 0 0)) 0 0) []))≤m-(m-0)
    simp only [trimN,canN]
    rw [if_neg (by omega),if_neg (by omega),if_neg (by omega)]
    simp only [trimK,canK]
    unfold canOf
    rw [if_neg (by omega),if_neg (by omega),if_neg (by omega)]
    simp [wordsI,bitsI]
   obtain⟨c1,c2,c3⟩:=hco h1 hz
   by_cases h3:q.1.k=1
   ·rw [if_pos h3] at he
    rw [if_pos h3]
    have:=(structV_can hv ih (m-q.1.cost) q.1 (by omega) (by omega) (by omega) (by omega) he).1
    have:=c1 h3
    omega
   rw [if_neg h3] at he
   rw [if_neg h3]
   by_cases h4:q.1.el<6
   ·rw [if_pos h4]
    have hc2:=c2 h3 (by omega)
    simp only [trimN,canN]
    rw [if_neg (by omega),if_neg (by omega),if_neg (by omega)]
    simp only [trimK,canK]
    unfold canOf
    rw [if_neg (by omega),if_neg (by omega),if_neg (by omega)]
    omega
   ·rw [if_neg h4] at he
    rw [if_neg h4]
    have hl:=listV_can hv ih (m-q.1.cost) q.1 (by omega) (by omega) (by omega) (by omega) (by omega) (by omega) (by omega) he
    by_cases h66:q.1.el=6
    ·rw [if_pos h66] at hl
     have hc2:=c2 h3 (by omega)
     rw [h66] at hc2
     have e3:wordsI 6 q.1.n=q.1.n:=by unfold wordsI bitsI;simp;omega
     omega
    ·rw [if_neg h66] at hl
     have hc3:=c3 h3 (by omega)
     omega
theorem msg_can {ls:List (List Int)}(hw:Wd2 ls)(hm:ls.length≤40)(hf:∀j,(seg ls j).length≤20000000)(D X:Int)(he:(msgV ls D X).2=0):canN (msgV ls D X).1≤(measV ls D X).1:=by
 have h0:canN nd0=0:=by decide
 unfold msgV at he ⊢
 unfold measV
 by_cases h1:0<ls.length∧(seg ls 0).length=0
 ·rw [if_pos h1,if_pos h1]
  show canN nd0≤0
  omega
 ·rw [if_neg h1] at he
  rw [if_neg h1,if_neg h1]
  by_cases h2:(valV ls D.toNat (startI X) 0 0).e≠0
  ·rw [if_pos h2] at he;exact absurd he h2
  ·rw [if_neg h2,if_neg h2]
   exact valV_can hw hm hf _ _ _ _ (Classical.byContradiction h2)
def exF (k e n:Int)(ks:List Nd):Int:=if k=2∧e=7∧uniD ks ks.length+uniP ks ks.length=0 then n else 0
def costG (l:List Nd):Int:=canG l+exG l
theorem costN_mk (k e n:Int)(d:List Int)(ks:List Nd):costN (.mk k e n d ks)=canOf k e n d ks+exF k e n ks+if k=2∧e=7 then costG ks else costK ks:=by
 have h:exN (.mk k e n d ks)=exF k e n ks+if k=2∧e=7 then exG ks else exK ks:=by simp only [exN];rfl
 unfold costN
 rw [h]
 simp only [canN,costG,costK]
 split<;>omega
theorem costK_nil:costK []=0:=by simp [costK,canK,exK]
theorem exK_sum (l:List Nd):exK l=sumI exN l:=by
 induction l with
 | nil=>rfl
 | cons y ys ih=>simp only [exK,sumI,ih]
theorem exG_sum (l:List Nd):exG l=sumI (fun y=>exK y.ks) l:=by
 induction l with
 | nil=>rfl
 | cons y ys ih=>
  obtain⟨k,e,n,d,ks⟩:=y
  simp only [exG,sumI,ih,Nd.ks]
theorem sumI_add (F G:Nd→Int)(l:List Nd):sumI F l+sumI G l=sumI (fun y=>F y+G y) l:=by
 induction l with
 | nil=>simp [sumI]
 | cons y ys ih=>simp only [sumI,←ih];omega
theorem costK_sum (l:List Nd):costK l=sumI costN l:=by
 unfold costK
 rw [canK_sum,exK_sum,sumI_add]
 rfl
theorem costG_sum (l:List Nd):costG l=sumI (fun y=>costK y.ks) l:=by
 unfold costG
 rw [canG_sum,exG_sum,sumI_add]
 rfl
theorem cost_struct {d:List Int}{ks:List Nd}(h:validN (.mk 1 0 0 d ks)=true):costN (trimN (.mk 1 0 0 d ks))≤(d.length / 8+ks.length:Nat)+costK (trimK ks)∧(trimN (.mk 1 0 0 d ks)).d.length / 8≤d.length / 8∧(trimN (.mk 1 0 0 d ks)).ks.length≤ks.length∧costK (trimN (.mk 1 0 0 d ks)).ks≤costK (trimK ks):=by
 have hv:=valid_kids11 h
 have h8:=hv.2 rfl
 have hw:=wordsT_le d h8
 have hp:=ptrsT_le ks
 have hvt:∀y∈trimK ks,validN y=true:=by
  intro y hy
  rw [trimK_map] at hy
  obtain⟨z,hz,rfl⟩:=List.mem_map.1 hy
  exact valid_trim z (hv.1 z hz)
 have ht:costK ((trimK ks).take (ptrsT ks))≤costK (trimK ks):=(costK_take_le hvt _).2
 have e1:(d.take (8*wordsT d)).length=8*wordsT d:=by rw [List.length_take];omega
 have e2:((trimK ks).take (ptrsT ks)).length=ptrsT ks:=by rw [List.length_take,trimK_length];omega
 refine⟨?_,?_,?_,?_⟩
 ·simp only [trimN,if_pos,costN_mk]
  rw [if_neg (by omega)]
  unfold canOf exF
  rw [if_neg (by omega),if_pos rfl,e1,e2]
  omega
 ·simp only [trimN,if_pos,Nd.d]
  rw [e1]
  omega
 ·simp only [trimN,if_pos,Nd.ks]
  rw [e2]
  exact hp
 ·simp only [trimN,if_pos,Nd.ks]
  exact ht
theorem structV_cost {ls:List (List Int)}{val:Int→Int→Int→Val}(hv:∀m s a,validN (val m s a).n=true)(hc:∀m s a,(val m s a).e=0→costN (trimN (val m s a).n)≤m-(val m s a).m)(m:Int)(o:Ob)(h1:0≤o.d)(h2:o.d≤65535)(h3:0≤o.p)(h4:o.p≤65535)(he:(structV val ls m o).e=0):
  costN (trimN (structV val ls m o).n)≤o.d+o.p+(m-(structV val ls m o).m)∧((trimN (structV val ls m o).n).d.length / 8:Nat)≤o.d∧(trimN (structV val ls m o).n).ks.length≤o.p∧costK (trimN (structV val ls m o).n).ks≤m-(structV val ls m o).m:=by
 have hval:=(structV_valid hv ls m o h1 h2 h3 h4).1
 unfold structV at he hval ⊢
 by_cases h:(runK (fun m i=>val m o.sg (o.at'+o.d+i)) m o.p.toNat).e=0
 ·rw [if_neg (fun h'=>h' h)] at hval ⊢
  have hr:=runK_can (fun y=>costN (trimN y)) (f:=fun m i=>val m o.sg (o.at'+o.d+i)) (m:=m) o.p.toNat (fun m i _ he=>hc m _ _ he) h
  have hs:=cost_struct hval
  have hl:=runK_length h
  have hdl:=datW_le ls o.sg o.at' o.d
  have e1:costK (trimK (runK (fun m i=>val m o.sg (o.at'+o.d+i)) m o.p.toNat).ks)=sumI (fun y=>costN (trimN y)) (runK (fun m i=>val m o.sg (o.at'+o.d+i)) m o.p.toNat).ks:=by rw [costK_sum,trimK_map,sumI_map]
  have e2:(bytesOf (datW ls o.sg o.at' o.d)).length=8*(datW ls o.sg o.at' o.d).length:=bytesOf_length _
  rw [e1,hl,e2] at hs
  simp only
  omega
 ·rw [if_pos h] at he
  exact absurd he h
theorem listV_cost {ls:List (List Int)}{val:Int→Int→Int→Val}(hv:∀m s a,validN (val m s a).n=true)(hc:∀m s a,(val m s a).e=0→costN (trimN (val m s a).n)≤m-(val m s a).m)(m:Int)(o:Ob)(h1:0≤o.d)(h2:o.d≤65535)(h3:0≤o.p)(h4:o.p≤65535)(h5:0≤o.n)(h6:6≤o.el)(h7:o.el≤7)(he:(listV val ls m o).e=0):
  costN (trimN (listV val ls m o).n)≤(if o.el=6 then o.n else 1+o.n*(o.d+o.p)+(if o.d+o.p=0 then o.n else 0))+(m-(listV val ls m o).m):=by
 unfold listV at he ⊢
 by_cases h:(runK (elemV val ls o) m o.n.toNat).e=0
 ·rw [if_neg (fun h'=>h' h)]
  by_cases h66:o.el=6
  ·rw [if_pos h66]
   have hr:=runK_can (fun y=>costN (trimN y)) (f:=elemV val ls o) (m:=m) o.n.toNat (fun m i _ he=>by
    unfold elemV at he ⊢
    rw [if_pos h66] at he ⊢
    exact hc m _ _ he) h
   simp only [trimN,costN_mk]
   rw [if_neg (by omega),if_neg (by omega),if_neg (by omega)]
   unfold canOf exF
   rw [if_neg (by omega),if_neg (by omega),if_neg (by omega),costK_sum,trimK_map,sumI_map,h66]
   have e3:wordsI 6 o.n=o.n:=by unfold wordsI bitsI;simp;omega
   omega
  ·have h77:o.el=7:=by omega
   rw [if_neg h66]
   have hk:∀y∈(runK (elemV val ls o) m o.n.toNat).ks,((trimN y).d.length / 8:Nat)≤o.d∧(trimN y).ks.length≤o.p:=runK_all (fun y=>(((trimN y).d.length / 8:Nat):Int)≤o.d∧((trimN y).ks.length:Int)≤o.p) _ (fun m i _ he=>by
    unfold elemV at he ⊢
    rw [if_neg h66] at he ⊢
    have:=structV_cost hv hc m (eleO o i) h1 h2 h3 h4 he
    exact⟨this.2.1,this.2.2.1⟩)
   have hr:=runK_can (fun y=>costK (trimN y).ks) (f:=elemV val ls o) (m:=m) o.n.toNat (fun m i _ he=>by
    unfold elemV at he ⊢
    rw [if_neg h66] at he ⊢
    exact(structV_cost hv hc m (eleO o i) h1 h2 h3 h4 he).2.2.2) h
   have hl:=runK_length h
   generalize (runK (elemV val ls o) m o.n.toNat).ks=ks at *
   have hkt:∀y∈trimK ks,y.d.length / 8≤o.d.toNat∧y.ks.length≤o.p.toNat:=by
    intro y hy
    rw [trimK_map] at hy
    obtain⟨z,hz,rfl⟩:=List.mem_map.1 hy
    have:=hk z hz
    omega
   have hu:=uniD_le (trimK ks) o.d.toNat (trimK ks).length (Nat.le_refl _) (fun y hy=>(hkt y hy).1)
   have hp:=uniP_le (trimK ks) o.p.toNat (trimK ks).length (Nat.le_refl _) (fun y hy=>(hkt y hy).2)
   simp only [trimN,costN_mk]
   rw [if_neg (by omega),if_neg (by omega),if_pos ⟨trivial,h77⟩]
   unfold canOf exF
   rw [if_neg (by omega),if_neg (by omega),if_pos h77,costG_sum,trimK_map,sumI_map]
   rw [trimK_map] at hu hp
   have hmul:o.n*((uniD (ks.map trimN) (ks.map trimN).length+uniP (ks.map trimN) (ks.map trimN).length:Nat):Int)≤o.n*(o.d+o.p):=Int.mul_le_mul_of_nonneg_left (by omega) h5
   by_cases hU:uniD (ks.map trimN) (ks.map trimN).length+uniP (ks.map trimN) (ks.map trimN).length=0
   ·have hz0:o.n*((uniD (ks.map trimN) (ks.map trimN).length+uniP (ks.map trimN) (ks.map trimN).length:Nat):Int)=0:=by rw [hU];simp
    rw [if_pos ⟨rfl,h77,hU⟩]
    rcases(by omega:o.d+o.p=0∨0<o.d+o.p) with h0|h0
    ·rw [if_pos h0]
     omega
    ·have h1n:o.n*1≤o.n*(o.d+o.p):=Int.mul_le_mul_of_nonneg_left (by omega) h5
     rw [if_neg (show ¬(o.d+o.p=0) by omega)]
     omega
   ·rw [if_neg (fun h=>hU h.2.2)]
    split<;>omega
 ·rw [if_pos h] at he
  exact absurd he h
theorem objF_cost2 {ls:List (List Int)}(hw:Wd2 ls)(hm:ls.length≤40)(hf:∀j,(seg ls j).length≤20000000)(s a:Int)(q:Ob×Int)(hq:objF ls s a=q)(h1:¬q.2≠0)(h0:q.1≠ob0):
  (q.1.k=1→q.1.d+q.1.p=q.1.cost)∧(¬q.1.k=1→q.1.el<7→q.1.cost=wordsI q.1.el q.1.n)∧(¬q.1.k=1→q.1.el=7→1+q.1.n*(q.1.d+q.1.p)+(if q.1.d+q.1.p=0 then q.1.n else 0)≤q.1.cost):=by
 have h:=objF_cases hw (by omega) (fun j=>by have:=hf j;omega) s a
 rw [hq] at h
 obtain⟨⟨k,sg,at',d,p,el,n,cost⟩,e⟩:=q
 simp only [ob0,Ob.mk.injEq,ne_eq] at h h1 h0 ⊢
 rcases h with ⟨h2,h4⟩|⟨-,rfl,rfl,rfl,h5,h6,h7,h8,rfl,h9⟩|⟨-,rfl,h4,h5,h6,h7,rfl,rfl,rfl,h8⟩|⟨-,rfl,rfl,h4,h5,h6,h7,h8,h9,c,h10,h11,h12,h13,rfl⟩
 ·exact absurd h2 h0
 ·exact⟨fun _=>rfl,fun h=>absurd rfl h,fun h=>absurd rfl h⟩
 ·exact⟨fun h=>by omega,fun _ _=>rfl,fun _ h=>by omega⟩
 ·exact⟨fun h=>by omega,fun _ h=>by omega,fun _ _=>by split<;>omega⟩
theorem cost_nd0:costN (trimN nd0)=0:=by decide
theorem valV_cost {ls:List (List Int)}(hw:Wd2 ls)(hm:ls.length≤40)(hf:∀j,(seg ls j).length≤20000000):∀r m s a,(valV ls r m s a).e=0→costN (trimN (valV ls r m s a).n)≤m-(valV ls r m s a).m
 | 0,m,s,a,he=>by
  unfold valV at he ⊢
  by_cases hn:(followF ls s a).e≠0∨(followF ls s a).w=0
  ·rw [if_pos hn]
   show costN (trimN nd0)≤m-m
   rw [cost_nd0]
   omega
  ·rw [if_neg hn] at he
   exact absurd he (by simp [errV])
 | r+1,m,s,a,he=>by
  have ih:=fun m s a he=>valV_cost hw hm hf r m s a he
  have hv:=fun m s a=>valV_valid hw hm hf r m s a
  have hb:=objF_num hw hm hf s a rfl
  unfold valV at he ⊢
  by_cases hn:(followF ls s a).e≠0∨(followF ls s a).w=0
  ·rw [if_pos hn]
   show costN (trimN nd0)≤m-m
   rw [cost_nd0]
   omega
  ·rw [if_neg hn] at he
   rw [if_neg hn]
   have hco:=objF_cost2 hw hm hf s a _ rfl
   unfold bodyV at he ⊢
   generalize objF ls s a=q at *
   by_cases h1:q.2≠0
   ·rw [if_pos h1] at he
    exact absurd he h1
   rw [if_neg h1] at he
   rw [if_neg h1]
   by_cases h2:m<q.1.cost
   ·rw [if_pos h2] at he
    exact absurd he (by simp [errV])
   rw [if_neg h2] at he
   rw [if_neg h2]
   by_cases hz:q.1=ob0
   ·rw [hz]
    rw [if_neg (by simp [ob0]),if_pos (by simp [ob0])]
    show costN (trimN (.mk 2 0 0 (trimL (bytesOf (datW ls 0 0 0)) 0 0) []))≤m-(m-0)
    simp only [trimN,costN_mk]
    rw [if_neg (by omega),if_neg (by omega),if_neg (by omega)]
    simp only [trimK,costK_nil]
    unfold canOf exF
    rw [if_neg (by omega),if_neg (by omega),if_neg (by omega)]
    simp [wordsI,bitsI]
   obtain⟨c1,c2,c3⟩:=hco h1 hz
   by_cases h3:q.1.k=1
   ·rw [if_pos h3] at he
    rw [if_pos h3]
    have:=(structV_cost hv ih (m-q.1.cost) q.1 (by omega) (by omega) (by omega) (by omega) he).1
    have:=c1 h3
    omega
   rw [if_neg h3] at he
   rw [if_neg h3]
   by_cases h4:q.1.el<6
   ·rw [if_pos h4]
    have hc2:=c2 h3 (by omega)
    simp only [trimN,costN_mk]
    rw [if_neg (by omega),if_neg (by omega),if_neg (by omega)]
    simp only [trimK,costK_nil]
    unfold canOf exF
    rw [if_neg (by omega),if_neg (by omega),if_neg (by omega)]
    omega
   ·rw [if_neg h4] at he
    rw [if_neg h4]
    have hl:=listV_cost hv ih (m-q.1.cost) q.1 (by omega) (by omega) (by omega) (by omega) (by omega) (by omega) (by omega) he
    by_cases h66:q.1.el=6
    ·rw [if_pos h66] at hl
     have hc2:=c2 h3 (by omega)
     rw [h66] at hc2
     have e3:wordsI 6 q.1.n=q.1.n:=by unfold wordsI bitsI;simp;omega
     omega
    ·rw [if_neg h66] at hl
     have hc3:=c3 h3 (by omega)
     omega
theorem msg_cost {ls:List (List Int)}(hw:Wd2 ls)(hm:ls.length≤40)(hf:∀j,(seg ls j).length≤20000000)(D X:Int)(he:(msgV ls D X).2=0):costN (msgV ls D X).1≤(measV ls D X).1:=by
 have h0:costN nd0=0:=by decide
 unfold msgV at he ⊢
 unfold measV
 by_cases h1:0<ls.length∧(seg ls 0).length=0
 ·rw [if_pos h1,if_pos h1]
  show costN nd0≤0
  omega
 ·rw [if_neg h1] at he
  rw [if_neg h1,if_neg h1]
  by_cases h2:(valV ls D.toNat (startI X) 0 0).e≠0
  ·rw [if_pos h2] at he;exact absurd he h2
  ·rw [if_neg h2,if_neg h2]
   exact valV_cost hw hm hf _ _ _ _ (Classical.byContradiction h2)
end Go.Proofs.YtfaflahfjgnphaaGreatDoor
