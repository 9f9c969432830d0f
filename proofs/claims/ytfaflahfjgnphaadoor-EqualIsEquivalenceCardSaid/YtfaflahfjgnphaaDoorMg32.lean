/- The texts Cost, TrimB, FrameNum (what is wanted of them), one after the other. -/
import Derived.Test.YtfaflahfjgnphaaDoorMg27
import Derived.Test.YtfaflahfjgnphaaDoorMg31
import Derived.Lib.SliceRun
namespace Go.Proofs.YtfaflahfjgnphaaDoor
open Go.ChangeShapes Go.WideShapes Go.ChangeAt Go.RowKit
set_option linter.unusedVariables false
set_option linter.unusedSimpArgs false
set_option maxRecDepth 100000
def exF (k e n:Int)(ks:List Nd):Int:=if k=2∧e=7∧uniD ks ks.length+uniP ks ks.length=0 then n else 0
def costG (l:List Nd):Int:=canG l+exG l
theorem costN_mk (k e n:Int)(d:List Int)(ks:List Nd):costN (.mk k e n d ks)=canOf k e n d ks+exF k e n ks+if k=2∧e=7 then costG ks else costK ks:=by
 have h:exN (.mk k e n d ks)=exF k e n ks+if k=2∧e=7 then exG ks else exK ks:=by simp only [exN];rfl
 unfold costN
 rw [h]
 simp only [canN,costG,costK]
 split<;>omega
theorem costK_nil:costK []=0:=by simp [costK,canK,exK]
theorem exK_sum (l:List Nd):exK l=sumI exN l:=by
 induction l with
 | nil=>rfl
 | cons y ys ih=>simp only [exK,sumI,ih]
theorem exG_sum (l:List Nd):exG l=sumI (fun y=>exK y.ks) l:=by
 induction l with
 | nil=>rfl
 | cons y ys ih=>
  obtain⟨k,e,n,d,ks⟩:=y
  simp only [exG,sumI,ih,Nd.ks]
theorem sumI_add (F G:Nd→Int)(l:List Nd):sumI F l+sumI G l=sumI (fun y=>F y+G y) l:=by
 induction l with
 | nil=>simp [sumI]
 | cons y ys ih=>simp only [sumI,←ih];omega
theorem costK_sum (l:List Nd):costK l=sumI costN l:=by
 unfold costK
 rw [canK_sum,exK_sum,sumI_add]
 rfl
theorem costG_sum (l:List Nd):costG l=sumI (fun y=>costK y.ks) l:=by
 unfold costG
 rw [canG_sum,exG_sum,sumI_add]
 rfl
theorem cost_struct {d:List Int}{ks:List Nd}(h:validN (.mk 1 0 0 d ks)=true):costN (trimN (.mk 1 0 0 d ks))≤(d.length / 8+ks.length:Nat)+costK (trimK ks)∧(trimN (.mk 1 0 0 d ks)).d.length / 8≤d.length / 8∧(trimN (.mk 1 0 0 d ks)).ks.length≤ks.length∧costK (trimN (.mk 1 0 0 d ks)).ks≤costK (trimK ks):=by
 have hv:=valid_kids11 h
 have h8:=hv.2 rfl
 have hw:=wordsT_le d h8
 have hp:=ptrsT_le ks
 have hvt:∀y∈trimK ks,validN y=true:=by
  intro y hy
  rw [trimK_map] at hy
  obtain⟨z,hz,rfl⟩:=List.mem_map.1 hy
  exact valid_trim z (hv.1 z hz)
 have ht:costK ((trimK ks).take (ptrsT ks))≤costK (trimK ks):=(costK_take_le hvt _).2
 have e1:(d.take (8*wordsT d)).length=8*wordsT d:=by rw [List.length_take];omega
 have e2:((trimK ks).take (ptrsT ks)).length=ptrsT ks:=by rw [List.length_take,trimK_length];omega
 refine⟨?_,?_,?_,?_⟩
 ·simp only [trimN,if_pos,costN_mk]
  rw [if_neg (by omega)]
  unfold canOf exF
  rw [if_neg (by omega),if_pos rfl,e1,e2]
  omega
 ·simp only [trimN,if_pos,Nd.d]
  rw [e1]
  omega
 ·simp only [trimN,if_pos,Nd.ks]
  rw [e2]
  exact hp
 ·simp only [trimN,if_pos,Nd.ks]
  exact ht
theorem structV_cost {ls:List (List Int)}{val:Int→Int→Int→Val}(hv:∀m s a,validN (val m s a).n=true)(hc:∀m s a,(val m s a).e=0→costN (trimN (val m s a).n)≤m-(val m s a).m)(m:Int)(o:Ob)(h1:0≤o.d)(h2:o.d≤65535)(h3:0≤o.p)(h4:o.p≤65535)(he:(structV val ls m o).e=0):
  costN (trimN (structV val ls m o).n)≤o.d+o.p+(m-(structV val ls m o).m)∧((trimN (structV val ls m o).n).d.length / 8:Nat)≤o.d∧(trimN (structV val ls m o).n).ks.length≤o.p∧costK (trimN (structV val ls m o).n).ks≤m-(structV val ls m o).m:=by
 have hval:=(structV_valid hv ls m o h1 h2 h3 h4).1
 unfold structV at he hval ⊢
 by_cases h:(runK (fun m i=>val m o.sg (o.at'+o.d+i)) m o.p.toNat).e=0
 ·rw [if_neg (fun h'=>h' h)] at hval ⊢
  have hr:=runK_can (fun y=>costN (trimN y)) (f:=fun m i=>val m o.sg (o.at'+o.d+i)) (m:=m) o.p.toNat (fun m i _ he=>hc m _ _ he) h
  have hs:=cost_struct hval
  have hl:=runK_length h
  have hdl:=datW_le ls o.sg o.at' o.d
  have e1:costK (trimK (runK (fun m i=>val m o.sg (o.at'+o.d+i)) m o.p.toNat).ks)=sumI (fun y=>costN (trimN y)) (runK (fun m i=>val m o.sg (o.at'+o.d+i)) m o.p.toNat).ks:=by rw [costK_sum,trimK_map,sumI_map]
  have e2:(bytesOf (datW ls o.sg o.at' o.d)).length=8*(datW ls o.sg o.at' o.d).length:=bytesOf_length _
  rw [e1,hl,e2] at hs
  simp only
  omega
 ·rw [if_pos h] at he
  exact absurd he h
theorem listV_cost {ls:List (List Int)}{val:Int→Int→Int→Val}(hv:∀m s a,validN (val m s a).n=true)(hc:∀m s a,(val m s a).e=0→costN (trimN (val m s a).n)≤m-(val m s a).m)(m:Int)(o:Ob)(h1:0≤o.d)(h2:o.d≤65535)(h3:0≤o.p)(h4:o.p≤65535)(h5:0≤o.n)(h6:6≤o.el)(h7:o.el≤7)(he:(listV val ls m o).e=0):
  costN (trimN (listV val ls m o).n)≤(if o.el=6 then o.n else 1+o.n*(o.d+o.p)+(if o.d+o.p=0 then o.n else 0))+(m-(listV val ls m o).m):=by
 unfold listV at he ⊢
 by_cases h:(runK (elemV val ls o) m o.n.toNat).e=0
 ·rw [if_neg (fun h'=>h' h)]
  by_cases h66:o.el=6
  ·rw [if_pos h66]
   have hr:=runK_can (fun y=>costN (trimN y)) (f:=elemV val ls o) (m:=m) o.n.toNat (fun m i _ he=>by
    unfold elemV at he ⊢
    rw [if_pos h66] at he ⊢
    exact hc m _ _ he) h
   simp only [trimN,costN_mk]
   rw [if_neg (by omega),if_neg (by omega),if_neg (by omega)]
   unfold canOf exF
   rw [if_neg (by omega),if_neg (by omega),if_neg (by omega),costK_sum,trimK_map,sumI_map,h66]
   have e3:wordsI 6 o.n=o.n:=by unfold wordsI bitsI;simp;omega
   omega
  ·have h77:o.el=7:=by omega
   rw [if_neg h66]
   have hk:∀y∈(runK (elemV val ls o) m o.n.toNat).ks,((trimN y).d.length / 8:Nat)≤o.d∧(trimN y).ks.length≤o.p:=runK_all (fun y=>(((trimN y).d.length / 8:Nat):Int)≤o.d∧((trimN y).ks.length:Int)≤o.p) _ (fun m i _ he=>by
    unfold elemV at he ⊢
    rw [if_neg h66] at he ⊢
    have:=structV_cost hv hc m (eleO o i) h1 h2 h3 h4 he
    exact⟨this.2.1,this.2.2.1⟩)
   have hr:=runK_can (fun y=>costK (trimN y).ks) (f:=elemV val ls o) (m:=m) o.n.toNat (fun m i _ he=>by
    unfold elemV at he ⊢
    rw [if_neg h66] at he ⊢
    exact(structV_cost hv hc m (eleO o i) h1 h2 h3 h4 he).2.2.2) h
   have hl:=runK_length h
   generalize (runK (elemV val ls o) m o.n.toNat).ks=ks at *
   have hkt:∀y∈trimK ks,y.d.length / 8≤o.d.toNat∧y.ks.length≤o.p.toNat:=by
    intro y hy
    rw [trimK_map] at hy
    obtain⟨z,hz,rfl⟩:=List.mem_map.1 hy
    have:=hk z hz
    omega
   have hu:=uniD_le (trimK ks) o.d.toNat (trimK ks).length (Nat.le_refl _) (fun y hy=>(hkt y hy).1)
   have hp:=uniP_le (trimK ks) o.p.toNat (trimK ks).length (Nat.le_refl _) (fun y hy=>(hkt y hy).2)
   simp only [trimN,costN_mk]
   rw [if_neg (by omega),if_neg (by omega),if_pos ⟨trivial,h77⟩]
   unfold canOf exF
   rw [if_neg (by omega),if_neg (by omega),if_pos h77,costG_sum,trimK_map,sumI_map]
   rw [trimK_map] at hu hp
   have hmul:o.n*((uniD (ks.map trimN) (ks.map trimN).length+uniP (ks.map trimN) (ks.map trimN).length:Nat):Int)≤o.n*(o.d+o.p):=Int.mul_le_mul_of_nonneg_left (by omega) h5
   by_cases hU:uniD (ks.map trimN) (ks.map trimN).length+uniP (ks.map trimN) (ks.map trimN).length=0
   ·have hz0:o.n*((uniD (ks.map trimN) (ks.map trimN).length+uniP (ks.map trimN) (ks.map trimN).length:Nat):Int)=0:=by rw [hU];simp
    rw [if_pos ⟨rfl,h77,hU⟩]
    rcases(by omega:o.d+o.p=0∨0<o.d+o.p) with h0|h0
    ·rw [if_pos h0]
     omega
    ·have h1n:o.n*1≤o.n*(o.d+o.p):=Int.mul_le_mul_of_nonneg_left (by omega) h5
     rw [if_neg (show ¬(o.d+o.p=0) by omega)]
     omega
   ·rw [if_neg (fun h=>hU h.2.2)]
    split<;>omega
 ·rw [if_pos h] at he
  exact absurd he h
theorem objF_cost2 {ls:List (List Int)}(hw:Wd2 ls)(hm:ls.length≤40)(hf:∀j,(seg ls j).length≤20000000)(s a:Int)(q:Ob×Int)(hq:objF ls s a=q)(h1:¬q.2≠0)(h0:q.1≠ob0):
  (q.1.k=1→q.1.d+q.1.p=q.1.cost)∧(¬q.1.k=1→q.1.el<7→q.1.cost=wordsI q.1.el q.1.n)∧(¬q.1.k=1→q.1.el=7→1+q.1.n*(q.1.d+q.1.p)+(if q.1.d+q.1.p=0 then q.1.n else 0)≤q.1.cost):=by
 have h:=objF_cases hw (by omega) (fun j=>by have:=hf j;omega) s a
 rw [hq] at h
 obtain⟨⟨k,sg,at',d,p,el,n,cost⟩,e⟩:=q
 simp only [ob0,Ob.mk.injEq,ne_eq] at h h1 h0 ⊢
 rcases h with ⟨h2,h4⟩|⟨-,rfl,rfl,rfl,h5,h6,h7,h8,rfl,h9⟩|⟨-,rfl,h4,h5,h6,h7,rfl,rfl,rfl,h8⟩|⟨-,rfl,rfl,h4,h5,h6,h7,h8,h9,c,h10,h11,h12,h13,rfl⟩
 ·exact absurd h2 h0
 ·exact⟨fun _=>rfl,fun h=>absurd rfl h,fun h=>absurd rfl h⟩
 ·exact⟨fun h=>by omega,fun _ _=>rfl,fun _ h=>by omega⟩
 ·exact⟨fun h=>by omega,fun _ h=>by omega,fun _ _=>by split<;>omega⟩
theorem cost_nd0:costN (trimN nd0)=0:=by decide
theorem valV_cost {ls:List (List Int)}(hw:Wd2 ls)(hm:ls.length≤40)(hf:∀j,(seg ls j).length≤20000000):∀r m s a,(valV ls r m s a).e=0→costN (trimN (valV ls r m s a).n)≤m-(valV ls r m s a).m
 | 0,m,s,a,he=>by
  unfold valV at he ⊢
  by_cases hn:(followF ls s a).e≠0∨(followF ls s a).w=0
  ·rw [if_pos hn]
   show costN (trimN nd0)≤m-m
   rw [cost_nd0]
   omega
  ·rw [if_neg hn] at he
   exact absurd he (by simp [errV])
 | r+1,m,s,a,he=>by
  have ih:=fun m s a he=>valV_cost hw hm hf r m s a he
  have hv:=fun m s a=>valV_valid hw hm hf r m s a
  have hb:=objF_num hw hm hf s a rfl
  unfold valV at he ⊢
  by_cases hn:(followF ls s a).e≠0∨(followF ls s a).w=0
  ·rw [if_pos hn]
   show costN (trimN nd0)≤m-m
   rw [cost_nd0]
   omega
  ·rw [if_neg hn] at he
   rw [if_neg hn]
   have hco:=objF_cost2 hw hm hf s a _ rfl
   unfold bodyV at he ⊢
   generalize objF ls s a=q at *
   by_cases h1:q.2≠0
   ·rw [if_pos h1] at he
    exact absurd he h1
   rw [if_neg h1] at he
   rw [if_neg h1]
   by_cases h2:m<q.1.cost
   ·rw [if_pos h2] at he
    exact absurd he (by simp [errV])
   rw [if_neg h2] at he
   rw [if_neg h2]
   by_cases hz:q.1=ob0
   ·rw [hz]
    rw [if_neg (by simp [ob0]),if_pos (by simp [ob0])]
    show costN (trimN (.mk 2 0 0 (trimL (bytesOf (datW ls 0 0 0)) 0 0) []))≤m-(m-0)
    simp only [trimN,costN_mk]
    rw [if_neg (by omega),if_neg (by omega),if_neg (by omega)]
    simp only [trimK,costK_nil]
    unfold canOf exF
    rw [if_neg (by omega),if_neg (by omega),if_neg (by omega)]
    simp [wordsI,bitsI]
   obtain⟨c1,c2,c3⟩:=hco h1 hz
   by_cases h3:q.1.k=1
   ·rw [if_pos h3] at he
    rw [if_pos h3]
    have:=(structV_cost hv ih (m-q.1.cost) q.1 (by omega) (by omega) (by omega) (by omega) he).1
    have:=c1 h3
    omega
   rw [if_neg h3] at he
   rw [if_neg h3]
   by_cases h4:q.1.el<6
   ·rw [if_pos h4]
    have hc2:=c2 h3 (by omega)
    simp only [trimN,costN_mk]
    rw [if_neg (by omega),if_neg (by omega),if_neg (by omega)]
    simp only [trimK,costK_nil]
    unfold canOf exF
    rw [if_neg (by omega),if_neg (by omega),if_neg (by omega)]
    omega
   ·rw [if_neg h4] at he
    rw [if_neg h4]
    have hl:=listV_cost hv ih (m-q.1.cost) q.1 (by omega) (by omega) (by omega) (by omega) (by omega) (by omega) (by omega) he
    by_cases h66:q.1.el=6
    ·rw [if_pos h66] at hl
     have hc2:=c2 h3 (by omega)
     rw [h66] at hc2
     have e3:wordsI 6 q.1.n=q.1.n:=by unfold wordsI bitsI;simp;omega
     omega
    ·rw [if_neg h66] at hl
     have hc3:=c3 h3 (by omega)
     omega
theorem msg_cost {ls:List (List Int)}(hw:Wd2 ls)(hm:ls.length≤40)(hf:∀j,(seg ls j).length≤20000000)(D X:Int)(he:(msgV ls D X).2=0):costN (msgV ls D X).1≤(measV ls D X).1:=by
 have h0:costN nd0=0:=by decide
 unfold msgV at he ⊢
 unfold measV
 by_cases h1:0<ls.length∧(seg ls 0).length=0
 ·rw [if_pos h1,if_pos h1]
  show costN nd0≤0
  omega
 ·rw [if_neg h1] at he
  rw [if_neg h1,if_neg h1]
  by_cases h2:(valV ls D.toNat (startI X) 0 0).e≠0
  ·rw [if_pos h2] at he;exact absurd he h2
  ·rw [if_neg h2,if_neg h2]
   exact valV_cost hw hm hf _ _ _ _ (Classical.byContradiction h2)
theorem KsR.take {w:World}{B:Option Addr}{ts:List Nd}(h:KsR w B ts)(K:Nat):KsR w B (ts.take K):=by
 rcases h with rfl|⟨b,off,hB,h⟩
 ·exact .inl (by simp)
 ·refine .inr ⟨b,off,hB,fun j hj=>?_⟩
  rw [List.length_take] at hj
  have:=h j (by omega)
  rw [List.getElem_take]
  exact this
def Unv (w:World)(A:Option Addr):Prop:=∀b off,A=some ⟨b,off,none⟩→b<w.heap.size∧∀o,w.frozen? ⟨b,o,none⟩=false
theorem Unv.below {w w':World}{A:Option Addr}(h:Unv w A){N:Nat}(hb:Below N w w')(hN:w.heap.size≤N):Unv w' A:=by
 intro b off e
 obtain⟨h1,h2⟩:=h b off e
 exact⟨Nat.lt_of_lt_of_le h1 hb.size,fun o=>by rw [hb.frozen (p:=⟨b,o,none⟩) (by show b<N;omega)];exact h2 o⟩
theorem Unv.set {w:World}{A:Option Addr}(h:Unv w A)(p:Addr)(v:Value):Unv (w.setCell p v) A:=by
 intro b off e
 obtain⟨h1,h2⟩:=h b off e
 exact⟨by simpa using h1,fun o=>by rw [World.frozen?_setCell];exact h2 o⟩
structure RowT (q n i:Nat) (ts:List Nd) (W:World):Prop where
 cell:∀o,o<n*5→∃u,W.cell? ⟨q,o,none⟩=some u
 free:∀o,W.frozen? ⟨q,o,none⟩=false
 lt:q<W.heap.size
 done:∀j (hj:j<ts.length),j<i→∃A' c' B' c2' lo hi,q<lo∧hi≤W.heap.size∧NdO lo hi W A' c' B' c2' (ts[j])∧Unv W A'∧∀o,o<5→W.cell? ⟨q,j*5+o,none⟩=(fiveC (ts[j]) A' c' B' c2')[o]?
theorem RowT.below {q n i:Nat}{ts:List Nd}{W W':World}(h:RowT q n i ts W){N:Nat}(hb:Below N W W')(hN:W.heap.size≤N):RowT q n i ts W':=by
 have hlt:=h.lt
 have hc:∀o,W'.cell? ⟨q,o,none⟩=W.cell? ⟨q,o,none⟩:=fun o=>hb.cell (p:=⟨q,o,none⟩) (by show q<N;omega)
 refine⟨fun o ho=>?_,fun o=>?_,Nat.lt_of_lt_of_le hlt hb.size,fun j hj hi=>?_⟩
 ·obtain⟨u,hu⟩:=h.cell o ho
  exact⟨u,(hc o).trans hu⟩
 ·rw [hb.frozen (p:=⟨q,o,none⟩) (by show q<N;omega)]
  exact h.free o
 ·obtain⟨A',c',B',c2',lo,hi',h1,h2,h3,h4,h5⟩:=h.done j hj hi
  exact⟨A',c',B',c2',lo,hi',h1,Nat.le_trans h2 hb.size,h3.below hb (by omega),h4.below hb hN,fun o ho=>(hc _).trans (h5 o ho)⟩
theorem RowT.set {q n i:Nat}{ts:List Nd}{W:World}(h:RowT q n i ts W){p:Nat}(hp:i*5≤p)(v:Value):RowT q n i ts (W.setCell ⟨q,p,none⟩ v):=by
 have hd:∀o,p≠o→(W.setCell ⟨q,p,none⟩ v).cell? ⟨q,o,none⟩=W.cell? ⟨q,o,none⟩:=fun o ho=>cell_diff (fun e=>by injection e with e1 e2;exact ho e2)
 refine⟨fun o ho=>?_,fun o=>by rw [World.frozen?_setCell];exact h.free o,by simpa using h.lt,fun j hj hi=>?_⟩
 ·obtain⟨u,hu⟩:=h.cell o ho
  by_cases e:p=o
  ·subst e
   exact⟨v,cell_same hu⟩
  ·exact⟨u,(hd o e).trans hu⟩
 ·obtain⟨A',c',B',c2',lo,hi',h1,h2,h3,h4,h5⟩:=h.done j hj hi
  exact⟨A',c',B',c2',lo,hi',h1,by simpa using h2,h3.to fun k k1 _=>Below.heap_setCell _ _ _ _ (by show k≠q;omega),h4.set _ _,fun o ho=>(hd _ (by omega)).trans (h5 o ho)⟩
theorem RowT.other {q n i:Nat}{ts:List Nd}{W:World}(h:RowT q n i ts W){p:Addr}(hp:p.block<q)(v:Value):RowT q n i ts (W.setCell p v):=by
 have hd:∀o,(W.setCell p v).cell? ⟨q,o,none⟩=W.cell? ⟨q,o,none⟩:=fun o=>cell_diff (fun e=>by subst e;exact Nat.lt_irrefl _ hp)
 refine⟨fun o ho=>?_,fun o=>by rw [World.frozen?_setCell];exact h.free o,by simpa using h.lt,fun j hj hi=>?_⟩
 ·obtain⟨u,hu⟩:=h.cell o ho
  exact⟨u,(hd o).trans hu⟩
 ·obtain⟨A',c',B',c2',lo,hi',h1,h2,h3,h4,h5⟩:=h.done j hj hi
  exact⟨A',c',B',c2',lo,hi',h1,by simpa using h2,h3.to fun k k1 _=>Below.heap_setCell _ _ _ _ (by omega),h4.set _ _,fun o ho=>(hd _).trans (h5 o ho)⟩
theorem RowT.next {q n i:Nat}{ts:List Nd}{W:World}(h:RowT q n i ts W)(hn:i<n)(hl:i<ts.length){A':Option Addr}{c':Nat}{B':Option Addr}{c2' lo hi:Nat}(h1:q<lo)(h2:hi≤W.heap.size)(h3:NdO lo hi W A' c' B' c2' (ts[i]))(h4:Unv W A'):
  RowT q n (i+1) ts (((((W.setCell ⟨q,i*5,none⟩ (.int .i64 (ts[i]).k)).setCell ⟨q,i*5+1,none⟩ (.int .i64 (ts[i]).e)).setCell ⟨q,i*5+2,none⟩ (.int .i64 (ts[i]).n)).setCell ⟨q,i*5+3,none⟩ (.slice A' (ts[i]).d.length c')).setCell ⟨q,i*5+4,none⟩ (.slice B' (ts[i]).ks.length c2')):=by
 have hr:=((((h.set (p:=i*5) (by omega) (.int .i64 (ts[i]).k)).set (p:=i*5+1) (by omega) (.int .i64 (ts[i]).e)).set (p:=i*5+2) (by omega) (.int .i64 (ts[i]).n)).set (p:=i*5+3) (by omega) (.slice A' (ts[i]).d.length c')).set (p:=i*5+4) (by omega) (.slice B' (ts[i]).ks.length c2')
 refine⟨hr.cell,hr.free,hr.lt,fun j hj hi2=>?_⟩
 by_cases e:j<i
 ·exact hr.done j hj e
 obtain rfl:j=i:=by omega
 have hg:∀(w:World) k p v,lo≤k→(w.setCell ⟨q,p,none⟩ v).heap[k]?=w.heap[k]?:=fun w k p v hk=>Below.heap_setCell _ _ _ _ (by show k≠q;omega)
 refine⟨A',c',B',c2',lo,hi,h1,by simpa using h2,h3.to fun k k1 _=>by rw [hg _ _ _ _ k1,hg _ _ _ _ k1,hg _ _ _ _ k1,hg _ _ _ _ k1,hg _ _ _ _ k1],((((h4.set _ _).set _ _).set _ _).set _ _).set _ _,fun o ho=>?_⟩
 have d:∀(w:World) (p r:Nat) v,p≠r→(w.setCell ⟨q,p,none⟩ v).cell? ⟨q,r,none⟩=w.cell? ⟨q,r,none⟩:=fun w p r v hpr=>cell_diff (fun e=>by injection e with e1 e2;exact hpr e2)
 have c0:=fun o (ho:o<5)=>h.cell (j*5+o) (by omega)
 have:o=0∨o=1∨o=2∨o=3∨o=4:=by omega
 rcases this with rfl|rfl|rfl|rfl|rfl
 ·obtain⟨u,hu⟩:=c0 0 (by omega)
  rw [d _ _ _ _ (by omega),d _ _ _ _ (by omega),d _ _ _ _ (by omega),d _ _ _ _ (by omega)]
  exact cell_same hu
 ·obtain⟨u,hu⟩:=c0 1 (by omega)
  rw [d _ _ _ _ (by omega),d _ _ _ _ (by omega),d _ _ _ _ (by omega)]
  exact cell_same (u:=u) (by rw [d _ _ _ _ (by omega)];exact hu)
 ·obtain⟨u,hu⟩:=c0 2 (by omega)
  rw [d _ _ _ _ (by omega),d _ _ _ _ (by omega)]
  exact cell_same (u:=u) (by rw [d _ _ _ _ (by omega),d _ _ _ _ (by omega)];exact hu)
 ·obtain⟨u,hu⟩:=c0 3 (by omega)
  rw [d _ _ _ _ (by omega)]
  exact cell_same (u:=u) (by rw [d _ _ _ _ (by omega),d _ _ _ _ (by omega),d _ _ _ _ (by omega)];exact hu)
 ·obtain⟨u,hu⟩:=c0 4 (by omega)
  exact cell_same (u:=u) (by rw [d _ _ _ _ (by omega),d _ _ _ _ (by omega),d _ _ _ _ (by omega),d _ _ _ _ (by omega)];exact hu)
def NodV (lo:Nat)(x:Nd)(v:Value)(w:World):Prop:=∃A c B c2 hi,v=.agg #[.int .i64 x.k,.int .i64 x.e,.int .i64 x.n,.slice A x.d.length c,.slice B x.ks.length c2]∧hi≤w.heap.size∧NdO lo hi w A c B c2 x∧Unv w A∧Unv w B ∧
 ∀b off j A' l' c',B=some ⟨b,off,none⟩→j<x.ks.length→w.cell? ⟨b,off+j*5+3,none⟩=some (.slice A' l' c')→Unv w A'
theorem RowT.node {q n base:Nat}{ts:List Nd}{W:World}(h:RowT q n n ts W)(hq:base≤q)(hl:ts.length=n)(hm:n≤maxLen){k e m:Int}{d:List Int}{A:Option Addr}{c:Nat}
  (hk:-9223372036854775808≤k∧k≤9223372036854775807) (he:-9223372036854775808≤e∧e≤9223372036854775807) (hn:-9223372036854775808≤m∧m≤9223372036854775807)
  (hd:Got W base 5 .u8 (.slice A d.length c) d) (hby:Bts d):NdO base W.heap.size W A c (some ⟨q,0,none⟩) n (.mk k e m d ts):=by
 intro V hV
 have hdV:Got V base 5 .u8 (.slice A d.length c) d:=got_agree hd fun g h1 h2=>hV g h1 h2
 obtain⟨A0,c0,he0,hc0,hm0,hri,hnil⟩:=hdV.full
 injection he0 with e1 e2 e3
 subst e1 e3
 have hcell:∀o,V.cell? ⟨q,o,none⟩=W.cell? ⟨q,o,none⟩:=fun o=>World.cell?_of_block (w:=W) (hV q hq h.lt)
 have hkid:∀j (hj:j<ts.length),∃A' c' B' c2',NdR V A' c' B' c2' (ts[j])∧∀o,o<5→V.cell? ⟨q,j*5+o,none⟩=(fiveC (ts[j]) A' c' B' c2')[o]?:=by
  intro j hj
  obtain⟨A',c',B',c2',lo,hi,k1,k2,k3,k4,k5⟩:=h.done j hj (by omega)
  exact⟨A',c',B',c2',k3 V fun g g1 g2=>hV g (by omega) (by omega),fun o ho=>(hcell _).trans (k5 o ho)⟩
 refine .mk k e m d ts A c _ n (fun j=>if h:j<ts.length then Classical.choose (hkid j h) else none)
  (fun j=>if h:j<ts.length then Classical.choose (Classical.choose_spec (hkid j h)) else 0)
  (fun j=>if h:j<ts.length then Classical.choose (Classical.choose_spec (Classical.choose_spec (hkid j h))) else none)
  (fun j=>if h:j<ts.length then Classical.choose (Classical.choose_spec (Classical.choose_spec (Classical.choose_spec (hkid j h)))) else 0)
  hk he hn hri hby hc0 hm0 hnil (by omega) hm (fun h=>by cases h) ?_ ?_
 ·refine .inr ⟨q,0,rfl,fun j x hj=>?_⟩
  have hjl:j<ts.length:=(List.getElem?_eq_some_iff.1 hj).1
  obtain rfl:ts[j]=x:=(List.getElem?_eq_some_iff.1 hj).2
  have hspec:=Classical.choose_spec (Classical.choose_spec (Classical.choose_spec (Classical.choose_spec (hkid j hjl))))
  simp only [dif_pos hjl,Nat.zero_add]
  exact⟨hspec.2 0 (by omega),hspec.2 1 (by omega),hspec.2 2 (by omega),hspec.2 3 (by omega),hspec.2 4 (by omega)⟩
 ·intro j x hj
  have hjl:j<ts.length:=(List.getElem?_eq_some_iff.1 hj).1
  obtain rfl:ts[j]=x:=(List.getElem?_eq_some_iff.1 hj).2
  have hspec:=Classical.choose_spec (Classical.choose_spec (Classical.choose_spec (Classical.choose_spec (hkid j hjl))))
  simp only [dif_pos hjl]
  exact hspec.1
def ent (b:List Int)(i:Nat):Int:=zat b (4*i)+256*zat b (4*i+1)+65536*zat b (4*i+2)+16777216*zat b (4*i+3)
def tbl (n:Int):Int:=8*(n / 2)+8
def cntF (b:List Int):Int:=ent b 0+1
def atF (b:List Int):Nat→Int
 | 0=>tbl (cntF b)
 | k+1=>atF b k+8*ent b (k+1)
def headP (b:List Int):Prop:=4≤b.length∧cntF b≤512∧tbl (cntF b)≤b.length∧(cntF b % 2=0→ent b ((cntF b).toNat+1)=0)
def stepP (b:List Int)(k:Nat):Prop:=ent b (k+1)<536870912∧atF b (k+1)≤b.length
def okP (b:List Int):Prop:=headP b∧(∀k,k<(cntF b).toNat→stepP b k)∧atF b (cntF b).toNat=b.length
instance (b:List Int):Decidable (headP b):=by unfold headP;infer_instance
instance (b:List Int) (k:Nat):Decidable (stepP b k):=by unfold stepP;infer_instance
instance (b:List Int):Decidable (okP b):=by unfold okP;infer_instance
end Go.Proofs.YtfaflahfjgnphaaDoor
