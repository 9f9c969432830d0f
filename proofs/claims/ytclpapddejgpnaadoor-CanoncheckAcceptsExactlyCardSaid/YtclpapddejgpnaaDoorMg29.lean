/- The texts DenA, TrimB, CanB (what is wanted of them), one after the other. -/
import Derived.Test.YtclpapddejgpnaaDoorMg27
namespace Go.Proofs.YtclpapddejgpnaaDoor
open Go.ChangeShapes Go.WideShapes Go.ChangeAt Go.RowKit
set_option linter.unusedVariables false
set_option linter.unusedSimpArgs false
set_option maxRecDepth 100000
section
attribute [local simp] AllK KnowsV look Is
theorem bel_undrew {w wc:World}(h:Below w.drew.heap.size w.drew wc):Below w.heap.size w wc:=⟨h.os,h.tape,h.output,h.size,h.block⟩
structure EnvD (b:Nat) (A:Option Addr) (ls:List (List Int)) (w0:World):Prop where
 sg:Sg w0 A ls
 tab:TabOK w0
 b0:w0.heap.size≤b
 wd:Wd2 ls
 m:ls.length≤40
 f:∀j,(seg ls j).length≤20000000
theorem EnvD.sgAt {b:Nat}{A:Option Addr}{ls:List (List Int)}{w0 w:World}(E:EnvD b A ls w0)(hb:Below b w0 w):Sg w A ls:=E.sg.below hb E.b0
theorem EnvD.tabAt {b:Nat}{A:Option Addr}{ls:List (List Int)}{w0 w:World}(E:EnvD b A ls w0)(hb:Below b w0 w):TabOK w:=E.tab.below hb E.b0
theorem EnvD.m2 {b:Nat}{A:Option Addr}{ls:List (List Int)}{w0:World}(E:EnvD b A ls w0):ls.length≤140737488355328:=by have:=E.m;omega
end
theorem KsR.take {w:World}{B:Option Addr}{ts:List Nd}(h:KsR w B ts)(K:Nat):KsR w B (ts.take K):=by
 rcases h with rfl|⟨b,off,hB,h⟩
 ·exact .inl (by simp)
 ·refine .inr ⟨b,off,hB,fun j hj=>?_⟩
  rw [List.length_take] at hj
  have:=h j (by omega)
  rw [List.getElem_take]
  exact this
def Unv (w:World)(A:Option Addr):Prop:=∀b off,A=some ⟨b,off,none⟩→b<w.heap.size∧∀o,w.frozen? ⟨b,o,none⟩=false
theorem Unv.below {w w':World}{A:Option Addr}(h:Unv w A){N:Nat}(hb:Below N w w')(hN:w.heap.size≤N):Unv w' A:=by
 intro b off e
 obtain⟨h1,h2⟩:=h b off e
 exact⟨Nat.lt_of_lt_of_le h1 hb.size,fun o=>by rw [hb.frozen (p:=⟨b,o,none⟩) (by show b<N;omega)];exact h2 o⟩
theorem Unv.set {w:World}{A:Option Addr}(h:Unv w A)(p:Addr)(v:Value):Unv (w.setCell p v) A:=by
 intro b off e
 obtain⟨h1,h2⟩:=h b off e
 exact⟨by simpa using h1,fun o=>by rw [World.frozen?_setCell];exact h2 o⟩
structure RowT (q n i:Nat) (ts:List Nd) (W:World):Prop where
 cell:∀o,o<n*5→∃u,W.cell? ⟨q,o,none⟩=some u
 free:∀o,W.frozen? ⟨q,o,none⟩=false
 lt:q<W.heap.size
 done:∀j (hj:j<ts.length),j<i→∃A' c' B' c2' lo hi,q<lo∧hi≤W.heap.size∧NdO lo hi W A' c' B' c2' (ts[j])∧Unv W A'∧∀o,o<5→W.cell? ⟨q,j*5+o,none⟩=(fiveC (ts[j]) A' c' B' c2')[o]?
theorem RowT.below {q n i:Nat}{ts:List Nd}{W W':World}(h:RowT q n i ts W){N:Nat}(hb:Below N W W')(hN:W.heap.size≤N):RowT q n i ts W':=by
 have hlt:=h.lt
 have hc:∀o,W'.cell? ⟨q,o,none⟩=W.cell? ⟨q,o,none⟩:=fun o=>hb.cell (p:=⟨q,o,none⟩) (by show q<N;omega)
 refine⟨fun o ho=>?_,fun o=>?_,Nat.lt_of_lt_of_le hlt hb.size,fun j hj hi=>?_⟩
 ·obtain⟨u,hu⟩:=h.cell o ho
  exact⟨u,(hc o).trans hu⟩
 ·rw [hb.frozen (p:=⟨q,o,none⟩) (by show q<N;omega)]
  exact h.free o
 ·obtain⟨A',c',B',c2',lo,hi',h1,h2,h3,h4,h5⟩:=h.done j hj hi
  exact⟨A',c',B',c2',lo,hi',h1,Nat.le_trans h2 hb.size,h3.below hb (by omega),h4.below hb hN,fun o ho=>(hc _).trans (h5 o ho)⟩
theorem RowT.set {q n i:Nat}{ts:List Nd}{W:World}(h:RowT q n i ts W){p:Nat}(hp:i*5≤p)(v:Value):RowT q n i ts (W.setCell ⟨q,p,none⟩ v):=by
 have hd:∀o,p≠o→(W.setCell ⟨q,p,none⟩ v).cell? ⟨q,o,none⟩=W.cell? ⟨q,o,none⟩:=fun o ho=>cell_diff (fun e=>by injection e with e1 e2;exact ho e2)
 refine⟨fun o ho=>?_,fun o=>by rw [World.frozen?_setCell];exact h.free o,by simpa using h.lt,fun j hj hi=>?_⟩
 ·obtain⟨u,hu⟩:=h.cell o ho
  by_cases e:p=o
  ·subst e
   exact⟨v,cell_same hu⟩
  ·exact⟨u,(hd o e).trans hu⟩
 ·obtain⟨A',c',B',c2',lo,hi',h1,h2,h3,h4,h5⟩:=h.done j hj hi
  exact⟨A',c',B',c2',lo,hi',h1,by simpa using h2,h3.to fun k k1 _=>Below.heap_setCell _ _ _ _ (by show k≠q;omega),h4.set _ _,fun o ho=>(hd _ (by omega)).trans (h5 o ho)⟩
theorem RowT.other {q n i:Nat}{ts:List Nd}{W:World}(h:RowT q n i ts W){p:Addr}(hp:p.block<q)(v:Value):RowT q n i ts (W.setCell p v):=by
 have hd:∀o,(W.setCell p v).cell? ⟨q,o,none⟩=W.cell? ⟨q,o,none⟩:=fun o=>cell_diff (fun e=>by subst e;exact Nat.lt_irrefl _ hp)
 refine⟨fun o ho=>?_,fun o=>by rw [World.frozen?_setCell];exact h.free o,by simpa using h.lt,fun j hj hi=>?_⟩
 ·obtain⟨u,hu⟩:=h.cell o ho
  exact⟨u,(hd o).trans hu⟩
 ·obtain⟨A',c',B',c2',lo,hi',h1,h2,h3,h4,h5⟩:=h.done j hj hi
  exact⟨A',c',B',c2',lo,hi',h1,by simpa using h2,h3.to fun k k1 _=>Below.heap_setCell _ _ _ _ (by omega),h4.set _ _,fun o ho=>(hd _).trans (h5 o ho)⟩
theorem RowT.next {q n i:Nat}{ts:List Nd}{W:World}(h:RowT q n i ts W)(hn:i<n)(hl:i<ts.length){A':Option Addr}{c':Nat}{B':Option Addr}{c2' lo hi:Nat}(h1:q<lo)(h2:hi≤W.heap.size)(h3:NdO lo hi W A' c' B' c2' (ts[i]))(h4:Unv W A'):
  RowT q n (i+1) ts (((((W.setCell ⟨q,i*5,none⟩ (.int .i64 (ts[i]).k)).setCell ⟨q,i*5+1,none⟩ (.int .i64 (ts[i]).e)).setCell ⟨q,i*5+2,none⟩ (.int .i64 (ts[i]).n)).setCell ⟨q,i*5+3,none⟩ (.slice A' (ts[i]).d.length c')).setCell ⟨q,i*5+4,none⟩ (.slice B' (ts[i]).ks.length c2')):=by
 have hr:=((((h.set (p:=i*5) (by omega) (.int .i64 (ts[i]).k)).set (p:=i*5+1) (by omega) (.int .i64 (ts[i]).e)).set (p:=i*5+2) (by omega) (.int .i64 (ts[i]).n)).set (p:=i*5+3) (by omega) (.slice A' (ts[i]).d.length c')).set (p:=i*5+4) (by omega) (.slice B' (ts[i]).ks.length c2')
 refine⟨hr.cell,hr.free,hr.lt,fun j hj hi2=>?_⟩
 by_cases e:j<i
 ·exact hr.done j hj e
 obtain rfl:j=i:=by omega
 have hg:∀(w:World) k p v,lo≤k→(w.setCell ⟨q,p,none⟩ v).heap[k]?=w.heap[k]?:=fun w k p v hk=>Below.heap_setCell _ _ _ _ (by show k≠q;omega)
 refine⟨A',c',B',c2',lo,hi,h1,by simpa using h2,h3.to fun k k1 _=>by rw [hg _ _ _ _ k1,hg _ _ _ _ k1,hg _ _ _ _ k1,hg _ _ _ _ k1,hg _ _ _ _ k1],((((h4.set _ _).set _ _).set _ _).set _ _).set _ _,fun o ho=>?_⟩
 have d:∀(w:World) (p r:Nat) v,p≠r→(w.setCell ⟨q,p,none⟩ v).cell? ⟨q,r,none⟩=w.cell? ⟨q,r,none⟩:=fun w p r v hpr=>cell_diff (fun e=>by injection e with e1 e2;exact hpr e2)
 have c0:=fun o (ho:o<5)=>h.cell (j*5+o) (by omega)
 have:o=0∨o=1∨o=2∨o=3∨o=4:=by omega
 rcases this with rfl|rfl|rfl|rfl|rfl
 ·obtain⟨u,hu⟩:=c0 0 (by omega)
  rw [d _ _ _ _ (by omega),d _ _ _ _ (by omega),d _ _ _ _ (by omega),d _ _ _ _ (by omega)]
  exact cell_same hu
 ·obtain⟨u,hu⟩:=c0 1 (by omega)
  rw [d _ _ _ _ (by omega),d _ _ _ _ (by omega),d _ _ _ _ (by omega)]
  exact cell_same (u:=u) (by rw [d _ _ _ _ (by omega)];exact hu)
 ·obtain⟨u,hu⟩:=c0 2 (by omega)
  rw [d _ _ _ _ (by omega),d _ _ _ _ (by omega)]
  exact cell_same (u:=u) (by rw [d _ _ _ _ (by omega),d _ _ _ _ (by omega)];exact hu)
 ·obtain⟨u,hu⟩:=c0 3 (by omega)
  rw [d _ _ _ _ (by omega)]
  exact cell_same (u:=u) (by rw [d _ _ _ _ (by omega),d _ _ _ _ (by omega),d _ _ _ _ (by omega)];exact hu)
 ·obtain⟨u,hu⟩:=c0 4 (by omega)
  exact cell_same (u:=u) (by rw [d _ _ _ _ (by omega),d _ _ _ _ (by omega),d _ _ _ _ (by omega),d _ _ _ _ (by omega)];exact hu)
theorem RowT.made {q n base:Nat}{ts:List Nd}{W:World}{vs:List Value}(h:W.ownsRow base 37 5 (.slice (some ⟨q,0,none⟩) n n) n vs):RowT q n 0 ts W:=by
 refine⟨fun o ho=>?_,fun o=>World.ownsRow.frozenAt h o,(h.lt q rfl).2,fun j hj h0=>by omega⟩
 have hl:o<vs.length:=by rw [h.1];exact ho
 exact⟨vs[o],by rw [World.ownsRow.cellAt h o ho,List.getElem?_eq_getElem hl]⟩
def NodV (lo:Nat)(x:Nd)(v:Value)(w:World):Prop:=∃A c B c2 hi,v=.agg #[.int .i64 x.k,.int .i64 x.e,.int .i64 x.n,.slice A x.d.length c,.slice B x.ks.length c2]∧hi≤w.heap.size∧NdO lo hi w A c B c2 x∧Unv w A∧Unv w B ∧
 ∀b off j A' l' c',B=some ⟨b,off,none⟩→j<x.ks.length→w.cell? ⟨b,off+j*5+3,none⟩=some (.slice A' l' c')→Unv w A'
theorem RowT.node {q n base:Nat}{ts:List Nd}{W:World}(h:RowT q n n ts W)(hq:base≤q)(hl:ts.length=n)(hm:n≤maxLen){k e m:Int}{d:List Int}{A:Option Addr}{c:Nat}
  (hk:-9223372036854775808≤k∧k≤9223372036854775807) (he:-9223372036854775808≤e∧e≤9223372036854775807) (hn:-9223372036854775808≤m∧m≤9223372036854775807)
  (hd:Got W base 5 .u8 (.slice A d.length c) d) (hby:Bts d):NdO base W.heap.size W A c (some ⟨q,0,none⟩) n (.mk k e m d ts):=by
 intro V hV
 have hdV:Got V base 5 .u8 (.slice A d.length c) d:=got_agree hd fun g h1 h2=>hV g h1 h2
 obtain⟨A0,c0,he0,hc0,hm0,hri,hnil⟩:=hdV.full
 injection he0 with e1 e2 e3
 subst e1 e3
 have hcell:∀o,V.cell? ⟨q,o,none⟩=W.cell? ⟨q,o,none⟩:=fun o=>World.cell?_of_block (w:=W) (hV q hq h.lt)
 have hkid:∀j (hj:j<ts.length),∃A' c' B' c2',NdR V A' c' B' c2' (ts[j])∧∀o,o<5→V.cell? ⟨q,j*5+o,none⟩=(fiveC (ts[j]) A' c' B' c2')[o]?:=by
  intro j hj
  obtain⟨A',c',B',c2',lo,hi,k1,k2,k3,k4,k5⟩:=h.done j hj (by omega)
  exact⟨A',c',B',c2',k3 V fun g g1 g2=>hV g (by omega) (by omega),fun o ho=>(hcell _).trans (k5 o ho)⟩
 refine .mk k e m d ts A c _ n (fun j=>if h:j<ts.length then Classical.choose (hkid j h) else none)
  (fun j=>if h:j<ts.length then Classical.choose (Classical.choose_spec (hkid j h)) else 0)
  (fun j=>if h:j<ts.length then Classical.choose (Classical.choose_spec (Classical.choose_spec (hkid j h))) else none)
  (fun j=>if h:j<ts.length then Classical.choose (Classical.choose_spec (Classical.choose_spec (Classical.choose_spec (hkid j h)))) else 0)
  hk he hn hri hby hc0 hm0 hnil (by omega) hm (fun h=>by cases h) ?_ ?_
 ·refine .inr ⟨q,0,rfl,fun j x hj=>?_⟩
  have hjl:j<ts.length:=(List.getElem?_eq_some_iff.1 hj).1
  obtain rfl:ts[j]=x:=(List.getElem?_eq_some_iff.1 hj).2
  have hspec:=Classical.choose_spec (Classical.choose_spec (Classical.choose_spec (Classical.choose_spec (hkid j hjl))))
  simp only [dif_pos hjl,Nat.zero_add]
  exact⟨hspec.2 0 (by omega),hspec.2 1 (by omega),hspec.2 2 (by omega),hspec.2 3 (by omega),hspec.2 4 (by omega)⟩
 ·intro j x hj
  have hjl:j<ts.length:=(List.getElem?_eq_some_iff.1 hj).1
  obtain rfl:ts[j]=x:=(List.getElem?_eq_some_iff.1 hj).2
  have hspec:=Classical.choose_spec (Classical.choose_spec (Classical.choose_spec (Classical.choose_spec (hkid j hjl))))
  simp only [dif_pos hjl]
  exact hspec.1
section
attribute [local simp] AllK KnowsV look Is
def ReadK (w0 w:World)(S:Nat)(B:Option Addr)(ks:List Nd):Prop:=
 ∀j (hj:j<ks.length),∃b off A' c' B' c2',B=some ⟨b,off,none⟩∧b≠S∧b<w.heap.size∧w.cell? ⟨b,off+j*5,none⟩=some (.int .i64 (ks[j]).k)∧w.cell? ⟨b,off+j*5+1,none⟩=some (.int .i64 (ks[j]).e)∧w.cell? ⟨b,off+j*5+2,none⟩=some (.int .i64 (ks[j]).n) ∧
  w.cell? ⟨b,off+j*5+3,none⟩=some (.slice A' (ks[j]).d.length c')∧w.cell? ⟨b,off+j*5+4,none⟩=some (.slice B' (ks[j]).ks.length c2')∧NdR w0 A' c' B' c2' ks[j]
theorem ReadK.keeps {w0 w w':World}{S:Nat}{B:Option Addr}{ks:List Nd}(h:ReadK w0 w S B ks)(hk:Keeps (KB S) w w'):ReadK w0 w' S B ks:=by
 intro j hj
 obtain⟨b,off,A',c',B',c2',hB,hne,hb,h0,h1,h2,h3,h4,h5⟩:=h j hj
 have hc:∀o,w'.cell? ⟨b,o,none⟩=w.cell? ⟨b,o,none⟩:=fun o=>World.cell?_of_block (hk.block b hb (fun e=>hne e))
 exact⟨b,off,A',c',B',c2',hB,hne,Nat.lt_of_lt_of_le hb hk.size,(hc _).trans h0,(hc _).trans h1,(hc _).trans h2,(hc _).trans h3,(hc _).trans h4,h5⟩
end
end Go.Proofs.YtclpapddejgpnaaDoor
