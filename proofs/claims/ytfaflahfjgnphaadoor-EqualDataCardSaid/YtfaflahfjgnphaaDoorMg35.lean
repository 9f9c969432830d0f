/- The texts RowG, DenE (what is wanted of them), one after the other. -/
import Derived.Test.YtfaflahfjgnphaaDoorMg10
import Derived.Test.YtfaflahfjgnphaaDoorMg32
import Derived.Laws.EntriesVeiled
namespace Go.Proofs.YtfaflahfjgnphaaDoor
open Go.ChangeShapes Go.WideShapes Go.ChangeAt Go.RowKit
set_option linter.unusedVariables false
set_option linter.unusedSimpArgs false
set_option maxRecDepth 100000
def KB (b:Nat):Nat→Prop:=fun k=>k=b
theorem bel_keeps {b:Nat}{w w':World}(h:Keeps (KB b) w w')(hb:b≤w.heap.size):Below b w w':=h.below hb (fun k hk=>by unfold KB at hk;omega)
theorem keeps_alloc {b:Nat}{w w':World}(h:Keeps (KB b) w w')(o:Obj):Keeps (KB b) w (w'.alloc o):=h.trans (keeps_of ((Below.refl _ _).alloc (Nat.le_refl _) o))
theorem keeps_set {b:Nat}{w w':World}(h:Keeps (KB b) w w'){p:Addr}(hp:p.block=b∨w.heap.size≤p.block)(v:Value):Keeps (KB b) w (w'.setCell p v):=by
  refine⟨h.os,h.tape,h.output,by simpa using h.size,fun k hk hS=>?_⟩
  rw [Below.heap_setCell _ _ _ _ (by rcases hp with e|e;·intro e2;exact hS (e2.trans e)
                                     · omega)]
  exact h.block k hk hS
theorem keeps_on {b:Nat}{w w1 w2:World}(h:Keeps (KB b) w w1)(hb:Below w1.heap.size w1 w2):Keeps (KB b) w w2:=h.trans (keeps_of hb)
theorem NodF.keeps {b lo:Nat}{x:Nd}{v:Value}{w w':World}(h:NodF lo x v w)(hk:Keeps (KB b) w w')(hb:b<lo):NodF lo x v w':=by
 obtain⟨A,c,B,c2,hi,h1,h2,h3⟩:=h
 exact⟨A,c,B,c2,hi,h1,Nat.le_trans h2 hk.size,h3.to fun k k1 k2=>hk.block k (by omega) (by unfold KB;omega)⟩
structure RowG (q n:Nat) (ts:List Nd) (W:World):Prop where
 cell:∀o,o<n*5→∃u,W.cell? ⟨q,o,none⟩=some u
 free:∀o,W.frozen? ⟨q,o,none⟩=false
 lt:q<W.heap.size
 done:∀j (hj:j<ts.length),∃A' c' B' c2' lo hi,q<lo∧hi≤W.heap.size∧NdO lo hi W A' c' B' c2' (ts[j])∧∀o,o<5→W.cell? ⟨q,j*5+o,none⟩=(fiveC (ts[j]) A' c' B' c2')[o]?
theorem RowG.agree {q n:Nat}{ts:List Nd}{W W':World}(h:RowG q n ts W)(hs:W.heap.size≤W'.heap.size)(hw:∀k,q≤k→k<W.heap.size→W'.heap[k]?=W.heap[k]?):RowG q n ts W':=by
 have hlt:=h.lt
 have hc:∀o,W'.cell? ⟨q,o,none⟩=W.cell? ⟨q,o,none⟩:=fun o=>World.cell?_of_block (hw q (Nat.le_refl _) hlt)
 refine⟨fun o ho=>?_,fun o=>?_,Nat.lt_of_lt_of_le hlt hs,fun j hj=>?_⟩
 ·obtain⟨u,hu⟩:=h.cell o ho
  exact⟨u,(hc o).trans hu⟩
 ·have:=h.free o
  unfold World.frozen? at this ⊢
  rw [show W'.heap[(⟨q,o,none⟩:Addr).block]?=W.heap[(⟨q,o,none⟩:Addr).block]? from hw q (Nat.le_refl _) hlt]
  exact this
 ·obtain⟨A',c',B',c2',lo,hi',h1,h2,h3,h5⟩:=h.done j hj
  exact⟨A',c',B',c2',lo,hi',h1,Nat.le_trans h2 hs,h3.to fun k k1 k2=>hw k (by omega) (by omega),fun o ho=>(hc _).trans (h5 o ho)⟩
theorem RowG.below {q n:Nat}{ts:List Nd}{W W':World}(h:RowG q n ts W)(hb:Below W.heap.size W W'):RowG q n ts W':=h.agree hb.size fun k _ h2=>hb.block k h2
theorem RowG.keeps {b q n:Nat}{ts:List Nd}{W W':World}(h:RowG q n ts W)(hk:Keeps (KB b) W W')(hb:b<q):RowG q n ts W':=h.agree hk.size fun k h1 h2=>hk.block k h2 (by unfold KB;omega)
theorem RowG.alloc {q n:Nat}{ts:List Nd}{W:World}(h:RowG q n ts W)(o:Obj):RowG q n ts (W.alloc o):=h.below ((Below.refl _ _).alloc (Nat.le_refl _) o)
theorem RowG.other {q n:Nat}{ts:List Nd}{W:World}(h:RowG q n ts W){p:Addr}(hp:p.block<q)(v:Value):RowG q n ts (W.setCell p v):=
 h.agree (by simp) fun k h1 _=>Below.heap_setCell _ _ _ _ (by omega)
theorem RowG.set {q n:Nat}{ts:List Nd}{W:World}(h:RowG q n ts W){p:Nat}(hp:ts.length*5≤p)(v:Value):RowG q n ts (W.setCell ⟨q,p,none⟩ v):=by
 have hd:∀o,p≠o→(W.setCell ⟨q,p,none⟩ v).cell? ⟨q,o,none⟩=W.cell? ⟨q,o,none⟩:=fun o ho=>cell_diff (fun e=>by injection e with e1 e2;exact ho e2)
 refine⟨fun o ho=>?_,fun o=>by rw [World.frozen?_setCell];exact h.free o,by simpa using h.lt,fun j hj=>?_⟩
 ·obtain⟨u,hu⟩:=h.cell o ho
  by_cases e:p=o
  ·subst e
   exact⟨v,cell_same hu⟩
  ·exact⟨u,(hd o e).trans hu⟩
 ·obtain⟨A',c',B',c2',lo,hi',h1,h2,h3,h5⟩:=h.done j hj
  exact⟨A',c',B',c2',lo,hi',h1,by simpa using h2,h3.to fun k k1 _=>Below.heap_setCell _ _ _ _ (by show k≠q;omega),fun o ho=>(hd _ (by omega)).trans (h5 o ho)⟩
theorem RowG.next {q n i:Nat}{ts:List Nd}{W:World}{x:Nd}(h:RowG q n ts W)(hi:ts.length=i)(hn:i<n){A':Option Addr}{c':Nat}{B':Option Addr}{c2' lo hi':Nat}(h1:q<lo)(h2:hi'≤W.heap.size)(h3:NdO lo hi' W A' c' B' c2' x):
  RowG q n (ts++[x]) (((((W.setCell ⟨q,i*5,none⟩ (.int .i64 x.k)).setCell ⟨q,i*5+1,none⟩ (.int .i64 x.e)).setCell ⟨q,i*5+2,none⟩ (.int .i64 x.n)).setCell ⟨q,i*5+3,none⟩ (.slice A' x.d.length c')).setCell ⟨q,i*5+4,none⟩ (.slice B' x.ks.length c2')):=by
 subst hi
 have hr:=((((h.set (p:=ts.length*5) (by omega) (.int .i64 x.k)).set (p:=ts.length*5+1) (by omega) (.int .i64 x.e)).set (p:=ts.length*5+2) (by omega) (.int .i64 x.n)).set (p:=ts.length*5+3) (by omega) (.slice A' x.d.length c')).set (p:=ts.length*5+4) (by omega) (.slice B' x.ks.length c2')
 refine⟨hr.cell,hr.free,hr.lt,fun j hj=>?_⟩
 by_cases e:j<ts.length
 ·have:=hr.done j e
  rw [List.getElem_append_left e]
  exact this
 have hjl:j=ts.length:=by rw [List.length_append,List.length_singleton] at hj;omega
 subst hjl
 have hx:(ts++[x])[ts.length]'hj=x:=by rw [List.getElem_append_right (Nat.le_refl _)];simp
 rw [hx]
 have hg:∀(w:World) k p v,lo≤k→(w.setCell ⟨q,p,none⟩ v).heap[k]?=w.heap[k]?:=fun w k p v hk=>Below.heap_setCell _ _ _ _ (by show k≠q;omega)
 refine⟨A',c',B',c2',lo,hi',h1,by simpa using h2,h3.to fun k k1 _=>by rw [hg _ _ _ _ k1,hg _ _ _ _ k1,hg _ _ _ _ k1,hg _ _ _ _ k1,hg _ _ _ _ k1],fun o ho=>?_⟩
 have d:∀(w:World) (p r:Nat) v,p≠r→(w.setCell ⟨q,p,none⟩ v).cell? ⟨q,r,none⟩=w.cell? ⟨q,r,none⟩:=fun w p r v hpr=>cell_diff (fun e=>by injection e with e1 e2;exact hpr e2)
 have c0:=fun o (ho:o<5)=>h.cell (ts.length*5+o) (by omega)
 have:o=0∨o=1∨o=2∨o=3∨o=4:=by omega
 rcases this with rfl|rfl|rfl|rfl|rfl
 ·obtain⟨u,hu⟩:=c0 0 (by omega)
  rw [d _ _ _ _ (by omega),d _ _ _ _ (by omega),d _ _ _ _ (by omega),d _ _ _ _ (by omega)]
  exact cell_same hu
 ·obtain⟨u,hu⟩:=c0 1 (by omega)
  rw [d _ _ _ _ (by omega),d _ _ _ _ (by omega),d _ _ _ _ (by omega)]
  exact cell_same (u:=u) (by rw [d _ _ _ _ (by omega)];exact hu)
 ·obtain⟨u,hu⟩:=c0 2 (by omega)
  rw [d _ _ _ _ (by omega),d _ _ _ _ (by omega)]
  exact cell_same (u:=u) (by rw [d _ _ _ _ (by omega),d _ _ _ _ (by omega)];exact hu)
 ·obtain⟨u,hu⟩:=c0 3 (by omega)
  rw [d _ _ _ _ (by omega)]
  exact cell_same (u:=u) (by rw [d _ _ _ _ (by omega),d _ _ _ _ (by omega),d _ _ _ _ (by omega)];exact hu)
 ·obtain⟨u,hu⟩:=c0 4 (by omega)
  exact cell_same (u:=u) (by rw [d _ _ _ _ (by omega),d _ _ _ _ (by omega),d _ _ _ _ (by omega),d _ _ _ _ (by omega)];exact hu)
section
attribute [local simp] AllK KnowsV look Is
theorem NodF.set {lo:Nat}{x:Nd}{v:Value}{w:World}(h:NodF lo x v w){p:Addr}(hp:p.block<lo)(u:Value):NodF lo x v (w.setCell p u):=by
 obtain⟨A,c,B,c2,hi,h1,h2,h3⟩:=h
 exact⟨A,c,B,c2,hi,h1,by simpa using h2,h3.to fun k k1 k2=>Below.heap_setCell _ _ _ _ (by omega)⟩
end
end Go.Proofs.YtfaflahfjgnphaaDoor
