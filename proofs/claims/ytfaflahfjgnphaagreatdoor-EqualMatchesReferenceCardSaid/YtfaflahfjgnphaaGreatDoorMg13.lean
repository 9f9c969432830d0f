/- The texts NodeO, NodeZ, TrimU (what is wanted of them), one after the other. -/
import Derived.Test.YtfaflahfjgnphaaGreatDoorMg11
namespace Go.Proofs.YtfaflahfjgnphaaGreatDoor
open Go.ChangeShapes Go.WideShapes Go.ChangeAt Go.RowKit
set_option linter.unusedVariables false
set_option linter.unusedSimpArgs false
set_option maxRecDepth 100000
def NdO (lo hi:Nat)(w:World)(A:Option Addr)(c:Nat)(B:Option Addr)(c2:Nat)(x:Nd):Prop:=∀W:World,(∀k,lo≤k→k<hi→W.heap[k]?=w.heap[k]?)→NdR W A c B c2 x
theorem NdO.nd {lo hi:Nat}{w:World}{A:Option Addr}{c:Nat}{B:Option Addr}{c2:Nat}{x:Nd}(h:NdO lo hi w A c B c2 x):NdR w A c B c2 x:=h w (fun _ _ _=>rfl)
theorem NdO.to {lo hi:Nat}{w w':World}{A:Option Addr}{c:Nat}{B:Option Addr}{c2:Nat}{x:Nd}(h:NdO lo hi w A c B c2 x)(hw:∀k,lo≤k→k<hi→w'.heap[k]?=w.heap[k]?):NdO lo hi w' A c B c2 x:=
 fun W hW=>h W fun k h1 h2=>(hW k h1 h2).trans (hw k h1 h2)
theorem NdO.wide {lo hi lo' hi':Nat}{w:World}{A:Option Addr}{c:Nat}{B:Option Addr}{c2:Nat}{x:Nd}(h:NdO lo hi w A c B c2 x)(h1:lo'≤lo)(h2:hi≤hi'):NdO lo' hi' w A c B c2 x:=
 fun W hW=>h W fun k k1 k2=>hW k (by omega) (by omega)
theorem NdO.below {lo hi:Nat}{w w':World}{A:Option Addr}{c:Nat}{B:Option Addr}{c2:Nat}{x:Nd}(h:NdO lo hi w A c B c2 x){N:Nat}(hb:Below N w w')(hN:hi≤N):NdO lo hi w' A c B c2 x:=h.to fun k _ h2=>hb.block k (by omega)
def OwnN (base:Nat)(w:World)(v:Value)(ts:List Nd):Prop:=
 ∃vs,w.ownsRow base 53 5 v ts.length vs∧∀j (hj:j<ts.length),∃A' c' B' c2' lo hi,base≤lo∧hi≤w.heap.size∧(∀g,v.ownBlock=some g→g<lo∨hi≤g)∧NdO lo hi w A' c' B' c2' (ts[j]) ∧
  ∀o,o<5→vs[j*5+o]?=(fiveC (ts[j]) A' c' B' c2')[o]?
theorem OwnN.empty (base:Nat)(w:World):OwnN base w (.slice none 0 0) []:=⟨[],World.ownsRow_nil w base _ 5,fun j hj=>by simp at hj⟩
theorem ownsRow_below {w w':World}{base:Nat}{E:TypeId}{sz n:Nat}{v:Value}{vs:List Value}(h:w.ownsRow base E sz v n vs){N:Nat}(hb:Below N w w')(hN:w.heap.size≤N):w'.ownsRow base E sz v n vs:=by
 have hlt:=h.lt
 refine⟨h.1,?_⟩
 rcases h.2 with h2|⟨g,cap,cur,hv,hg,hh,r⟩
 ·exact .inl h2
 ·refine .inr ⟨g,cap,cur,hv,hg,?_,r⟩
  have:=(hlt g (by rw [hv];rfl)).2
  rw [hb.block g (by omega)]
  exact hh
theorem OwnN.below {base:Nat}{w w':World}{v:Value}{ts:List Nd}(h:OwnN base w v ts){N:Nat}(hb:Below N w w')(hN:w.heap.size≤N):OwnN base w' v ts:=by
 obtain⟨vs,h1,h2⟩:=h
 refine⟨vs,ownsRow_below h1 hb hN,fun j hj=>?_⟩
 obtain⟨A',c',B',c2',lo,hi,k1,k2,k3,k4,k5⟩:=h2 j hj
 exact⟨A',c',B',c2',lo,hi,k1,Nat.le_trans k2 hb.size,k3,k4.below hb (by omega),k5⟩
theorem OwnN.slice {base:Nat}{w:World}{v:Value}{ts:List Nd}(h:OwnN base w v ts):∃B c,v=.slice B ts.length c∧ts.length≤c∧c≤maxLen∧(B=none→c=0):=by
 obtain⟨vs,h1,h2⟩:=h
 rcases h1.2 with ⟨rfl,hn⟩|⟨g,cap,cur,rfl,hg,hh,hc,hm,hcs,htk⟩
 ·exact⟨none,0,by rw [hn],by omega,by omega,fun _=>rfl⟩
 ·exact⟨some ⟨g,0,none⟩,cap,rfl,hc,hm,fun h=>by cases h⟩
theorem OwnN.node {base:Nat}{w:World}{B:Option Addr}{n0 c2:Nat}{ts:List Nd}(h:OwnN base w (.slice B n0 c2) ts){k e n:Int}{d:List Int}{A:Option Addr}{c:Nat}
  (hk:-9223372036854775808≤k∧k≤9223372036854775807) (he:-9223372036854775808≤e∧e≤9223372036854775807) (hn:-9223372036854775808≤n∧n≤9223372036854775807)
  (hd:Got w base 5 .u8 (.slice A d.length c) d) (hby:Bts d):NdO base w.heap.size w A c B c2 (.mk k e n d ts):=by
 intro W hW
 obtain⟨A0,c0,he0,hc0,hm0,_⟩:=hd.slice
 injection he0 with e1 e2 e3
 subst e1
 subst e3
 obtain⟨vs,h1,h2⟩:=h
 have hWO:W.ownsRow base 53 5 (.slice B n0 c2) ts.length vs:=by
  refine⟨h1.1,?_⟩
  rcases h1.2 with h3|⟨g,cap,cur,hv,hg,hh,r⟩
  ·exact .inl h3
  ·exact .inr ⟨g,cap,cur,hv,hg,(hW g hg (Array.getElem?_eq_some_iff.1 hh).1).trans hh,r⟩
 have hdW:Got W base 5 .u8 (.slice A d.length c) d:=by
  have hd0:=hd
  refine⟨hd.1,?_⟩
  rcases hd.2 with h3|⟨g,cap,cur,hv,hg,hh,r⟩
  ·exact .inl h3
  ·exact .inr ⟨g,cap,cur,hv,hg,(hW g hg (Array.getElem?_eq_some_iff.1 hh).1).trans hh,r⟩
 have hkid:∀j (hj:j<ts.length),∃A' c' B' c2',NdR W A' c' B' c2' (ts[j])∧∀o,o<5→vs[j*5+o]?=(fiveC (ts[j]) A' c' B' c2')[o]?:=by
  intro j hj
  obtain⟨A',c',B',c2',lo,hi,k1,k2,k3,k4,k5⟩:=h2 j hj
  exact⟨A',c',B',c2',k4 W fun q q1 q2=>hW q (by omega) (by omega),k5⟩
 have hAnil:A=none→c=0:=by
  rintro rfl
  rcases hd.2 with ⟨h3,_⟩|⟨g,cap,cur,hv,_⟩
  ·injection h3
  ·injection hv with h4;cases h4
 have hBs:n0=ts.length∧ts.length≤c2∧c2≤maxLen∧(B=none→c2=0):=by
  rcases h1.2 with ⟨hv,hn⟩|⟨g,cap,cur,hv,hg,hh,hc,hm,hcs,htk⟩
  ·injection hv with e1 e2 e3
   subst e1;subst e2;subst e3
   exact⟨by omega,by omega,by omega,fun _=>rfl⟩
  ·injection hv with e1 e2 e3
   subst e1;subst e2;subst e3
   exact⟨rfl,hc,hm,fun h=>by cases h⟩
 obtain⟨_,_,_,_,_,hri⟩:=hdW.slice
 have hriA:Ri W .u8 A d:=by
  obtain⟨A1,c1,he1,_,_,hr1⟩:=hdW.slice
  injection he1 with e1 e2 e3
  subst e1
  exact hr1
 refine .mk k e n d ts A c B c2 (fun j=>if h:j<ts.length then Classical.choose (hkid j h) else none)
  (fun j=>if h:j<ts.length then Classical.choose (Classical.choose_spec (hkid j h)) else 0)
  (fun j=>if h:j<ts.length then Classical.choose (Classical.choose_spec (Classical.choose_spec (hkid j h))) else none)
  (fun j=>if h:j<ts.length then Classical.choose (Classical.choose_spec (Classical.choose_spec (Classical.choose_spec (hkid j h)))) else 0)
  hk he hn hriA hby hc0 hm0 hAnil hBs.2.1 hBs.2.2.1 hBs.2.2.2 ?_ ?_
 ·by_cases hne:ts=[]
  ·exact .inl hne
  ·right
   have hpos:0<ts.length:=List.length_pos_iff.2 hne
   rcases hWO.2 with ⟨_,hn⟩|⟨g,cap,cur,hv,hg,hh,_⟩
   ·omega
   ·injection hv with e1 e2 e3
    subst e1
    subst e2
    subst e3
    refine⟨g,0,rfl,fun j x hj=>?_⟩
    have hjl:j<ts.length:=(List.getElem?_eq_some_iff.1 hj).1
    obtain rfl:ts[j]=x:=(List.getElem?_eq_some_iff.1 hj).2
    have hspec:=Classical.choose_spec (Classical.choose_spec (Classical.choose_spec (Classical.choose_spec (hkid j hjl))))
    have hcell:=fun o (ho:o<5)=>(World.ownsRow.cellAt (g:=g) (cap:=c2) hWO (j*5+o) (by omega)).trans (hspec.2 o ho)
    simp only [dif_pos hjl]
    refine⟨?_,?_,?_,?_,?_⟩
    ·have:=hcell 0 (by omega);rw [Nat.zero_add];exact this
    ·have:=hcell 1 (by omega);rw [Nat.zero_add];exact this
    ·have:=hcell 2 (by omega);rw [Nat.zero_add];exact this
    ·have:=hcell 3 (by omega);rw [Nat.zero_add];simpa [fiveC] using this
    ·have:=hcell 4 (by omega);rw [Nat.zero_add];simpa [fiveC] using this
 ·intro j x hj
  have hjl:j<ts.length:=(List.getElem?_eq_some_iff.1 hj).1
  obtain rfl:ts[j]=x:=(List.getElem?_eq_some_iff.1 hj).2
  have hspec:=Classical.choose_spec (Classical.choose_spec (Classical.choose_spec (Classical.choose_spec (hkid j hjl))))
  simp only [dif_pos hjl]
  exact hspec.1
theorem append_block {P:Program}{w:World}{base:Nat}{t ty e:TypeId}{i:TypeInfo}{z:Value}(ht:P.underlying t=some (.slice e))(hi:P.info? e=some i)(hz:i.zero=some z)
  {v:Value} {n:Nat} {xs:List Value} (hown:w.ownsRow base e i.size v n xs) {a:Addr} {m c:Nat} {news:List Value} (hl:news.length=m*i.size) (hnews:∀j u,news[j]?=some u→w.cell? (a.add j)=some u)
  (h1:∀u∈news,u.oneCell'=true) (hm:0<m) (h63:n+m≤maxLen) (hbytes:(n+m)*i.bytes≤140737488355328) {v':Value} {w':World}
  (hr:(Builtin.append_ #[t,t] ty #[v,.slice (some a) m c]).run P w=.ok v' w'):v'.ownBlock=v.ownBlock∨v'.ownBlock=some w.heap.size:=by
 have hsmall:n+m≤9223372036854775807:=by unfold maxLen at h63;omega
 rcases hown.2 with ⟨rfl,rfl⟩|⟨g,cap,cur,rfl,hbg,hg,hnc,hcm,hcs,htake⟩
 ·rw [Nat.zero_add] at hbytes hsmall
  rw [run_append_nil (P:=P) w t ty e i z ht hi hz a m c news hl hnews hm (by omega) (by omega)] at hr
  injection hr with hv hw
  subst hv
  exact .inr rfl
 ·by_cases hroom:n+m≤cap
  ·have hfit:n*i.size+news.length≤cur.size:=by rw [hl,hcs,←Nat.add_mul];exact Nat.mul_le_mul_right _ hroom
   rw [run_append_room (P:=P) w t ty e i ht hi g n cap cur hg a m c news hl hnews h1 hroom hfit] at hr
   injection hr with hv hw
   subst hv
   exact .inl rfl
  ·rw [run_append_grow (P:=P) w t ty e i z ht hi hz ⟨g,0,none⟩ n cap xs hown.1 (hown.cells (g:=g) rfl) a m c news hl hnews (by omega) (by omega) (growslice_fits (by omega) hbytes)] at hr
   injection hr with hv hw
   subst hv
   exact .inr rfl
theorem wpList_appO {ops:Array Oper}{rest:List Oper}{o:Oper}{a:Act}{Q:Exit→Act→World→Prop}{w:World}(hgd:o.guard=none)(s x:Operand)(t:TypeId)
  (ho:o.op=.call { callee:=.builtin .append,args:=#[s,x],argTypes:=#[t,t] }) (ht:Tryz.prog.underlying t=some (.slice 53))
  {base:Nat} {v:Value} {ts:List Nd} (hs:a.eval s=v) (hown:OwnN base w v ts) {q:Nat} (hx:a.eval x=.slice (some ⟨q,0,none⟩) 1 1) {y:Nd} {A':Option Addr} {c':Nat} {B':Option Addr} {c2':Nat}
  (hq:∀o,o<5→w.cell? ⟨q,o,none⟩=(fiveC y A' c' B' c2')[o]?) {lo hi:Nat} (hlo:base≤lo) (hhi:hi≤w.heap.size) (hne:∀g,v.ownBlock=some g→g<lo) (hy:NdO lo hi w A' c' B' c2' y)
  (hn:ts.length+1≤1099511627776) (hbase:base≤w.heap.size)
  (h:∀v' w',OwnN base w' v' (ts++[y])→w.grownBy w' v.ownBlock→wpList Tryz.prog ops Q rest (a.put o.dst v') w'):wpList Tryz.prog ops Q (o::rest) a w:=by
 obtain⟨i,hi',hz0,hz1,hz2⟩:=info_parts node_info
 obtain⟨vs,h1,h2⟩:=hown
 have hlv:vs.length=ts.length*5:=h1.1
 have hl5:(fiveC y A' c' B' c2').length=1*5:=rfl
 have hnews:∀j u,(fiveC y A' c' B' c2')[j]?=some u→w.cell? ((⟨q,0,none⟩:Addr).add j)=some u:=by
  intro j u hu
  have hj:j<5:=by
   rcases Nat.lt_or_ge j 5 with h0|h0
   ·exact h0
   ·rw [List.getElem?_eq_none (by rw [hl5];omega)] at hu;cases hu
  rw [add_plain,Nat.zero_add,hq j hj,hu]
 refine wpList_plain hgd fun K hK=>?_
 obtain⟨v',w',hr,k2,k3,-⟩:=run_append_own (P:=Tryz.prog) w base t o.type 53 i _ 5 72 ht hi' hz0 hz1 hz2 rfl (by decide) v ts.length vs h1 ⟨q,0,none⟩ 1 1 _ hl5 hnews (fiveC_one _ _ _ _ _) (by unfold maxLen;omega) (by omega) hbase
 have k5:=append_block ht hi' hz0 (by rw [hz1];exact h1) (by rw [hz1];exact hl5) hnews (fiveC_one _ _ _ _ _) (by decide) (by unfold maxLen;omega) (by rw [hz2];omega) hr
 have hfin:=hK _ _ (h v' w' ?_ k3)
 ·unfold Oper.wp execOp
  simp only [ho,resolve,invoke,builtin,Sem.run_bind,Sem.run_pure,Result.andThen_ok,List.map_toArray,List.map_cons,List.map_nil,hs,hx,hr]
  exact hfin
 ·refine⟨vs++fiveC y A' c' B' c2',by rw [List.length_append];exact k2,fun j hj=>?_⟩
  by_cases hjl:j<ts.length
  ·obtain⟨A1,c1,B1,c3,lo1,hi1,g1,g2,g3,g4,g5⟩:=h2 j hjl
   rw [show (ts++[y])[j]=ts[j] from List.getElem_append_left hjl]
   refine⟨A1,c1,B1,c3,lo1,hi1,g1,Nat.le_trans g2 k3.size,fun g hg=>?_,g4.to fun k e1 e2=>k3.block k (by omega) fun e=>?_,fun o ho=>by rw [List.getElem?_append_left (by omega)];exact g5 o ho⟩
   ·rcases k5 with k5|k5
    ·exact g3 g (by rw [←k5];exact hg)
    ·rw [k5] at hg;injection hg with hg;exact .inr (by omega)
   ·have:=g3 k e.symm
    omega
  ·rw [List.length_append] at hj
   simp only [List.length_cons,List.length_nil] at hj
   obtain rfl:j=ts.length:=by omega
   have e:(ts++[y])[ts.length]'(by simp)=y:=by simp
   rw [e]
   refine⟨A',c',B',c2',lo,hi,hlo,Nat.le_trans hhi k3.size,fun g hg=>?_,hy.to fun k e1 e2=>k3.block k (by omega) fun e=>?_,fun o ho=>?_⟩
   ·rcases k5 with k5|k5
    ·rw [k5] at hg;exact .inl (hne g hg)
    ·rw [k5] at hg;injection hg with hg;exact .inr (by omega)
   ·have:=hne k e.symm
    omega
   ·rw [List.getElem?_append_right (by omega),hlv]
    congr 1
    omega
def NodF (lo:Nat)(x:Nd):Fact:=fun v w=>∃A c B c2 hi,v=.agg #[.int .i64 x.k,.int .i64 x.e,.int .i64 x.n,.slice A x.d.length c,.slice B x.ks.length c2]∧hi≤w.heap.size∧NdO lo hi w A c B c2 x
theorem stable_nod (lo:Nat)(x:Nd):stable (NodF lo x):=by
 rintro v w w' ⟨A,c,B,c2,hi,e,h1,h2⟩ hb
 exact⟨A,c,B,c2,hi,e,Nat.le_trans h1 hb.size,h2.below hb h1⟩
def OneF (lo:Nat)(x:Nd):Fact:=fun v w=>∃q A c B c2 hi,v=.slice (some ⟨q,0,none⟩) 1 1∧(∀o,o<5→w.cell? ⟨q,o,none⟩=(fiveC x A c B c2)[o]?)∧hi≤w.heap.size∧NdO lo hi w A c B c2 x
theorem stable_one (lo:Nat)(x:Nd):stable (OneF lo x):=by
 rintro v w w' ⟨q,A,c,B,c2,hi,e,h0,h1,h2⟩ hb
 refine⟨q,A,c,B,c2,hi,e,fun o ho=>?_,Nat.le_trans h1 hb.size,h2.below hb h1⟩
 have hq:q<w.heap.size:=World.block_lt_of_cell? w ⟨q,0,none⟩ (h0 0 (by decide))
 rw [hb.cell (p:=⟨q,o,none⟩) hq]
 exact h0 o ho
def OwnF (base:Nat)(ts:List Nd):Fact:=fun v w=>OwnN base w v ts
theorem stable_ownF (base:Nat)(ts:List Nd):stable (OwnF base ts):=fun v w w' h hb=>h.below hb (Nat.le_refl _)
theorem Blk.keeps {W W':World}{b:Nat}{cs:Array Value}(h:Blk W b cs){S:Nat→Prop}(hk:Keeps S W W')(hS:¬S b):Blk W' b cs:=by
 have hb:=hk.block b h.lt hS
 exact⟨fun o=>by rw [World.cell?_of_block (w:=W) hb];exact h.cell o,fun o=>by rw [World.frozen?_of_block (w:=W) hb];exact h.free o,Nat.lt_of_lt_of_le h.lt hk.size⟩
theorem OwnN.mono {base base':Nat}{w:World}{v:Value}{ts:List Nd}(h:OwnN base w v ts)(hb:base'≤base):OwnN base' w v ts:=by
 obtain⟨vs,h1,h2⟩:=h
 refine⟨vs,⟨h1.1,?_⟩,fun j hj=>?_⟩
 ·rcases h1.2 with h3|⟨g,cap,cur,hv,hg,r⟩
  ·exact .inl h3
  ·exact .inr ⟨g,cap,cur,hv,by omega,r⟩
 ·obtain⟨A',c',B',c2',lo,hi,k1,k2⟩:=h2 j hj
  exact⟨A',c',B',c2',lo,hi,by omega,k2⟩
theorem OwnN.far {base:Nat}{w:World}{v:Value}{ts:List Nd}(h:OwnN base w v ts){p:Addr}(hp:p.block<base)(u:Value):OwnN base (w.setCell p u) v ts:=by
 obtain⟨vs,h1,h2⟩:=h
 refine⟨vs,ownsRow_setCell_below h1 hp u,fun j hj=>?_⟩
 obtain⟨A',c',B',c2',lo,hi,k1,k2,k3,k4,k5⟩:=h2 j hj
 exact⟨A',c',B',c2',lo,hi,k1,by simpa using k2,k3,k4.to fun q q1 _=>Below.heap_setCell _ _ _ _ (by omega),k5⟩
theorem OwnN.cast {base:Nat}{w:World}{v:Value}{ts ts':List Nd}(h:OwnN base w v ts)(e:ts=ts'):OwnN base w v ts':=e ▸ h
theorem got_agree {w w':World}{base:Nat}{E:TypeId}{k:IntKind}{v:Value}{zs:List Int}(h:Got w base E k v zs)(hw:∀q,base≤q→q<w.heap.size→w'.heap[q]?=w.heap[q]?):Got w' base E k v zs:=by
 refine⟨h.1,?_⟩
 rcases h.2 with h3|⟨g,cap,cur,hv,hg,hh,r⟩
 ·exact .inl h3
 ·exact .inr ⟨g,cap,cur,hv,hg,(hw g hg (Array.getElem?_eq_some_iff.1 hh).1).trans hh,r⟩
theorem Ri.agree {w W:World}{k:IntKind}{A:Option Addr}{zs:List Int}(h:Ri w k A zs){N:Nat}(hw:∀q,q<N→W.heap[q]?=w.heap[q]?)(hN:w.heap.size≤N):Ri W k A zs:=by
 rcases h with rfl|⟨b,off,rfl,h⟩
 ·exact .inl rfl
 ·refine .inr ⟨b,off,rfl,fun j hj=>?_⟩
  have hlt:b<w.heap.size:=World.block_lt_of_cell? w ⟨b,off+j,none⟩ (h j hj)
  rw [World.cell?_of_block (w:=w) (hw b (by omega))]
  exact h j hj
theorem NdR.agree {w W:World}{A:Option Addr}{c:Nat}{B:Option Addr}{c2:Nat}{x:Nd}(h:NdR w A c B c2 x){N:Nat}(hw:∀q,q<N→W.heap[q]?=w.heap[q]?)(hN:w.heap.size≤N):NdR W A c B c2 x:=by
 induction h with
 | mk k e n d ks A c B c2 FA Fc FB Fc2 hk he hn hd hby hdl hc hA hkl hc2 hB hcell hsub ih=>
  refine .mk k e n d ks A c B c2 FA Fc FB Fc2 hk he hn (hd.agree hw hN) hby hdl hc hA hkl hc2 hB ?_ ih
  rcases hcell with h|⟨b,off,hBe,hcs⟩
  ·exact .inl h
  ·refine .inr ⟨b,off,hBe,fun j x hj=>?_⟩
   obtain⟨h0,h1,h2,h3,h4⟩:=hcs j x hj
   have hlt:b<w.heap.size:=World.block_lt_of_cell? w ⟨b,off+j*5,none⟩ h0
   have hc:=fun o=>World.cell?_of_block (w:=w) (a:=⟨b,o,none⟩) (hw b (by omega))
   exact⟨(hc _).trans h0,(hc _).trans h1,(hc _).trans h2,(hc _).trans h3,(hc _).trans h4⟩
def OkB (B:Nat)(w:World)(k:Nat):Prop:=k<w.heap.size∧(k<B∨w.cell? ⟨k,0,none⟩≠some (.int .i64 0))
def Rob (B:Nat)(w:World)(P:World→Prop):Prop:=∀W:World,(∀k,OkB B w k→W.heap[k]?=w.heap[k]?)→P W
theorem Rob.on {B:Nat}{w w':World}{P:World→Prop}(h:Rob B w P)(hb:Below w.heap.size w w'):Rob B w' P:=fun W hW=>h W fun k hk=>by
 have e:=hb.block k hk.1
 refine(hW k ⟨Nat.lt_of_lt_of_le hk.1 hb.size,?_⟩).trans e
 rw [World.cell?_of_block (w:=w) (a:=⟨k,0,none⟩) e]
 exact hk.2
theorem Rob.to {B:Nat}{w W:World}{P:World→Prop}(h:Rob B w P){b:Nat}(hB:B≤b)(hz:w.cell? ⟨b,0,none⟩=some (.int .i64 0))(hW:∀k,k≠b→W.heap[k]?=w.heap[k]?):P W:=h W fun k hk=>hW k fun e=>by
 subst e
 rcases hk.2 with h1|h1
 ·omega
 ·exact h1 hz
theorem Rob.and {B:Nat}{w:World}{P P2:World→Prop}(h:Rob B w P)(h2:Rob B w P2):Rob B w fun W=>P W∧P2 W:=fun W hW=>⟨h W hW,h2 W hW⟩
def gone (w:World)(b:Nat):World:={ w with heap:=w.heap.setIfInBounds b (.cells #[] 0) }
theorem gone_heap (w:World)(b k:Nat)(h:k≠b):(gone w b).heap[k]?=w.heap[k]?:=by
 unfold gone
 rw [Array.getElem?_setIfInBounds_ne (by omega)]
theorem gone_cell (w:World)(b o:Nat):(gone w b).cell? ⟨b,o,none⟩=none:=by
 unfold gone World.cell?
 by_cases h:b<w.heap.size
 ·simp [h]
 ·simp [Array.getElem?_eq_none (Nat.le_of_not_lt h),h]
theorem NdO.data {lo hi:Nat}{w:World}{A:Option Addr}{c:Nat}{B:Option Addr}{c2:Nat}{x:Nd}(h:NdO lo hi w A c B c2 x)(h0:0<x.d.length):∃b off,A=some ⟨b,off,none⟩∧lo≤b∧b<hi:=by
 obtain⟨k,e,n,d,ks⟩:=x
 obtain⟨b,off,hA,hc⟩:=h.nd.open.2.2.2.1.at (i:=0) h0
 refine⟨b,off,hA,Classical.byContradiction fun hn=>?_⟩
 have h1:=h (gone w b) (fun k hk1 hk2=>gone_heap w b k (fun e=>hn (e ▸ ⟨hk1,hk2⟩)))
 obtain⟨b',off',hA',hc'⟩:=h1.open.2.2.2.1.at (i:=0) h0
 rw [hA] at hA'
 injection hA' with e
 injection e with e1 e2
 subst e1
 have:=hc' 0 h0
 rw [gone_cell] at this
 cases this
theorem NdO.row {lo hi:Nat}{w:World}{A:Option Addr}{c:Nat}{B:Option Addr}{c2:Nat}{x:Nd}(h:NdO lo hi w A c B c2 x){j:Nat}(hj:j<x.ks.length):∃b off,B=some ⟨b,off,none⟩∧lo≤b∧b<hi:=by
 obtain⟨b,off,A',c',B',c2',hB,h0,-⟩:=h.nd.kidsX.1.at hj
 refine⟨b,off,hB,Classical.byContradiction fun hn=>?_⟩
 have h1:=h (gone w b) (fun k hk1 hk2=>gone_heap w b k (fun e=>hn (e ▸ ⟨hk1,hk2⟩)))
 obtain⟨b',off',_,_,_,_,hB',h0',-⟩:=h1.kidsX.1.at hj
 rw [hB] at hB'
 injection hB' with e
 injection e with e1 e2
 subst e1
 rw [gone_cell] at h0'
 cases h0'
def Byt (w:World)(base top:Nat)(A:Option Addr)(n:Nat):Prop:=n=0∨∃b off,A=some ⟨b,off,none⟩∧base≤b∧b<top∧(∀o,w.frozen? ⟨b,o,none⟩=false)∧∀j,j<n→∃z:Int,0≤z∧z<256∧w.cell? ⟨b,off+j,none⟩=some (.int .u8 z)
def Rws (w:World)(base top b off:Nat)(FA:Nat→Option Addr)(FL FC:Nat→Nat)(i kl:Nat):Prop:=base≤b∧b<top∧(∀o,w.frozen? ⟨b,o,none⟩=false)∧∀j,i≤j→j<kl→(∃k e n:Int,∃B l c,w.cell? ⟨b,off+j*5,none⟩=some (.int .i64 k)∧w.cell? ⟨b,off+j*5+1,none⟩=some (.int .i64 e)∧w.cell? ⟨b,off+j*5+2,none⟩=some (.int .i64 n) ∧
 w.cell? ⟨b,off+j*5+3,none⟩=some (.slice (FA j) (FL j) (FC j))∧w.cell? ⟨b,off+j*5+4,none⟩=some (.slice B l c))∧FL j≤FC j∧FC j≤9223372036854775807∧Byt w base top (FA j) (FL j)
theorem cell_same {w:World}{p:Addr}{u v:Value}(h:w.cell? p=some u):(w.setCell p v).cell? p=some v:=World.cell?_setCell_same' _ _ _ (by rw [h];rfl)
theorem cell_diff {w:World}{p q:Addr}{v:Value}(h:p≠q):(w.setCell p v).cell? q=w.cell? q:=World.cell?_setCell_other w p q v h
theorem Byt.put {w:World}{base top n:Nat}{A:Option Addr}(h:Byt w base top A n){p:Addr}{z z':Int}(hp:w.cell? p=some (.int .u8 z))(h0:0≤z')(h1:z'<256):Byt (w.setCell p (.int .u8 z')) base top A n:=by
 rcases h with h|⟨b,off,hA,hb,ht,hf,hc⟩
 ·exact .inl h
 ·refine .inr ⟨b,off,hA,hb,ht,fun o=>by rw [World.frozen?_setCell];exact hf o,fun j hj=>?_⟩
  by_cases e:p=⟨b,off+j,none⟩
  ·subst e
   exact⟨z',h0,h1,cell_same hp⟩
  ·obtain⟨y,h2,h3,h4⟩:=hc j hj
   exact⟨y,h2,h3,by rw [cell_diff e];exact h4⟩
theorem Byt.far {w:World}{base top n:Nat}{A:Option Addr}(h:Byt w base top A n){p:Addr}{u v:Value}(hp:w.cell? p=some u)(hu:∀z,u≠.int .u8 z):Byt (w.setCell p v) base top A n:=by
 rcases h with h|⟨b,off,hA,hb,ht,hf,hc⟩
 ·exact .inl h
 ·refine .inr ⟨b,off,hA,hb,ht,fun o=>by rw [World.frozen?_setCell];exact hf o,fun j hj=>?_⟩
  obtain⟨y,h2,h3,h4⟩:=hc j hj
  have e:p≠⟨b,off+j,none⟩:=by
   intro e
   subst e
   rw [h4] at hp
   injection hp with hp
   exact hu _ hp.symm
  exact⟨y,h2,h3,by rw [cell_diff e];exact h4⟩
theorem Rws.put {w:World}{base top b off i kl:Nat}{FA:Nat→Option Addr}{FL FC:Nat→Nat}(h:Rws w base top b off FA FL FC i kl){p:Addr}{z z':Int}(hp:w.cell? p=some (.int .u8 z))(h0:0≤z')(h1:z'<256):Rws (w.setCell p (.int .u8 z')) base top b off FA FL FC i kl:=by
 obtain⟨g1,g2,g3,g4⟩:=h
 refine⟨g1,g2,fun o=>by rw [World.frozen?_setCell];exact g3 o,fun j hi hj=>?_⟩
 obtain⟨⟨k,e,n,B,l,c,k0,k1,k2,k3,k4⟩,l1,l2,hb⟩:=g4 j hi hj
 have hd:∀q u,w.cell? q=some u→(∀z,u≠.int .u8 z)→(w.setCell p (.int .u8 z')).cell? q=some u:=by
  intro q u hq hu
  rw [cell_diff (fun e=>by subst e;rw [hp] at hq;injection hq with hq;exact hu _ hq.symm),hq]
 exact⟨⟨k,e,n,B,l,c,hd _ _ k0 (fun z h=>by cases h),hd _ _ k1 (fun z h=>by cases h),hd _ _ k2 (fun z h=>by cases h),hd _ _ k3 (fun z h=>by cases h),hd _ _ k4 (fun z h=>by cases h)⟩,l1,l2,hb.put hp h0 h1⟩
theorem Rws.cell {w:World}{base top b off i kl o:Nat}{FA:Nat→Option Addr}{FL FC:Nat→Nat}(h:Rws w base top b off FA FL FC (i+1) kl)(ho:o<5){u v:Value}(hp:w.cell? ⟨b,off+i*5+o,none⟩=some u)(hu:∀z,u≠.int .u8 z):Rws (w.setCell ⟨b,off+i*5+o,none⟩ v) base top b off FA FL FC (i+1) kl:=by
 obtain⟨g1,g2,g3,g4⟩:=h
 refine⟨g1,g2,fun o=>by rw [World.frozen?_setCell];exact g3 o,fun j hi hj=>?_⟩
 obtain⟨⟨k,e,n,B,l,c,k0,k1,k2,k3,k4⟩,l1,l2,hb⟩:=g4 j hi hj
 have hd:∀q,off+i*5+o<q→(w.setCell ⟨b,off+i*5+o,none⟩ v).cell? ⟨b,q,none⟩=w.cell? ⟨b,q,none⟩:=by
  intro q hq
  exact cell_diff (fun e=>by injection e with e1 e2;omega)
 exact⟨⟨k,e,n,B,l,c,by rw [hd _ (by omega)];exact k0,by rw [hd _ (by omega)];exact k1,by rw [hd _ (by omega)];exact k2,by rw [hd _ (by omega)];exact k3,by rw [hd _ (by omega)];exact k4⟩,l1,l2,hb.far hp hu⟩
theorem Rws.next {w:World}{base top b off i kl:Nat}{FA:Nat→Option Addr}{FL FC:Nat→Nat}(h:Rws w base top b off FA FL FC i kl)(hi:i<kl)(v0 v1 v2:Int)(A3:Option Addr)(l3 c3:Nat)(v4:Value):
  Rws (((((w.setCell ⟨b,off+i*5,none⟩ (.int .i64 v0)).setCell ⟨b,off+i*5+1,none⟩ (.int .i64 v1)).setCell ⟨b,off+i*5+2,none⟩ (.int .i64 v2)).setCell ⟨b,off+i*5+3,none⟩ (.slice A3 l3 c3)).setCell ⟨b,off+i*5+4,none⟩ v4) base top b off FA FL FC (i+1) kl:=by
 obtain⟨⟨k,e,n,B,l,c,k0,k1,k2,k3,k4⟩,-,-,-⟩:=h.2.2.2 i (Nat.le_refl _) hi
 have h1:Rws w base top b off FA FL FC (i+1) kl:=⟨h.1,h.2.1,h.2.2.1,fun j hj=>h.2.2.2 j (by omega)⟩
 have d:∀(w:World) (p q:Nat) v,p≠q→(w.setCell ⟨b,p,none⟩ v).cell? ⟨b,q,none⟩=w.cell? ⟨b,q,none⟩:=fun w p q v hpq=>cell_diff (fun e=>by injection e with e1 e2;exact hpq e2)
 refine(((((h1.cell (o:=0) (by omega) k0 (fun z h=>by cases h)).cell (o:=1) (u:=.int .i64 e) (by omega) ?_ (fun z h=>by cases h)).cell (o:=2) (u:=.int .i64 n) (by omega) ?_ (fun z h=>by cases h)).cell (o:=3) (u:=.slice (FA i) (FL i) (FC i)) (by omega) ?_ (fun z h=>by cases h)).cell (o:=4) (u:=.slice B l c) (by omega) ?_ (fun z h=>by cases h))
 ·rw [d _ _ _ _ (by omega)];exact k1
 ·rw [d _ _ _ _ (by omega),d _ _ _ _ (by omega)];exact k2
 ·rw [d _ _ _ _ (by omega),d _ _ _ _ (by omega),d _ _ _ _ (by omega)];exact k3
 ·rw [d _ _ _ _ (by omega),d _ _ _ _ (by omega),d _ _ _ _ (by omega),d _ _ _ _ (by omega)];exact k4
theorem Byt.below {w w':World}{base top n N:Nat}{A:Option Addr}(h:Byt w base top A n)(hb:Below N w w')(hN:top≤N):Byt w' base top A n:=by
 rcases h with h|⟨b,off,hA,h1,h2,hf,hc⟩
 ·exact .inl h
 ·refine .inr ⟨b,off,hA,h1,h2,fun o=>?_,fun j hj=>?_⟩
  ·rw [hb.frozen (p:=⟨b,o,none⟩) (by show b<N;omega)];exact hf o
  ·obtain⟨z,z0,z1,hz⟩:=hc j hj
   exact⟨z,z0,z1,by rw [hb.cell (p:=⟨b,off+j,none⟩) (by show b<N;omega)];exact hz⟩
theorem Rws.below {w w':World}{base top b off i kl N:Nat}{FA:Nat→Option Addr}{FL FC:Nat→Nat}(h:Rws w base top b off FA FL FC i kl)(hb:Below N w w')(hN:top≤N):Rws w' base top b off FA FL FC i kl:=by
 obtain⟨g1,g2,g3,g4⟩:=h
 refine⟨g1,g2,fun o=>by rw [hb.frozen (p:=⟨b,o,none⟩) (by show b<N;omega)];exact g3 o,fun j hi hj=>?_⟩
 obtain⟨⟨k,e,n,B,l,c,k0,k1,k2,k3,k4⟩,l1,l2,hbt⟩:=g4 j hi hj
 have hc:=fun o=>hb.cell (p:=⟨b,o,none⟩) (by show b<N;omega)
 exact⟨⟨k,e,n,B,l,c,(hc _).trans k0,(hc _).trans k1,(hc _).trans k2,(hc _).trans k3,(hc _).trans k4⟩,l1,l2,hbt.below hb hN⟩
end Go.Proofs.YtfaflahfjgnphaaGreatDoor
