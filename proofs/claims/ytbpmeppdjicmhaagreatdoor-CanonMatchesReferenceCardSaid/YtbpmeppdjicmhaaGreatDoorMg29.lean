/- The texts Ref13, Ref14, Two, Ref14b, Ref14c, Ref10b (what is wanted of them), one after the other. -/
import Derived.Test.YtbpmeppdjicmhaaGreatDoorMg22
namespace Go.Proofs.YtbpmeppdjicmhaaGreatDoor
open Go.ChangeShapes Go.WideShapes Go.ChangeAt Go.RowKit
set_option linter.unusedVariables false
set_option linter.unusedSimpArgs false
set_option maxRecDepth 100000
set_option maxRecDepth 100000 in
theorem RefObject13 (x:Nd)(A:Option Addr)(c:Nat)(B:Option Addr)(c2:Nat)(w:World)(hx:NdR w A c B c2 x)(hs:sizeN x≤1099511627776)(hv:validN x=true):
  Calls Tryz.prog 32 #[.agg #[.int .i64 x.k,.int .i64 x.e,.int .i64 x.n,.slice A x.d.length c,.slice B x.ks.length c2]] w fun r w'=>r=.returned (.int .i64 (canO x))∧Below w.heap.size w w':=by
 obtain⟨k,e,n,d,ks⟩:=x
 have HR:Hid (canO (.mk k e n d ks)=canOf k e n d ks):=Lib.hid rfl
 have hsz:sizeN (.mk k e n d ks)=1+d.length+sizeK ks:=by simp [sizeN]
 have hkl:=sizeK_length ks
 have HX:=Lib.hid hx
 have HS:=Lib.hid hs
 have hh:=valid_head hv
 simp only [Nd.k,Nd.e,Nd.n,Nd.d,Nd.ks]
 by_cases h0:k=0
 ·have HC:Hid (canOf k e n d ks=0):=Lib.hid (by unfold canOf;rw [if_pos h0])
  have t0:(k==0)=true:=by simpa using h0
  clear h0 hh hx
  go_enter Tryz.func32,Tryz.ntmps32
  go_wp2
  go_ret
  exact⟨by rw [HR.out,HC.out];rfl,(Below.refl _ _).alloc (Nat.le_refl _) _⟩
 have t0:(k==0)=false:=by simpa using h0
 by_cases h1:k=1
 ·have HC:Hid (canOf k e n d ks=((d.length / 8+ks.length:Nat):Int)):=Lib.hid (by unfold canOf;rw [if_neg h0,if_pos h1])
  have t1:(k==1)=true:=by simpa using h1
  have hq:((d.length:Int)).tdiv 8=((d.length / 8:Nat):Int):=by rw [Int.tdiv_eq_ediv_of_nonneg (by omega)];omega
  clear h0 h1 hh hx
  go_enter Tryz.func32,Tryz.ntmps32
  go_wp2
  go_ret
  exact⟨by rw [HR.out,HC.out];simp;try omega,(Below.refl _ _).alloc (Nat.le_refl _) _⟩
 have t1:(k==1)=false:=by simpa using h1
 have hk2:k=2:=by rcases hh with h|h|h<;>omega
 obtain⟨-,hn0,hn1,he0,he7,-,-⟩:k=2∧0≤n∧n≤536870911∧0≤e∧e≤7∧True∧True:=by
  rcases hh with h|h|h
  ·omega
  ·omega
  ·exact⟨h.1,h.2.1,h.2.2.1,h.2.2.2.1,h.2.2.2.2.1,trivial,trivial⟩
 by_cases h7:e=7
 ·obtain⟨u,hu⟩:∃u,uniD ks ks.length=u:=⟨_,rfl⟩
  obtain⟨v,hv2⟩:∃v,uniP ks ks.length=v:=⟨_,rfl⟩
  have HC:Hid (canOf k e n d ks=1+n*((u:Int)+v)):=Lib.hid (by unfold canOf;rw [if_neg h0,if_neg h1,if_pos h7,hu,hv2];simp)
  have hub:=(by subst hk2 h7;exact uni_bd hv:uniD ks ks.length≤65535∧uniP ks ks.length≤65535)
  rw [hu,hv2] at hub
  have m0:0≤n*((u:Int)+v):=Int.mul_nonneg hn0 (by omega)
  have m1:n*((u:Int)+v)≤536870911*131070:=Int.mul_le_mul (by omega) (by omega) (by omega) (by omega)
  have HU:=Lib.hid (fun w2 (h2:NdR w2 A c B c2 (.mk k e n d ks))=>RefUniform11_any (.mk k e n d ks) A c B c2 w2 h2 HS.out)
  simp only [Nd.k,Nd.e,Nd.n,Nd.d,Nd.ks] at HU
  rw [hu,hv2] at HU
  have t7:(e==7)=true:=by simpa using h7
  clear h0 h1 h7 hk2 hh hx hu hv2 hv hs
  go_enter Tryz.func32,Tryz.ntmps32
  go_wp2_with fail
  refine(HU.out _ (HX.out.on ((Below.refl _ _).alloc (Nat.le_refl _) _) (Nat.le_refl _))).mono ?_
  rintro r w1 ⟨rfl,hb1⟩
  have B1:=(Blk.fresh w #[.int .i64 k,.int .i64 e,.int .i64 n,.slice A d.length c,.slice B ks.length c2] 39).below hb1
  have HB:Hid (Below w.heap.size w w1):=Lib.hid (((Below.refl _ _).alloc (Nat.le_refl _) _).trans (hb1.mono (by simp)))
  clear hb1 HU
  obtain⟨x1,y1,z1⟩:=B1
  go_wp2
  go_ret
  exact⟨by rw [HR.out,HC.out];rfl,HB.out⟩
 ·have t7:(e==7)=false:=by simpa using h7
  have HC:Hid (canOf k e n d ks=wordsI e n):=Lib.hid (by unfold canOf;rw [if_neg h0,if_neg h1,if_neg h7])
  clear h0 h1 h7 hk2 hh hx hv
  go_enter Tryz.func32,Tryz.ntmps32
  go_wp2_with fail
  refine(RefWords6_any e n _ hn0 hn1).mono ?_
  rintro r w1 ⟨rfl,rfl⟩
  go_wp2
  go_ret
  exact⟨by rw [HR.out,HC.out];rfl,(Below.refl _ _).alloc (Nat.le_refl _) _⟩
set_option maxRecDepth 100000 in
theorem RefNode13:∀(x:Nd) (A:Option Addr) (c:Nat) (B:Option Addr) (c2:Nat) (w:World),NdR w A c B c2 x→sizeN x≤1099511627776→validN x=true →
  Calls Tryz.prog 18 #[.agg #[.int .i64 x.k,.int .i64 x.e,.int .i64 x.n,.slice A x.d.length c,.slice B x.ks.length c2]] w fun r w'=>r=.returned (.int .i64 (canN x))∧Below w.heap.size w w':=by
 refine size_ind ?_
 intro x ih A c B c2 w hx hs hv
 have HX:=Lib.hid hx
 have HI:=Lib.hid ih
 have HE:=Lib.hid (canN_eq x)
 have HVT:=Lib.hid (valid_targ hv)
 have HO:=Lib.hid (fun w2 (h2:NdR w2 A c B c2 x)=>RefObject13 x A c B c2 w2 h2 hs hv)
 have hsz:=sizeK_targ x
 have hlz:=sizeK_length (targN x)
 have hcs:=(can_size x hv)
 have hco:=(canO_size hv).1
 have HT:Hid (canK ((targN x).take (targN x).length)=canK (targN x)):=Lib.hid (by rw [List.take_length])
 have HTL:Hid (∀j,0≤canK ((targN x).take j)∧canK ((targN x).take j)≤canK (targN x)):=Lib.hid (by
  intro j
  have h1:canK (targN x)=canK ((targN x).take j)+canK ((targN x).drop j):=by rw [←canK_append,List.take_append_drop]
  have h2:∀l:List Nd,(∀y∈l,validN y=true)→0≤canK l:=by
   intro l hl
   induction l with
   | nil=>simp [canK]
   | cons y ys ih2=>
    have h3:=(can_size y (hl y (List.mem_cons_self ..))).1
    have h4:=ih2 (fun z hz=>hl z (List.mem_cons_of_mem _ hz))
    simp only [canK]
    omega
  have h5:=h2 _ (fun y hy=>HVT.out y (List.mem_of_mem_take hy:y∈targN x):∀y∈(targN x).take j,validN y=true)
  have h6:=h2 _ (fun y hy=>HVT.out y (List.mem_of_mem_drop hy:y∈targN x):∀y∈(targN x).drop j,validN y=true)
  omega)
 rw [HE.out] at hcs
 clear hx ih hv
 generalize canO x=o at *
 go_enter Tryz.func18,Tryz.ntmps18
 go_wp2_with fail
 refine(HO.out _ (HX.out.on ((Below.refl _ _).alloc (Nat.le_refl _) _) (Nat.le_refl _))).mono ?_
 rintro r w0 ⟨rfl,hb0⟩
 have B0:=(Blk.fresh w #[.int .i64 x.k,.int .i64 x.e,.int .i64 x.n,.slice A x.d.length c,.slice B x.ks.length c2] 39).below hb0
 have HB0:Hid (Below w.heap.size w w0):=Lib.hid (((Below.refl _ _).alloc (Nat.le_refl _) _).trans (hb0.mono (by simp)))
 clear hb0 HO
 obtain⟨x0,y0,z0⟩:=B0
 go_wp2_with fail
 refine(RefTargets_node x A c B c2 _ (HX.out.on HB0.out (Nat.le_refl _)) hs).mono ?_
 rintro r w1 ⟨B1,c1,rfl,hks,hl1,hc1,hb1⟩
 have HB1:Hid (Below w.heap.size w w1):=Lib.hid (bel_on HB0.out hb1)
 have HK:=Lib.hid hks
 have HM:Hid (∀t∈targN x,sizeN t<sizeN x∧sizeN t≤sizeK (targN x)):=Lib.hid (fun t ht=>⟨targ_lt ht,sizeN_kid ht⟩)
 clear hb1 hks x0 y0 z0 HB0
 generalize hts:targN x=ts at *
 clear hts
 go_wp2
 go_loopw [3,5] (fun s i wr=>∃j:Nat,j≤ts.length∧i=.int .i64 j∧s=.int .i64 (o+canK (ts.take j))∧Below w1.heap.size w1 wr) (fun _ i _=>ts.length-(intOf i).toNat)
 case atStart=>exact⟨0,by omega,rfl,by simp [canK],Below.refl _ _⟩
 case round=>
  obtain⟨j,hj,rfl,rfl,hbr⟩:=hrel
  have hle:=HTL.out j
  by_cases hlt:j<ts.length
  ·obtain⟨b,off,A',c',B',c2',rfl,k0,k1,k2,k3,k4,hsub⟩:=(HK.out.on hbr (Nat.le_refl _)).at hlt
   have HBR:=Lib.hid hbr
   obtain⟨hz1,hz2⟩:=HM.out ts[j] (List.getElem_mem hlt)
   have hvj:=HVT.out ts[j] (List.getElem_mem hlt)
   have HST:=Lib.hid (canK_take ts j hlt)
   have hle2:=HTL.out (j+1)
   have HC:=Lib.hid (HI.out ts[j] hz1 A' c' B' c2' wr hsub (by omega) hvj)
   have hnz:=can_size ts[j] hvj
   have hsum:o+canK (ts.take j)+canN ts[j]=o+canK (ts.take (j+1)):=by rw [HST.out];omega
   have HSUM:=Lib.hid hsum
   have hrange:-9223372036854775808≤o+canK (ts.take j)+canN ts[j]∧o+canK (ts.take j)+canN ts[j]≤9223372036854775807:=by omega
   clear hsub hbr hsum hvj
   go_wp2_with fail
   refine HC.out.mono ?_
   rintro r w' ⟨rfl,hb2⟩
   have HB2:=Lib.hid (bel_on HBR.out hb2)
   clear hb2 k0 k1 k2 k3 k4
   go_wp2
   go_roundw
   case rel=>exact⟨j+1,by omega,by go_num,by rw [HSUM.out],HB2.out⟩
   case measure=>simp [intOf];omega
  ·obtain rfl:j=ts.length:=by omega
   go_wp2
   go_ret
   exact⟨by rw [HE.out,←HT.out];rfl,HB1.out.trans (hbr.mono HB1.out.size)⟩
theorem rep_snoc (b:List Int)(j:Nat):(b++List.replicate j 0)++[0]=b++List.replicate (j+1) 0:=by
 rw [List.append_assoc,List.replicate_succ']
set_option maxRecDepth 100000 in
theorem RefPadded14 (A:Option Addr)(c:Nat)(b:List Int)(n:Nat)(w:World)(hr:Ri w .u8 A b)(hb:Bts b)(hnil:A=none→c=0)(hbn:b.length≤8*n)(hm:n≤1099511627776):
  Calls Tryz.prog 85 #[.slice A b.length c,.int .i64 n] w fun e w'=>∃v,e=.returned v∧Got w' w.heap.size 48 .u64 v (padW b n)∧Below w.heap.size w w':=by
 obtain⟨i0,hi,hz0,hz1,hz2⟩:=info_parts int8_info
 have HR1:=Lib.hid (hr.alloc (.cells #[] 5))
 have HBT:=Lib.hid hb
 have HPW:Hid (padW b n=wordsOf (b++List.replicate (8*n-b.length) 0)):=Lib.hid rfl
 have HBZ:Hid (∀j,Bts (b++List.replicate j 0)):=Lib.hid (fun j z hz=>by
  rcases List.mem_append.1 hz with hz|hz
  ·exact hb z hz
  ·rw [List.eq_of_mem_replicate hz];omega)
 have HNL:=Lib.hid hnil
 clear hr hb hnil
 go_enter Tryz.func85,Tryz.ntmps85
 go_wp2_with (at_builtin;refine wpList_appN rfl (.tmp 8) (.tmp 9) 36 rfl Tryz.underlying36 hi hz0 hz1 hz2 rfl (Got.empty_made w 5 .u8 (base:=w.heap.size) (Nat.le_refl _)) rfl HR1.out HNL.out (by unfold maxLen;simp;omega) (by simp;omega) (by simp) ?_;intro v2 w2 hg2 hb2)
 have hB0:Below w.heap.size w w2:=((Below.refl _ _).alloc (Nat.le_refl _) _).trans hb2
 go_loopw [5] (fun v wr=>∃j:Nat,b.length+j≤8*n∧Got wr w.heap.size 5 .u8 v (b++List.replicate j 0)∧Below w.heap.size w wr) (fun v _=>match v with|.slice _ l _=>8*n-l|_=>0)
 case atStart=>exact⟨0,by omega,by simpa using hg2,hB0⟩
 case round=>
  clear hg2 hb2 hB0
  obtain⟨j,hj,hg,hbr⟩:=hrel
  obtain⟨A5,c5,rfl,hl5,hm5,hr5⟩:=hg.slice
  have HG:=Lib.hid hg
  have HR:=Lib.hid hbr
  have hsz:=hbr.size
  have hL:(b++List.replicate j 0).length=b.length+j:=by rw [List.length_append,List.length_replicate]
  have HL:=Lib.hid hL
  have HR5:=Lib.hid hr5
  have HBJ:=Lib.hid (HBZ.out j)
  have HS:=Lib.hid (rep_snoc b j)
  have HEND:Hid (b.length+j=8*n→b++List.replicate j 0=b++List.replicate (8*n-b.length) 0):=Lib.hid (fun h=>by congr 2;omega)
  clear hg hbr hr5 hl5 hm5
  by_cases hlt:b.length+j<8*n
  ·have t1:(((b++List.replicate j 0).length:Nat):Int)<8*(n:Int):=by rw [hL];omega
   generalize b++List.replicate j 0=cur at *
   go_wp2_with (at_builtin;refine wpList_app1 rfl (.tmp 16) (.tmp 17) 36 rfl Tryz.underlying36 hi hz0 hz1 hz2 rfl HG.out rfl (by rw [HL.out];unfold maxLen;omega) (by rw [HL.out];omega) hsz ?_;intro v1 w1 hg1 hb1)
   rw [HS.out] at hg1
   obtain⟨A6,c6,rfl,-⟩:=hg1.slice
   have hl6:(b++List.replicate (j+1) 0).length=b.length+(j+1):=by rw [List.length_append,List.length_replicate]
   go_roundw
   case rel=>exact⟨j+1,by omega,hg1,HR.out.trans hb1⟩
   case measure=>
    simp only [hl6]
    have:=HL.out
    simp
    omega
  ·have he:=HEND.out (by omega)
   have t1:¬((((b++List.replicate j 0).length:Nat):Int)<8*(n:Int)):=by rw [hL];omega
   rw [←he] at HPW
   have h8:(b++List.replicate j 0).length % 8=0:=by rw [hL];omega
   clear he HEND HS
   have hcl:(b++List.replicate j 0).length≤140737488355328:=by rw [hL];omega
   clear hL
   generalize b++List.replicate j 0=cur at *
   have HWD:=Lib.hid (RefWords_yes A5 c5 cur wr HR5.out HBJ.out hcl h8)
   go_wp2_with fail
   refine HWD.out.mono ?_
   rintro e w3 ⟨v3,rfl,hg3,hb3⟩
   have HG3:=Lib.hid (hg3.mono hsz)
   have HB3:=Lib.hid (bel_on HR.out hb3)
   clear hg3 hb3
   go_wp2
   go_ret
   exact⟨_,rfl,by rw [HPW.out];exact HG3.out,HB3.out⟩
theorem append_block2 {P:Program}{w:World}{base:Nat}{t ty e:TypeId}{i:TypeInfo}{z:Value}(ht:P.underlying t=some (.slice e))(hi:P.info? e=some i)(hz:i.zero=some z)
  {v:Value} {n:Nat} {xs:List Value} (hown:w.ownsRow base e i.size v n xs) {a:Addr} {m c:Nat} {news:List Value} (hl:news.length=m*i.size) (hnews:∀j u,news[j]?=some u→w.cell? (a.add j)=some u)
  (h1:∀u∈news,u.oneCell'=true) (hm:0<m∨v≠.slice none 0 0) (h63:n+m≤maxLen) (hbytes:(n+m)*i.bytes≤140737488355328) {v':Value} {w':World}
  (hr:(Builtin.append_ #[t,t] ty #[v,.slice (some a) m c]).run P w=.ok v' w'):v'.ownBlock=v.ownBlock∨v'.ownBlock=some w.heap.size:=by
 by_cases h0:0<m
 ·exact append_block ht hi hz hown hl hnews h1 h0 h63 hbytes hr
 ·obtain rfl:m=0:=by omega
  have hv:=hm.resolve_left h0
  rcases hown.2 with ⟨rfl,rfl⟩|⟨g,cap,cur,rfl,hbg,hg,hnc,hcm,hcs,htake⟩
  ·exact absurd rfl hv
  ·have hfit:n*i.size+news.length≤cur.size:=by rw [hl,hcs,←Nat.add_mul];exact Nat.mul_le_mul_right _ (by omega)
   rw [run_append_room (P:=P) w t ty e i ht hi g n cap cur hg a 0 c news hl hnews h1 (by omega) hfit] at hr
   injection hr with hv hw
   subst hv
   exact .inl rfl
def Apart (v u:Value):Prop:=∀g,v.ownBlock=some g→u.ownBlock≠some g
theorem Apart.symm {v u:Value}(h:Apart v u):Apart u v:=fun g h1 h2=>h g h2 h1
theorem apart_none (v:Value):Apart v (.slice none 0 0):=fun g _ h=>by simp [Value.ownBlock] at h
theorem Got.drewT {w:World}{base:Nat}{E:TypeId}{k:IntKind}{v:Value}{zs:List Int}(h:Got w base E k v zs):Got w.drew base E k v zs:=h
theorem Got.kept {w w':World}{base:Nat}{E:TypeId}{k:IntKind}{u v:Value}{zs:List Int}(h:Got w base E k u zs)(hg:w.grownBy w' v.ownBlock)(ha:Apart v u):Got w' base E k u zs:=by
 refine World.ownsRow.kept h hg ?_
 cases hu:u.ownBlock with
 | none=>exact .inl rfl
 | some g=>exact .inr (fun e=>ha g e.symm hu)
theorem wpList_appT {ops:Array Oper}{rest:List Oper}{o:Oper}{a:Act}{Q:Exit→Act→World→Prop}{w:World}(hgd:o.guard=none)(s x:Operand)(t:TypeId)
  (ho:o.op=.call { callee:=.builtin .append,args:=#[s,x],argTypes:=#[t,t] })
  {base:Nat} {e:TypeId} {i:TypeInfo} {k:IntKind} {bytes:Nat} (ht:Tryz.prog.underlying t=some (.slice e)) (hi:Tryz.prog.info? e=some i) (hz:i.zero=some (.int k 0)) (hsize:i.size=1) (hby:i.bytes=bytes)
  {v u:Value} {zs ys us:List Int} {E:TypeId} {k2:IntKind} {A:Option Addr} {c:Nat} (hs:a.eval s=v) (hown:Got w base e k v zs) (hou:Got w base E k2 u us) (hap:Apart v u) (hx:a.eval x=.slice A ys.length c) (hr:Ri w k A ys) (hc:A=none→c=0) (hm:0<ys.length∨v≠.slice none 0 0)
  (h63:zs.length+ys.length≤maxLen) (hbytes:(zs.length+ys.length)*bytes≤140737488355328) (hbase:base≤w.heap.size)
  (h:∀v' w',Got w' base e k v' (zs++ys)→Got w' base E k2 u us→Apart v' u→Below base w w'→wpList Tryz.prog ops Q rest (a.put o.dst v') w'):wpList Tryz.prog ops Q (o::rest) a w:=by
 cases A with
 | none=>
  have hy:ys=[]:=by
   rcases hr with h0|⟨b,off,h0,_⟩
   ·exact h0
   ·cases h0
  subst hy
  obtain rfl:=hc rfl
  exact wpList_append_own_none hgd s x t ho base e i 1 ht hi v zs.length _ hs hown hx (h v w (by simpa using hown) hou hap (Below.refl _ _))
 | some ad=>
  have hnews:∀j u,(ys.map (Value.int k))[j]?=some u→w.cell? (ad.add j)=some u:=by
   intro j u hj
   rcases hr with rfl|⟨b,off,h0,hcell⟩
   ·simp at hj
   ·injection h0 with h0
    subst h0
    have hlt:j<ys.length:=by
     rcases Nat.lt_or_ge j ys.length with h1|h1
     ·exact h1
     ·rw [List.getElem?_eq_none (by simpa using h1)] at hj;cases hj
    have h2:=hcell j hlt
    have e1:(⟨b,off,none⟩:Addr).add j=⟨b,off+j,none⟩:=add_plain b off j
    rw [e1,h2]
    simp [hlt] at hj
    subst hj
    simp [zat,List.getD_eq_getElem?_getD,hlt]
  have hone:∀u∈ys.map (Value.int k),u.oneCell'=true:=by
   intro u hu
   simp at hu
   obtain⟨z,_,rfl⟩:=hu
   rfl
  refine wpList_plain hgd fun K hK=>?_
  obtain⟨v',w',hr',k2',k3,-⟩:=run_append_own (P:=Tryz.prog) w base t o.type e i (.int k 0) 1 bytes ht hi hz hsize hby rfl (by decide) v zs.length _ hown ad ys.length c (ys.map (Value.int k)) (by simp) hnews hone h63 hbytes hbase
  have k5:=append_block2 ht hi hz (by rw [hsize];exact hown) (by rw [hsize];simp) hnews hone hm h63 (by rw [hby];exact hbytes) hr'
  have hou2:=hou.kept k3 hap
  have hap2:Apart v' u:=by
   intro g hg hu
   rcases k5 with k5|k5
   ·exact hap g (by rw [←k5];exact hg) hu
   ·rw [k5] at hg
    injection hg with hg
    have:=(hou.lt g hu).2
    omega
  have hfin:=hK _ _ (h v' w' (by unfold Got;simpa using k2') hou2 hap2 ((Below.refl base w).grown k3 hbase (fun g hg=>(hown.lt g hg).1)))
  unfold Oper.wp execOp
  simp only [ho,resolve,invoke,builtin,Sem.run_bind,Sem.run_pure,Result.andThen_ok,List.map_toArray,List.map_cons,List.map_nil,hs,hx,hr']
  exact hfin
theorem wpList_appT1 {ops:Array Oper}{rest:List Oper}{o:Oper}{a:Act}{Q:Exit→Act→World→Prop}{w:World}(hgd:o.guard=none)(s x:Operand)(t:TypeId)
  (ho:o.op=.call { callee:=.builtin .append,args:=#[s,x],argTypes:=#[t,t] })
  {base:Nat} {e:TypeId} {i:TypeInfo} {k:IntKind} {bytes:Nat} (ht:Tryz.prog.underlying t=some (.slice e)) (hi:Tryz.prog.info? e=some i) (hz:i.zero=some (.int k 0)) (hsize:i.size=1) (hby:i.bytes=bytes)
  {v u:Value} {zs us:List Int} {y:Int} {E:TypeId} {k2:IntKind} (hs:a.eval s=v) (hown:Got w base e k v zs) (hou:Got w base E k2 u us) (hap:Apart v u) {T:TypeId} (hx:a.eval x=.slice (some ⟨w.heap.size,0,none⟩) 1 1)
  (h63:zs.length+1≤maxLen) (hbytes:(zs.length+1)*bytes≤140737488355328) (hbase:base≤w.heap.size)
  (h:∀v' w',Got w' base e k v' (zs++[y])→Got w' base E k2 u us→Apart v' u→Below base w w'→wpList Tryz.prog ops Q rest (a.put o.dst v') w'):wpList Tryz.prog ops Q (o::rest) a (w.alloc (.cells #[.int k y] T)):=by
 have hal:Below w.heap.size w (w.alloc (.cells #[.int k y] T)):=(Below.refl _ _).alloc (Nat.le_refl _) _
 refine wpList_appT hgd s x t ho (ys:=[y]) ht hi hz hsize hby hs (hown.below hal (Nat.le_refl _)) (hou.below hal (Nat.le_refl _)) hap (by rw [hx];rfl) (Ri.lit w k [y] T) (fun h=>by cases h) (.inl (by simp)) h63 hbytes (by simp;omega) ?_
 intro v' w' h1 h2 h3 h4
 exact h v' w' h1 h2 h3 ((hal.mono hbase).trans h4)
def natsI (l:List Nat):List Int:=l.map (fun i:Nat=>(i:Int))
theorem int_info14:(Tryz.prog.info? 3).map (fun i=>(i.zero,i.size,i.bytes))=some (some (.int .i64 0),1,8):=by kernel_rfl
theorem natsI_snoc (l:List Nat)(i:Nat):natsI (l++[i])=natsI l++[(i:Int)]:=by simp [natsI]
theorem natsI_length (l:List Nat):(natsI l).length=l.length:=by simp [natsI]
def posS (D j:Nat):List Nat:=(List.range j).map (fun i=>D+i)
theorem posS_length (D j:Nat):(posS D j).length=j:=by simp [posS]
theorem posS_succ (D j:Nat):posS D (j+1)=posS D j++[D+j]:=by simp [posS,List.range_succ]
theorem padW_len8 {d:List Int}(h8:d.length % 8=0):padW d (d.length / 8)=wordsOf d:=by
 unfold padW
 rw [show 8*(d.length / 8)-d.length=0 by omega]
 simp
set_option maxHeartbeats 1000000 in
set_option maxRecDepth 100000 in
theorem Shallow14_str (d:List Int)(ks:List Nd)(A:Option Addr)(c:Nat)(B:Option Addr)(c2:Nat)(w:World)(hx:NdR w A c B c2 (.mk 1 0 0 d ks))(hv:validN (.mk 1 0 0 d ks)=true):
  Calls Tryz.prog 58 #[.agg #[.int .i64 1,.int .i64 0,.int .i64 0,.slice A d.length c,.slice B ks.length c2]] w fun r w'=>∃v u,r=.returned (.tuple #[v,.agg #[.int .i64 0,.int .i64 0,.int .i64 ((d.length / 8:Nat):Int),.int .i64 ks.length,.int .i64 0,.int .i64 0,.bool false,.int .i64 0,.int .u32 0,.int .u32 0],u]) ∧
   Got w' w.heap.size 48 .u64 v (fillW (.mk 1 0 0 d ks) 0)∧Got w' w.heap.size 3 .i64 u (natsI (posL (.mk 1 0 0 d ks)))∧Below w.heap.size w w':=by
 obtain⟨i0,hi,hz0,hz1,hz2⟩:=info_parts int64_info
 obtain⟨-,-,h8,hd5,hk5⟩:=head_str hv
 have HD:=Lib.hid hx.open.2.2.2.1
 have HBT:=Lib.hid hx.open.2.2.2.2.1
 have HNL:=Lib.hid hx.open.2.2.2.2.2.2.2.1
 have HB0:=Lib.hid (fun o1 o2 o3=>(((Below.refl w.heap.size w).alloc (Nat.le_refl _) o1).alloc (by simp) o2).alloc (by simp;omega) o3)
 clear hx hv
 obtain⟨j0,gj,gj0,gj1,gj2⟩:=info_parts int_info14
 have HPD:=Lib.hid (fun w2 (hr:Ri w2 .u8 A d)=>RefPadded14 A c d (d.length / 8) w2 hr HBT.out HNL.out (by omega) (by omega))
 have HW:Hid (fillW (.mk 1 0 0 d ks) 0=padW d (d.length / 8)++List.replicate ks.length 0):=Lib.hid (by
  unfold fillW
  rw [List.take_zero,List.nil_append,Nat.sub_zero,targN_mk,if_neg (by decide)]
  show wordsOf d++_=_
  rw [padW_len8 h8])
 have HPW:Hid ((padW d (d.length / 8)).length=d.length / 8):=Lib.hid (padW_length (by omega))
 have HPO:Hid (∀j,posS (d.length / 8) (j+1)=posS (d.length / 8) j++[d.length / 8+j]):=Lib.hid (fun j=>posS_succ _ j)
 have HPL:Hid (posL (.mk 1 0 0 d ks)=posS (d.length / 8) ks.length):=Lib.hid rfl
 generalize posL (.mk 1 0 0 d ks)=pl at *
 generalize fillW (.mk 1 0 0 d ks) 0=fb at *
 have HRS:=Lib.hid (fun (l:List Int) (j:Nat)=>rep_snoc l j)
 obtain⟨D,hD⟩:∃D,d.length / 8=D:=⟨_,rfl⟩
 rw [hD] at HPD HW HPW HPO HPL
 rw [hD]
 generalize padW d D=pw at *
 have hD8:(d.length:Int) / 8=(D:Int):=by omega
 go_enter Tryz.func58,Tryz.ntmps58
 go_wp2_with fail
 refine abs_world (F:=fun W=>Blk W w.heap.size #[.int .i64 1,.int .i64 0,.int .i64 0,.slice A d.length c,.slice B ks.length c2]∧Blk W (w.heap.size+1) #[.int .i64 0,.int .i64 0,.int .i64 0,.int .i64 0,.int .i64 0,.int .i64 0,.bool false,.int .i64 0,.int .u32 0,.int .u32 0]∧Blk W (w.heap.size+1+1) #[.int .i64 0,.int .i64 0,.int .i64 D,.int .i64 ks.length,.int .i64 0,.int .i64 0,.bool false,.int .i64 0,.int .u32 0,.int .u32 0]∧Below w.heap.size w W) ⟨?_,?_,?_,?_⟩ ?_
 ·exact((Blk.fresh _ _ _).alloc _).alloc _
 ·exact(Blk.new (by simp)).alloc _
 ·exact Blk.new (by simp)
 ·exact HB0.out _ _ _
 rintro W ⟨hB1,hB2,hB3,hbw⟩
 refine(HPD.out W (HD.out.below hbw (Nat.le_refl _))).mono ?_
 rintro r w4 ⟨v4,rfl,hg4,hb4⟩
 have hz3:w.heap.size+1+1+1≤W.heap.size:=hB3.lt
 have HG0:Hid (Got w4 (w.heap.size+1+1+1) 48 .u64 v4 pw):=Lib.hid (hg4.mono hz3)
 have H1:=Lib.hid (hB1.below hb4)
 have H2:=Lib.hid (hB2.below hb4)
 have H3:=Lib.hid (hB3.below hb4)
 have HB:=Lib.hid (bel_on hbw hb4)
 have hz4:=hb4.size
 obtain⟨x3,y3,z3⟩:=H3.out
 clear hg4 hB1 hB2 hB3 hbw hb4
 go_wp2
 go_loopw [6,7,8] (fun u v i wr=>∃j:Nat,j≤ks.length∧i=.int .i64 j∧Got wr (w.heap.size+1+1+1) 48 .u64 v (pw++List.replicate j 0)∧Got wr (w.heap.size+1+1+1) 3 .i64 u (natsI (posS D j))∧Apart v u∧Below (w.heap.size+1+1+1) w4 wr) (fun _ _ i _=>ks.length-(intOf i).toNat)
 case atStart=>exact⟨0,by omega,rfl,by simpa using HG0.out,Got.empty _ _ _ _,apart_none _,Below.refl _ _⟩
 case round=>
  clear x3 y3 z3
  obtain⟨j,hj',rfl,hg,hu,hap,hbr⟩:=hrel
  have HG:=Lib.hid hg
  have HU:=Lib.hid hu
  have HAP:=Lib.hid hap
  have HBR:=Lib.hid hbr
  have hsz:=hbr.size
  have B3:=H3.out.belowN hbr (Nat.lt_succ_self _)
  obtain⟨x3,y3,z3⟩:=B3
  obtain⟨A5,c5,rfl,-⟩:=hg.slice
  have hL:(pw++List.replicate j 0).length=D+j:=by rw [List.length_append,List.length_replicate,HPW.out]
  have hLU:(natsI (posS D j)).length=j:=by rw [natsI_length,posS_length]
  have HL:=Lib.hid hL
  have HLU:=Lib.hid hLU
  rw [hL]
  clear hg hu hap hbr hL hLU
  by_cases hlt:j<ks.length
  ·have hj1:(j:Int)<(ks.length:Int):=by omega
   have hszz:w.heap.size+1+1+1≤wr.heap.size:=by omega
   go_wp2_with (first
    | (at_builtin;refine wpList_appT1 rfl (.tmp 41) (.tmp 44) 97 rfl Tryz.underlying97 gj gj0 gj1 gj2 (v:=u6) rfl HU.out HG.out HAP.out.symm rfl (by rw [HLU.out];unfold maxLen;omega) (by rw [HLU.out];omega) hszz ?_;intro u5 w5 hu5 hg5 hap5 hb5)
    | (at_builtin;refine wpList_appT1 rfl (.tmp 46) (.tmp 47) 27 rfl Tryz.underlying27 hi hz0 hz1 hz2 (v:=.slice A5 (pw++List.replicate j 0).length c5) (by rw [HL.out];rfl) hg5 hu5 hap5.symm rfl (by rw [HL.out];unfold maxLen;omega) (by rw [HL.out];omega) (Nat.le_trans hszz hb5.size) ?_;intro v6 w6 hg6 hu6 hap6 hb6))
   go_roundw
   case rel=>
    refine⟨j+1,by omega,by go_num,?_,?_,hap6,(HBR.out.trans hb5).trans hb6⟩
    ·rw [←HRS.out];exact hg6
    ·rw [HPO.out,natsI_snoc]
     simpa using hu6
   case measure=>simp [intOf];omega
  ·obtain rfl:j=ks.length:=by omega
   have HBF:Hid (Below w.heap.size w wr):=Lib.hid (HB.out.trans (HBR.out.mono (by omega)))
   have h2:=H2.out.belowN HBR.out (by omega)
   have H2w:=Lib.hid h2
   obtain⟨x2,y2,z2⟩:=h2
   go_wp2_with fail
   go_region
   go_wp2
   have hq1:w.heap.size+1<w.heap.size+1+1+1:=by omega
   have hq2:w.heap.size≤w.heap.size+1:=by omega
   have HG2:Hid (Got wr (w.heap.size+1+1+1) 48 .u64 (.slice A5 (D+ks.length) c5) (pw++List.replicate ks.length 0)):=Lib.hid (by rw [←HL.out];exact HG.out)
   clear HG
   have HG:=HG2
   refine abs_post (F:=fun W=>Blk W (w.heap.size+1) #[.int .i64 0,.int .i64 0,.int .i64 D,.int .i64 ks.length,.int .i64 0,.int .i64 0,.bool false,.int .i64 0,.int .u32 0,.int .u32 0]∧Got W (w.heap.size+1+1+1) 48 .u64 (.slice A5 (D+ks.length) c5) (pw++List.replicate ks.length 0)∧Got W (w.heap.size+1+1+1) 3 .i64 u6 (natsI (posS D ks.length))∧Below w.heap.size w W) ⟨?_,?_,?_,?_⟩ ?_
   rotate_left 2
   ·exact Got.drewT ((((((((((HU.out.far (p:=⟨w.heap.size+1,0,none⟩) hq1 _).far (p:=⟨w.heap.size+1,1,none⟩) hq1 _).far (p:=⟨w.heap.size+1,2,none⟩) hq1 _).far (p:=⟨w.heap.size+1,3,none⟩) hq1 _).far (p:=⟨w.heap.size+1,4,none⟩) hq1 _).far (p:=⟨w.heap.size+1,5,none⟩) hq1 _).far (p:=⟨w.heap.size+1,6,none⟩) hq1 _).far (p:=⟨w.heap.size+1,7,none⟩) hq1 _).far (p:=⟨w.heap.size+1,8,none⟩) hq1 _).far (p:=⟨w.heap.size+1,9,none⟩) hq1 _)
   ·exact bel_drew ((((((((((HBF.out.setCell (p:=⟨w.heap.size+1,0,none⟩) hq2 _).setCell (p:=⟨w.heap.size+1,1,none⟩) hq2 _).setCell (p:=⟨w.heap.size+1,2,none⟩) hq2 _).setCell (p:=⟨w.heap.size+1,3,none⟩) hq2 _).setCell (p:=⟨w.heap.size+1,4,none⟩) hq2 _).setCell (p:=⟨w.heap.size+1,5,none⟩) hq2 _).setCell (p:=⟨w.heap.size+1,6,none⟩) hq2 _).setCell (p:=⟨w.heap.size+1,7,none⟩) hq2 _).setCell (p:=⟨w.heap.size+1,8,none⟩) hq2 _).setCell (p:=⟨w.heap.size+1,9,none⟩) hq2 _)
   ·rintro W9 ⟨B6,hN,hU,hbw⟩
    exact bodyPost_ret (v:=.tuple #[.slice A5 (D+ks.length) c5,.agg #[.int .i64 0,.int .i64 0,.int .i64 D,.int .i64 ks.length,.int .i64 0,.int .i64 0,.bool false,.int .i64 0,.int .u32 0,.int .u32 0],u6]) (by simp [results,Tryz.results58,go_sem,B6.cell]) rfl ⟨_,_,rfl,by rw [HW.out];exact hN.mono (by omega),by rw [HPL.out];exact hU.mono (by omega),hbw⟩
   ·exact((((((((((H2w.out.set 0 (by simp) _).set 1 (by simp) _).set 2 (by simp) _).set 3 (by simp) _).set 4 (by simp) _).set 5 (by simp) _).set 6 (by simp) _).set 7 (by simp) _).set 8 (by simp) _).set 9 (by simp) _).drew
   ·exact Got.drewT ((((((((((HG.out.far (p:=⟨w.heap.size+1,0,none⟩) hq1 _).far (p:=⟨w.heap.size+1,1,none⟩) hq1 _).far (p:=⟨w.heap.size+1,2,none⟩) hq1 _).far (p:=⟨w.heap.size+1,3,none⟩) hq1 _).far (p:=⟨w.heap.size+1,4,none⟩) hq1 _).far (p:=⟨w.heap.size+1,5,none⟩) hq1 _).far (p:=⟨w.heap.size+1,6,none⟩) hq1 _).far (p:=⟨w.heap.size+1,7,none⟩) hq1 _).far (p:=⟨w.heap.size+1,8,none⟩) hq1 _).far (p:=⟨w.heap.size+1,9,none⟩) hq1 _)
section
attribute [local simp] AllK KnowsV look Is
def GotQ (base:Nat)(l:List Int):Fact:=fun v w=>Got w base 48 .u64 v l
theorem stable_gotq (base:Nat)(l:List Int):stable (GotQ base l):=fun v w w' h hb=>Got.below h hb (Nat.le_refl _)
theorem padW_nil (n:Nat):padW [] n=List.replicate n 0:=by
 apply ext_zat
 ·rw [padW_length (by simp),List.length_replicate]
 ·intro i hi
  rw [padW_length (by simp)] at hi
  have e:padW [] n=wordsOf (bytesOf (List.replicate n 0)):=by
   unfold padW
   congr 1
   apply ext_zat
   ·simp [bytesOf_length]
   ·intro j hj
    simp at hj
    obtain⟨q,r,hr,rfl⟩:∃q r,r<8∧j=8*q+r:=⟨j / 8,j % 8,by omega,by omega⟩
    rw [bytesOf_zat _ _ _ (by simp;omega) hr,List.nil_append,zat_replicate,zat_replicate]
    simp [byteOf]
  rw [e,wordsOf_bytesOf _ (fun z hz=>by rw [List.eq_of_mem_replicate hz];omega)]
theorem fillW_lst {e n:Int}{d:List Int}{ks:List Nd}(hv:validN (.mk 2 e n d ks)=true)(h7:e≠7):fillW (.mk 2 e n d ks) 0=padW d (canO (.mk 2 e n d ks)).toNat:=by
 obtain⟨-,-,-,g4,g5,g6⟩:=head_lst hv
 have hO:canO (.mk 2 e n d ks)=wordsI e n:=by show canOf 2 e n d ks=_;unfold canOf;rw [if_neg (show ¬((2:Int)=0) by decide),if_neg (show ¬((2:Int)=1) by decide),if_neg h7]
 unfold fillW
 rw [List.take_zero,List.nil_append,Nat.sub_zero,targN_mk,if_neg (by omega),hO]
 show bodyPW 2 e n d ks _=_
 rw [bodyPW_2 h7]
 by_cases h6:e=6
 ·subst h6
  obtain⟨h1,h2⟩:=g5 (by decide)
  rw [if_pos rfl,List.eq_nil_of_length_eq_zero h1,padW_nil]
  congr 1
  simp [wordsI,bitsI]
  omega
 ·rw [if_neg h6]
theorem posL_lst {e n:Int}{d:List Int}{ks:List Nd}(h7:e≠7):posL (.mk 2 e n d ks)=posS 0 ks.length:=by
 show (if (2:Int)=1 then _ else if e=7 then _ else _)=_
 rw [if_neg (by decide),if_neg h7]
 rfl
set_option maxHeartbeats 2000000 in
set_option maxRecDepth 100000 in
theorem Shallow14_lst (e n:Int)(d:List Int)(ks:List Nd)(A:Option Addr)(c:Nat)(B:Option Addr)(c2:Nat)(w:World)(hx:NdR w A c B c2 (.mk 2 e n d ks))(hv:validN (.mk 2 e n d ks)=true)(h7:e≠7)(hs:sizeN (.mk 2 e n d ks)≤1099511627776):
  Calls Tryz.prog 58 #[.agg #[.int .i64 2,.int .i64 e,.int .i64 n,.slice A d.length c,.slice B ks.length c2]] w fun r w'=>∃v u,r=.returned (.tuple #[v,.agg #[.int .i64 1,.int .i64 0,.int .i64 0,.int .i64 0,.int .i64 e,.int .i64 n,.bool false,.int .i64 0,.int .u32 0,.int .u32 0],u]) ∧
   Got w' w.heap.size 48 .u64 v (fillW (.mk 2 e n d ks) 0)∧Got w' w.heap.size 3 .i64 u (natsI (posL (.mk 2 e n d ks)))∧Below w.heap.size w w':=by
 obtain⟨i0,hi,hz0,hz1,hz2⟩:=info_parts int64_info
 obtain⟨j0,gj,gj0,gj1,gj2⟩:=info_parts int_info14
 obtain⟨g1,g2,g3,g4,g5,g6⟩:=head_lst hv
 have hlen:=body_length hv
 have hfl:=fillW_lst hv h7
 have hco:=canO_size hv
 have HX:=Lib.hid hx
 have HD:=Lib.hid hx.open.2.2.2.1
 have HBT:=Lib.hid hx.open.2.2.2.2.1
 have HNL:=Lib.hid hx.open.2.2.2.2.2.2.2.1
 have HB0:=Lib.hid (fun o1 o2 o3=>(((Below.refl w.heap.size w).alloc (Nat.le_refl _) o1).alloc (by simp) o2).alloc (by simp;omega) o3)
 have hO:canO (.mk 2 e n d ks)=wordsI e n:=by show canOf 2 e n d ks=_;unfold canOf;rw [if_neg (show ¬((2:Int)=0) by decide),if_neg (show ¬((2:Int)=1) by decide),if_neg h7]
 have hwI:wordsI e n=(bitsI e*n+63) / 64:=by unfold wordsI;rw [if_neg h7]
 have hbi:=bitsI_mul e n g1
 have hdl:d.length≤8*(canO (.mk 2 e n d ks)).toNat:=by
  rw [hO]
  rcases(by omega:e<6∨e=6) with h|h
  ·obtain⟨-,g8,-⟩:=g6 h
   have hBI:bytesI e n=(bitsI e*n+7) / 8:=rfl
   omega
  ·rw [(g5 (by omega)).1];omega
 have hCm:(canO (.mk 2 e n d ks)).toNat≤1099511627776:=by rw [hO];omega
 obtain⟨C,hC⟩:∃C:Nat,canO (.mk 2 e n d ks)=(C:Int):=⟨(canO (.mk 2 e n d ks)).toNat,by omega⟩
 have hkl:ks.length≤1099511627776:=by
  simp only [sizeN] at hs
  have:=sizeK_length ks
  omega
 have HOB:=Lib.hid (fun w2 (h2:NdR w2 A c B c2 (.mk 2 e n d ks))=>RefObject13 (.mk 2 e n d ks) A c B c2 w2 h2 hs hv)
 rw [hC] at HOB hfl hdl hCm
 rw [Int.toNat_natCast] at hfl hdl hCm
 have HPD:=Lib.hid (fun w2 (hr:Ri w2 .u8 A d)=>RefPadded14 A c d C w2 hr HBT.out HNL.out hdl hCm)
 have HW:=Lib.hid hfl
 have HPL:=Lib.hid (posL_lst (n:=n) (d:=d) (ks:=ks) h7)
 have HPO:Hid (∀j,posS 0 (j+1)=posS 0 j++[j]):=Lib.hid (fun j=>by rw [posS_succ,Nat.zero_add])
 have t7:(e != 7)=true:=by simpa using h7
 clear hx hv hlen hfl hco hO hwI hbi hs hC hdl hCm h7
 generalize posL (.mk 2 e n d ks)=pl at *
 generalize fillW (.mk 2 e n d ks) 0=fb at *
 generalize padW d C=pw at *
 simp only [Nd.k,Nd.e,Nd.n,Nd.d,Nd.ks] at HOB
 go_enter Tryz.func58,Tryz.ntmps58
 go_wp2_with fail
 refine abs_code10 (F:=fun W=>Blk W w.heap.size #[.int .i64 2,.int .i64 e,.int .i64 n,.slice A d.length c,.slice B ks.length c2]∧Blk W (w.heap.size+1) #[.int .i64 0,.int .i64 0,.int .i64 0,.int .i64 0,.int .i64 0,.int .i64 0,.bool false,.int .i64 0,.int .u32 0,.int .u32 0]∧Blk W (w.heap.size+1+1) #[.int .i64 1,.int .i64 0,.int .i64 0,.int .i64 0,.int .i64 e,.int .i64 n,.bool false,.int .i64 0,.int .u32 0,.int .u32 0]∧Below w.heap.size w W) ⟨?_,?_,?_,?_⟩ ?_
 ·exact((Blk.fresh _ _ _).alloc _).alloc _
 ·exact(Blk.new (by simp)).alloc _
 ·exact Blk.new (by simp)
 ·exact HB0.out _ _ _
 rintro W ⟨hB1,hB2,hB3,hbw⟩
 have hz3:w.heap.size+1+1+1≤W.heap.size:=hB3.lt
 have H1:=Lib.hid hB1
 have H2:=Lib.hid hB2
 have H3:=Lib.hid hB3
 have HB:=Lib.hid hbw
 clear hB1 hB2 hB3 hbw
 go_wp2_with fail
 rename_i KK hKK
 refine wp_region_chain (by kernel_rfl) (by kernel_rfl) ?_
 refine chain_val (u:=?_) [1] rfl (by kernel_rfl) trivial (fun ρ wc hbc hcn hk=>?_) ?_;rotate_left
 ·obtain⟨hcn,-⟩:=hcn
  simp at hk
  go_simp
  rfl
 refine chain_val (u:=?_) [62] rfl (by kernel_rfl) trivial (fun ρ wc hbc hcn hk=>?_) ?_;rotate_left
 ·obtain⟨hcn,-⟩:=hcn
  simp at hk
  obtain⟨x1,y1,z1⟩:=H1.out.drew.below hbc
  go_simp
  rfl
 refine chain_val (u:=?_) [1] rfl (by kernel_rfl) trivial (fun ρ wc hbc hcn hk=>?_) ?_;rotate_left
 ·obtain⟨hcn,-⟩:=hcn
  simp at hk
  obtain⟨x1,y1,z1⟩:=H1.out.drew.below hbc
  go_simp
  rfl
 refine chain_call (T:=Is ?_) 32 [64] rfl (by kernel_rfl) trivial (stable_is _) (fun ρ wc hbc hcn hk=>?_) ?_;rotate_left
 ·obtain⟨hcn,hfn⟩:=hcn
  simp at hk
  refine⟨_,by go_simp;rfl,?_⟩
  refine(HOB.out wc (HX.out.on (bel_on (bel_drew HB.out) hbc) (Nat.le_refl _))).mono ?_
  rintro e w' ⟨rfl,hbq⟩
  refine⟨_,rfl,?_,hbq⟩
  unfold Is
  rfl
 refine chain_call (T:=GotQ (w.heap.size+1+1+1) pw) 85 [63,65] rfl (by kernel_rfl) trivial (stable_gotq _ _) (fun ρ wc hbc hcn hk=>?_) ?_
 ·obtain⟨hcn,hfn⟩:=hcn
  simp at hk
  refine⟨_,by go_simp;rfl,?_⟩
  refine(HPD.out wc (HD.out.below (bel_on (bel_drew HB.out) hbc) (Nat.le_refl _))).mono ?_
  rintro e w' ⟨v,rfl,hg,hbq⟩
  exact⟨_,rfl,hg.mono (Nat.le_trans hz3 hbc.size),hbq⟩
 refine chain_new (T:=GotQ (w.heap.size+1+1+1) pw) [66] rfl (by kernel_rfl) trivial (stable_gotq _ _) (fun ρ wc hbc hcn hk=>?_) ?_
 ·obtain⟨hcn,hfn⟩:=hcn
  simp at hk
  exact⟨_,wc,by go_simp,hk,Below.refl _ _⟩
 refine chain_end_lit 143 (by kernel_rfl) (fun ff w7 hb7 hk=>?_)
 refine hKK _ _ ?_
 have hG0:Got w7 (w.heap.size+1+1+1) 48 .u64 (ff 9) pw:=allN_at10d hk 9 (by decide) (by decide)
 simp [AllN] at hk
 simp only [frameL,hk,Nat.zero_add,Nat.reduceAdd]
 have hb7':Below W.heap.size W w7:=⟨hb7.os,hb7.tape,hb7.output,hb7.size,hb7.block⟩
 have h1:=H1.out.below hb7'
 have h2:=H2.out.below hb7'
 have h3:=H3.out.below hb7'
 have hbb:=bel_on HB.out hb7'
 have hz7:=hb7'.size
 clear H1 H2 H3 HB hb7 hk hb7'
 have H1:=Lib.hid h1
 have H2:=Lib.hid h2
 have H3:=Lib.hid h3
 have HB:=Lib.hid hbb
 have HG0:=Lib.hid hG0
 clear h1 h2 h3 hbb hG0
 generalize ff 9=v9 at *
 generalize ff 66=v66 at *
 obtain⟨x1,y1,z1⟩:=H1.out
 go_wp2
 go_loopw [6,10] (fun u i wr=>∃j:Nat,j≤ks.length∧i=.int .i64 j∧Got wr (w.heap.size+1+1+1) 48 .u64 v9 pw∧Got wr (w.heap.size+1+1+1) 3 .i64 u (natsI (posS 0 j))∧Apart v9 u∧Below (w.heap.size+1+1+1) w7 wr) (fun _ i _=>ks.length-(intOf i).toNat)
 case atStart=>exact⟨0,by omega,rfl,HG0.out,Got.empty _ _ _ _,apart_none _,Below.refl _ _⟩
 case round=>
  clear x1 y1 z1
  obtain⟨j,hj',rfl,hg,hu,hap,hbr⟩:=hrel
  have HG:=Lib.hid hg
  have HU:=Lib.hid hu
  have HAP:=Lib.hid hap
  have HBR:=Lib.hid hbr
  have hsz:=hbr.size
  have B1:=H1.out.belowN hbr (by omega)
  obtain⟨x1,y1,z1⟩:=B1
  have HLU:Hid ((natsI (posS 0 j)).length=j):=Lib.hid (by rw [natsI_length,posS_length])
  clear hg hu hap hbr
  by_cases hlt:j<ks.length
  ·have hj1:(j:Int)<(ks.length:Int):=by omega
   have hszz:w.heap.size+1+1+1≤wr.heap.size:=by omega
   go_wp2_with (at_builtin;refine wpList_appT1 rfl (.tmp 74) (.tmp 76) 97 rfl Tryz.underlying97 gj gj0 gj1 gj2 (v:=u6) rfl HU.out HG.out HAP.out.symm rfl (by rw [HLU.out];unfold maxLen;omega) (by rw [HLU.out];omega) hszz ?_;intro u5 w5 hu5 hg5 hap5 hb5)
   go_roundw
   case rel=>
    refine⟨j+1,by omega,by go_num,hg5,?_,hap5.symm,HBR.out.trans hb5⟩
    rw [HPO.out,natsI_snoc]
    exact hu5
   case measure=>simp [intOf];omega
  ·obtain rfl:j=ks.length:=by omega
   have HBF:Hid (Below w.heap.size w wr):=Lib.hid (HB.out.trans (HBR.out.mono (by omega)))
   have h2:=H2.out.belowN HBR.out (by omega)
   have H2w:=Lib.hid h2
   obtain⟨x2,y2,z2⟩:=h2
   obtain⟨x3,y3,z3⟩:=H3.out.belowN HBR.out (by omega)
   go_wp2_with fail
   go_region
   go_wp2
   have hq1:w.heap.size+1<w.heap.size+1+1+1:=by omega
   have hq2:w.heap.size≤w.heap.size+1:=by omega
   refine abs_post (F:=fun W=>Blk W (w.heap.size+1) #[.int .i64 1,.int .i64 0,.int .i64 0,.int .i64 0,.int .i64 e,.int .i64 n,.bool false,.int .i64 0,.int .u32 0,.int .u32 0]∧Got W (w.heap.size+1+1+1) 48 .u64 (v9) (pw)∧Got W (w.heap.size+1+1+1) 3 .i64 u6 (natsI (posS 0 ks.length))∧Below w.heap.size w W) ⟨?_,?_,?_,?_⟩ ?_
   rotate_left 2
   ·exact Got.drewT ((((((((((HU.out.far (p:=⟨w.heap.size+1,0,none⟩) hq1 _).far (p:=⟨w.heap.size+1,1,none⟩) hq1 _).far (p:=⟨w.heap.size+1,2,none⟩) hq1 _).far (p:=⟨w.heap.size+1,3,none⟩) hq1 _).far (p:=⟨w.heap.size+1,4,none⟩) hq1 _).far (p:=⟨w.heap.size+1,5,none⟩) hq1 _).far (p:=⟨w.heap.size+1,6,none⟩) hq1 _).far (p:=⟨w.heap.size+1,7,none⟩) hq1 _).far (p:=⟨w.heap.size+1,8,none⟩) hq1 _).far (p:=⟨w.heap.size+1,9,none⟩) hq1 _)
   ·exact bel_drew ((((((((((HBF.out.setCell (p:=⟨w.heap.size+1,0,none⟩) hq2 _).setCell (p:=⟨w.heap.size+1,1,none⟩) hq2 _).setCell (p:=⟨w.heap.size+1,2,none⟩) hq2 _).setCell (p:=⟨w.heap.size+1,3,none⟩) hq2 _).setCell (p:=⟨w.heap.size+1,4,none⟩) hq2 _).setCell (p:=⟨w.heap.size+1,5,none⟩) hq2 _).setCell (p:=⟨w.heap.size+1,6,none⟩) hq2 _).setCell (p:=⟨w.heap.size+1,7,none⟩) hq2 _).setCell (p:=⟨w.heap.size+1,8,none⟩) hq2 _).setCell (p:=⟨w.heap.size+1,9,none⟩) hq2 _)
   ·rintro W9 ⟨B6,hN,hU,hbw⟩
    exact bodyPost_ret (v:=.tuple #[v9,.agg #[.int .i64 1,.int .i64 0,.int .i64 0,.int .i64 0,.int .i64 e,.int .i64 n,.bool false,.int .i64 0,.int .u32 0,.int .u32 0],u6]) (by simp [results,Tryz.results58,go_sem,B6.cell]) rfl ⟨_,_,rfl,by rw [HW.out];exact hN.mono (by omega),by rw [HPL.out];exact hU.mono (by omega),hbw⟩
   ·exact((((((((((H2w.out.set 0 (by simp) _).set 1 (by simp) _).set 2 (by simp) _).set 3 (by simp) _).set 4 (by simp) _).set 5 (by simp) _).set 6 (by simp) _).set 7 (by simp) _).set 8 (by simp) _).set 9 (by simp) _).drew
   ·exact Got.drewT ((((((((((HG.out.far (p:=⟨w.heap.size+1,0,none⟩) hq1 _).far (p:=⟨w.heap.size+1,1,none⟩) hq1 _).far (p:=⟨w.heap.size+1,2,none⟩) hq1 _).far (p:=⟨w.heap.size+1,3,none⟩) hq1 _).far (p:=⟨w.heap.size+1,4,none⟩) hq1 _).far (p:=⟨w.heap.size+1,5,none⟩) hq1 _).far (p:=⟨w.heap.size+1,6,none⟩) hq1 _).far (p:=⟨w.heap.size+1,7,none⟩) hq1 _).far (p:=⟨w.heap.size+1,8,none⟩) hq1 _).far (p:=⟨w.heap.size+1,9,none⟩) hq1 _)
end
section
attribute [local simp] AllK KnowsV look Is
set_option maxHeartbeats 2000000 in
set_option maxRecDepth 100000 in
theorem RefEqual_node:∀(x y:Nd) (A:Option Addr) (c:Nat) (B:Option Addr) (c2:Nat) (A1:Option Addr) (c3:Nat) (B1:Option Addr) (c4:Nat) (w:World),NdR w A c B c2 x→NdR w A1 c3 B1 c4 y →
  Calls Tryz.prog 16 #[.agg #[.int .i64 x.k,.int .i64 x.e,.int .i64 x.n,.slice A x.d.length c,.slice B x.ks.length c2],.agg #[.int .i64 y.k,.int .i64 y.e,.int .i64 y.n,.slice A1 y.d.length c3,.slice B1 y.ks.length c4]] w fun r w'=>r=.returned (.bool (eqN x y))∧Below w.heap.size w w':=by
 refine Nd.ind ?_
 intro k e n d ks ih y A c B c2 A1 c3 B1 c4 w hx hy
 obtain⟨k',e',n',d',ks'⟩:=y
 simp only [Nd.k,Nd.e,Nd.n,Nd.d,Nd.ks]
 have HX:=Lib.hid hx
 have HY:=Lib.hid hy
 have HI:=Lib.hid ih
 have HOX:=Lib.hid hx.open
 have HOY:=Lib.hid hy.open
 have HB0:Hid (Below w.heap.size w ((w.alloc (.cells #[.int .i64 k,.int .i64 e,.int .i64 n,.slice A d.length c,.slice B ks.length c2] 39)).alloc (.cells #[.int .i64 k',.int .i64 e',.int .i64 n',.slice A1 d'.length c3,.slice B1 ks'.length c4] 39))):=Lib.hid (((Below.refl _ _).alloc (Nat.le_refl _) _).alloc (by simp) _)
 clear hx hy ih
 by_cases h1:k=k'
 case neg=>
  have t1:(k != k')=true:=by simpa using h1
  have HR:Hid (eqN (.mk k e n d ks) (.mk k' e' n' d' ks')=false):=Lib.hid (eqN_no (fun h=>h1 (by injection h)))
  clear h1
  go_enter Tryz.func16,Tryz.ntmps16
  go_wp2
  go_ret
  exact⟨by rw [HR.out];rfl,HB0.out⟩
 by_cases h2:e=e'
 case neg=>
  have t1:(e != e')=true:=by simpa using h2
  have HR:Hid (eqN (.mk k e n d ks) (.mk k' e' n' d' ks')=false):=Lib.hid (eqN_no (fun h=>h2 (by injection h)))
  subst h1
  clear h2
  go_enter Tryz.func16,Tryz.ntmps16
  go_wp2
  go_ret
  exact⟨by rw [HR.out];rfl,HB0.out⟩
 by_cases h3:n=n'
 case neg=>
  have t1:(n != n')=true:=by simpa using h3
  have HR:Hid (eqN (.mk k e n d ks) (.mk k' e' n' d' ks')=false):=Lib.hid (eqN_no (fun h=>h3 (by injection h)))
  subst h1 h2
  clear h3
  go_enter Tryz.func16,Tryz.ntmps16
  go_wp2
  go_ret
  exact⟨by rw [HR.out];rfl,HB0.out⟩
 subst h1 h2 h3
 have HSA:=Lib.hid (fun w' hr1 hr2=>Same_any A A1 c c3 d d' w' hr1 hr2 (by have:=HOX.out.2.2.2.2.2.1;have:=HOX.out.2.2.2.2.2.2.1;omega) (by have:=HOY.out.2.2.2.2.2.1;have:=HOY.out.2.2.2.2.2.2.1;omega))
 by_cases h4:d=d'
 case neg=>
  have HR:Hid (eqN (.mk k e n d ks) (.mk k e n d' ks')=false):=Lib.hid (eqN_no (fun h=>h4 (by injection h)))
  have HSB:Hid (sameB d d'=false):=Lib.hid (by unfold sameB;simp [h4])
  clear h4
  go_enter Tryz.func16,Tryz.ntmps16
  go_wp2_with fail
  refine(HSA.out _ (HOX.out.2.2.2.1.below HB0.out (Nat.le_refl _)) (HOY.out.2.2.2.1.below HB0.out (Nat.le_refl _))).mono ?_
  rintro r w1 ⟨rfl,m,rfl⟩
  rw [HSB.out]
  go_wp2
  go_ret
  exact⟨by rw [HR.out];rfl,bel_drewN HB0.out _⟩
 by_cases h5:ks.length=ks'.length
 case neg=>
  have t1:((ks.length:Int) != (ks'.length:Int))=true:=by simp;omega
  have HR:Hid (eqN (.mk k e n d ks) (.mk k e n d' ks')=false):=Lib.hid (eqN_no (fun h=>h5 (by injection h with _ _ _ _ h;rw [h])))
  have HSB:Hid (sameB d d'=true):=Lib.hid (by unfold sameB;simp [h4])
  clear h4
  go_enter Tryz.func16,Tryz.ntmps16
  go_wp2_with fail
  refine(HSA.out _ (HOX.out.2.2.2.1.below HB0.out (Nat.le_refl _)) (HOY.out.2.2.2.1.below HB0.out (Nat.le_refl _))).mono ?_
  rintro r w1 ⟨rfl,m,rfl⟩
  rw [HSB.out]
  go_wp2
  go_ret
  exact⟨by rw [HR.out];rfl,bel_drewN HB0.out _⟩
 subst h4
 have HSB:Hid (sameB d d=true):=Lib.hid (sameB_self d)
 have HL:=Lib.hid h5
 have t1:((ks.length:Int) != (ks'.length:Int))=false:=by simp;omega
 clear h5
 go_enter Tryz.func16,Tryz.ntmps16
 go_wp2_with fail
 refine(HSA.out _ (HOX.out.2.2.2.1.below HB0.out (Nat.le_refl _)) (HOY.out.2.2.2.1.below HB0.out (Nat.le_refl _))).mono ?_
 rintro r w1 ⟨rfl,m,rfl⟩
 rw [HSB.out]
 go_wp2
 go_loopw [5] (fun i wr=>∃j:Nat,j≤ks.length∧i=.int .i64 j∧ks.take j=ks'.take j∧Blk wr w.heap.size #[.int .i64 k,.int .i64 e,.int .i64 n,.slice A d.length c,.slice B ks.length c2]∧Blk wr (w.heap.size+1) #[.int .i64 k,.int .i64 e,.int .i64 n,.slice A1 d.length c3,.slice B1 ks'.length c4]∧Below w.heap.size w wr) (fun i _=>ks.length-(intOf i).toNat)
 case atStart=>exact⟨0,by omega,rfl,by simp,((Blk.fresh w _ _).alloc _).drewN _,(Blk.new (by simp)).drewN _,bel_drewN HB0.out _⟩
 case round=>
  obtain⟨j,hj,rfl,htk,hB2,hB3,hbr⟩:=hrel
  have HB2:=Lib.hid hB2
  have HB3:=Lib.hid hB3
  have HR:=Lib.hid hbr
  have HTK:=Lib.hid htk
  clear hbr htk
  obtain⟨x2,y2,z2⟩:=hB2
  obtain⟨x3,y3,z3⟩:=hB3
  have hkl:ks.length≤9223372036854775807:=by have h1:=HOX.out.2.2.2.2.2.2.2.2.1;have h2:=HOX.out.2.2.2.2.2.2.2.2.2.1;omega
  by_cases hlt:j<ks.length
  ·have hlt2:j<ks'.length:=by have:=HL.out;omega
   have hj1:(j:Int)<(ks.length:Int):=by omega
   have hj2:(j:Int)<(ks'.length:Int):=by omega
   obtain⟨b,off,Aa,ca,Ba,cb,rfl,k0,k1,k2,k3,k4,hsub⟩:=HX.out.kids.atIn HR.out (Nat.le_refl _) hlt
   obtain⟨b',off',Aa',ca',Ba',cb',rfl,l0,l1,l2,l3,l4,hsub'⟩:=HY.out.kids.atIn HR.out (Nat.le_refl _) hlt2
   have zb:b<wr.heap.size:=World.block_lt_of_cell? wr ⟨b,off+j*5,none⟩ k0
   have zb':b'<wr.heap.size:=World.block_lt_of_cell? wr ⟨b',off'+j*5,none⟩ l0
   have HC:Hid (∀wc,Below w.heap.size w wc→Calls Tryz.prog 16 #[.agg #[.int .i64 ks[j].k,.int .i64 ks[j].e,.int .i64 ks[j].n,.slice Aa ks[j].d.length ca,.slice Ba ks[j].ks.length cb],.agg #[.int .i64 ks'[j].k,.int .i64 ks'[j].e,.int .i64 ks'[j].n,.slice Aa' ks'[j].d.length ca',.slice Ba' ks'[j].ks.length cb']] wc fun r w'=>r=.returned (.bool (eqN ks[j] ks'[j]))∧Below wc.heap.size wc w'):=
    Lib.hid (fun wc hwc=>HI.out ks[j] (List.getElem_mem hlt) ks'[j] Aa ca Ba cb Aa' ca' Ba' cb' wc (hsub.on hwc (Nat.le_refl _)) (hsub'.on hwc (Nat.le_refl _)))
   have HTS:=Lib.hid (take_eq_succ hlt hlt2 HTK.out)
   have HNE:Hid (ks[j]≠ks'[j]→eqN (.mk k e n d ks) (.mk k e n d ks')=false):=Lib.hid (fun hne=>eqN_no (fun h=>hne (by injection h with _ _ _ _ h;subst h;rfl)))
   have HEJ:Hid (eqN ks[j] ks'[j]=true↔ks[j]=ks'[j]):=Lib.hid eqN_iff
   clear hsub hsub'
   generalize ks[j]=kx at *
   generalize ks'[j]=ky at *
   generalize heb:eqN kx ky=eb at *
   clear heb
   go_wp2_with fail
   rename_i KK hKK
   refine wp_region_chain (by kernel_rfl) (by kernel_rfl) ?_
   refine chain_val (u:=?_) [2] rfl (by kernel_rfl) trivial (fun ρ wc hbc hcn hk=>?_) ?_;rotate_left
   ·obtain⟨hcn,-⟩:=hcn
    simp at hk
    go_simp
    rfl
   refine chain_val (u:=?_) [49] rfl (by kernel_rfl) trivial (fun ρ wc hbc hcn hk=>?_) ?_;rotate_left
   ·obtain⟨hcn,-⟩:=hcn
    simp at hk
    obtain⟨hcc,-⟩:=bcell hbc
    simp at hcc
    go_simp
    rfl
   refine chain_val (u:=?_) [5] rfl (by kernel_rfl) trivial (fun ρ wc hbc hcn hk=>?_) ?_;rotate_left
   ·obtain⟨hcn,-⟩:=hcn
    simp at hk
    go_simp
    rfl
   refine chain_val (u:=?_) [50,51] rfl (by kernel_rfl) trivial (fun ρ wc hbc hcn hk=>?_) ?_;rotate_left
   ·obtain⟨hcn,-⟩:=hcn
    simp at hk
    go_simp
    rfl
   refine chain_val (u:=?_) [52] rfl (by kernel_rfl) trivial (fun ρ wc hbc hcn hk=>?_) ?_;rotate_left
   ·obtain⟨hcn,-⟩:=hcn
    simp at hk
    obtain⟨hcc,-⟩:=bcell hbc
    simp at hcc
    go_simp
    rfl
   refine chain_val (u:=?_) [3] rfl (by kernel_rfl) trivial (fun ρ wc hbc hcn hk=>?_) ?_;rotate_left
   ·obtain⟨hcn,-⟩:=hcn
    simp at hk
    go_simp
    rfl
   refine chain_val (u:=?_) [54] rfl (by kernel_rfl) trivial (fun ρ wc hbc hcn hk=>?_) ?_;rotate_left
   ·obtain⟨hcn,-⟩:=hcn
    simp at hk
    obtain⟨hcc,-⟩:=bcell hbc
    simp at hcc
    go_simp
    rfl
   refine chain_val (u:=?_) [5] rfl (by kernel_rfl) trivial (fun ρ wc hbc hcn hk=>?_) ?_;rotate_left
   ·obtain⟨hcn,-⟩:=hcn
    simp at hk
    go_simp
    rfl
   refine chain_val (u:=?_) [55,56] rfl (by kernel_rfl) trivial (fun ρ wc hbc hcn hk=>?_) ?_;rotate_left
   ·obtain⟨hcn,-⟩:=hcn
    simp at hk
    go_simp
    rfl
   refine chain_val (u:=?_) [57] rfl (by kernel_rfl) trivial (fun ρ wc hbc hcn hk=>?_) ?_;rotate_left
   ·obtain⟨hcn,-⟩:=hcn
    simp at hk
    obtain⟨hcc,-⟩:=bcell hbc
    simp at hcc
    go_simp
    rfl
   refine chain_call (T:=Is ?_) 16 [53,58] rfl (by kernel_rfl) trivial (stable_is _) (fun ρ wc hbc hcn hk=>?_) ?_;rotate_left
   ·obtain⟨hcn,hfn⟩:=hcn
    simp at hk
    refine⟨_,by go_simp;rfl,?_⟩
    refine(HC.out _ (bel_on (bel_drew HR.out) hbc)).mono ?_
    rintro e w' ⟨rfl,hbq⟩
    refine⟨_,rfl,?_,hbq⟩
    unfold Is
    rfl
   refine chain_val (u:=?_) [59] rfl (by kernel_rfl) trivial (fun ρ wc hbc hcn hk=>?_) ?_;rotate_left
   ·obtain⟨hcn,-⟩:=hcn
    simp at hk
    go_simp
    rfl
   refine chain_end_lit 61 rfl (fun ff w7 hb7 hk=>?_)
   refine hKK _ _ ?_
   clear hKK KK
   simp [AllN] at hk
   simp only [frameL,hk]
   have HB7:Hid (Below w.heap.size w w7):=Lib.hid (bel_on (bel_drew HR.out) hb7)
   have B2:=Lib.hid (HB2.out.drew.below hb7)
   have B3:=Lib.hid (HB3.out.drew.below hb7)
   clear hb7 hk x2 y2 x3 y3 k0 k1 k2 k3 k4 l0 l1 l2 l3 l4
   cases eb with
   | true=>
    go_wp2
    go_roundw
    case rel=>exact⟨j+1,by omega,by go_num,HTS.out (HEJ.out.1 rfl),B2.out,B3.out,HB7.out⟩
    case measure=>simp [intOf];omega
   | false=>
    go_wp2
    go_ret
    exact⟨by rw [HNE.out (fun h=>by have:=HEJ.out.2 h;cases this)];rfl,HB7.out⟩
  ·obtain rfl:j=ks.length:=by omega
   have HRR:Hid (eqN (.mk k e n d ks) (.mk k e n d ks')=true):=Lib.hid (eqN_yes (by
    have h:=HTK.out
    rw [List.take_length,HL.out,List.take_length] at h
    rw [h]))
   go_wp2
   go_ret
   exact⟨by rw [HRR.out];rfl,HR.out⟩
end
end Go.Proofs.YtbpmeppdjicmhaaGreatDoor
