/- The texts Two, Ref14b (what is wanted of them), one after the other. -/
import Derived.Test.YtfaflahfjgnphaaGreatDoorMg16
import Derived.Test.YtfaflahfjgnphaaGreatDoorMg17
namespace Go.Proofs.YtfaflahfjgnphaaGreatDoor
open Go.ChangeShapes Go.WideShapes Go.ChangeAt Go.RowKit
set_option linter.unusedVariables false
set_option linter.unusedSimpArgs false
set_option maxRecDepth 100000
theorem append_block2 {P:Program}{w:World}{base:Nat}{t ty e:TypeId}{i:TypeInfo}{z:Value}(ht:P.underlying t=some (.slice e))(hi:P.info? e=some i)(hz:i.zero=some z)
  {v:Value} {n:Nat} {xs:List Value} (hown:w.ownsRow base e i.size v n xs) {a:Addr} {m c:Nat} {news:List Value} (hl:news.length=m*i.size) (hnews:∀j u,news[j]?=some u→w.cell? (a.add j)=some u)
  (h1:∀u∈news,u.oneCell'=true) (hm:0<m∨v≠.slice none 0 0) (h63:n+m≤maxLen) (hbytes:(n+m)*i.bytes≤140737488355328) {v':Value} {w':World}
  (hr:(Builtin.append_ #[t,t] ty #[v,.slice (some a) m c]).run P w=.ok v' w'):v'.ownBlock=v.ownBlock∨v'.ownBlock=some w.heap.size:=by
 by_cases h0:0<m
 ·exact append_block ht hi hz hown hl hnews h1 h0 h63 hbytes hr
 ·obtain rfl:m=0:=by omega
  have hv:=hm.resolve_left h0
  rcases hown.2 with ⟨rfl,rfl⟩|⟨g,cap,cur,rfl,hbg,hg,hnc,hcm,hcs,htake⟩
  ·exact absurd rfl hv
  ·have hfit:n*i.size+news.length≤cur.size:=by rw [hl,hcs,←Nat.add_mul];exact Nat.mul_le_mul_right _ (by omega)
   rw [run_append_room (P:=P) w t ty e i ht hi g n cap cur hg a 0 c news hl hnews h1 (by omega) hfit] at hr
   injection hr with hv hw
   subst hv
   exact .inl rfl
def Apart (v u:Value):Prop:=∀g,v.ownBlock=some g→u.ownBlock≠some g
theorem Apart.symm {v u:Value}(h:Apart v u):Apart u v:=fun g h1 h2=>h g h2 h1
theorem apart_none (v:Value):Apart v (.slice none 0 0):=fun g _ h=>by simp [Value.ownBlock] at h
theorem Got.drewT {w:World}{base:Nat}{E:TypeId}{k:IntKind}{v:Value}{zs:List Int}(h:Got w base E k v zs):Got w.drew base E k v zs:=h
theorem Got.kept {w w':World}{base:Nat}{E:TypeId}{k:IntKind}{u v:Value}{zs:List Int}(h:Got w base E k u zs)(hg:w.grownBy w' v.ownBlock)(ha:Apart v u):Got w' base E k u zs:=by
 refine World.ownsRow.kept h hg ?_
 cases hu:u.ownBlock with
 | none=>exact .inl rfl
 | some g=>exact .inr (fun e=>ha g e.symm hu)
theorem wpList_appT {ops:Array Oper}{rest:List Oper}{o:Oper}{a:Act}{Q:Exit→Act→World→Prop}{w:World}(hgd:o.guard=none)(s x:Operand)(t:TypeId)
  (ho:o.op=.call { callee:=.builtin .append,args:=#[s,x],argTypes:=#[t,t] })
  {base:Nat} {e:TypeId} {i:TypeInfo} {k:IntKind} {bytes:Nat} (ht:Tryz.prog.underlying t=some (.slice e)) (hi:Tryz.prog.info? e=some i) (hz:i.zero=some (.int k 0)) (hsize:i.size=1) (hby:i.bytes=bytes)
  {v u:Value} {zs ys us:List Int} {E:TypeId} {k2:IntKind} {A:Option Addr} {c:Nat} (hs:a.eval s=v) (hown:Got w base e k v zs) (hou:Got w base E k2 u us) (hap:Apart v u) (hx:a.eval x=.slice A ys.length c) (hr:Ri w k A ys) (hc:A=none→c=0) (hm:0<ys.length∨v≠.slice none 0 0)
  (h63:zs.length+ys.length≤maxLen) (hbytes:(zs.length+ys.length)*bytes≤140737488355328) (hbase:base≤w.heap.size)
  (h:∀v' w',Got w' base e k v' (zs++ys)→Got w' base E k2 u us→Apart v' u→Below base w w'→wpList Tryz.prog ops Q rest (a.put o.dst v') w'):wpList Tryz.prog ops Q (o::rest) a w:=by
 cases A with
 | none=>
  have hy:ys=[]:=by
   rcases hr with h0|⟨b,off,h0,_⟩
   ·exact h0
   ·cases h0
  subst hy
  obtain rfl:=hc rfl
  exact wpList_append_own_none hgd s x t ho base e i 1 ht hi v zs.length _ hs hown hx (h v w (by simpa using hown) hou hap (Below.refl _ _))
 | some ad=>
  have hnews:∀j u,(ys.map (Value.int k))[j]?=some u→w.cell? (ad.add j)=some u:=by
   intro j u hj
   rcases hr with rfl|⟨b,off,h0,hcell⟩
   ·simp at hj
   ·injection h0 with h0
    subst h0
    have hlt:j<ys.length:=by
     rcases Nat.lt_or_ge j ys.length with h1|h1
     ·exact h1
     ·rw [List.getElem?_eq_none (by simpa using h1)] at hj;cases hj
    have h2:=hcell j hlt
    have e1:(⟨b,off,none⟩:Addr).add j=⟨b,off+j,none⟩:=add_plain b off j
    rw [e1,h2]
    simp [hlt] at hj
    subst hj
    simp [zat,List.getD_eq_getElem?_getD,hlt]
  have hone:∀u∈ys.map (Value.int k),u.oneCell'=true:=by
   intro u hu
   simp at hu
   obtain⟨z,_,rfl⟩:=hu
   rfl
  refine wpList_plain hgd fun K hK=>?_
  obtain⟨v',w',hr',k2',k3,-⟩:=run_append_own (P:=Tryz.prog) w base t o.type e i (.int k 0) 1 bytes ht hi hz hsize hby rfl (by decide) v zs.length _ hown ad ys.length c (ys.map (Value.int k)) (by simp) hnews hone h63 hbytes hbase
  have k5:=append_block2 ht hi hz (by rw [hsize];exact hown) (by rw [hsize];simp) hnews hone hm h63 (by rw [hby];exact hbytes) hr'
  have hou2:=hou.kept k3 hap
  have hap2:Apart v' u:=by
   intro g hg hu
   rcases k5 with k5|k5
   ·exact hap g (by rw [←k5];exact hg) hu
   ·rw [k5] at hg
    injection hg with hg
    have:=(hou.lt g hu).2
    omega
  have hfin:=hK _ _ (h v' w' (by unfold Got;simpa using k2') hou2 hap2 ((Below.refl base w).grown k3 hbase (fun g hg=>(hown.lt g hg).1)))
  unfold Oper.wp execOp
  simp only [ho,resolve,invoke,builtin,Sem.run_bind,Sem.run_pure,Result.andThen_ok,List.map_toArray,List.map_cons,List.map_nil,hs,hx,hr']
  exact hfin
theorem wpList_appT1 {ops:Array Oper}{rest:List Oper}{o:Oper}{a:Act}{Q:Exit→Act→World→Prop}{w:World}(hgd:o.guard=none)(s x:Operand)(t:TypeId)
  (ho:o.op=.call { callee:=.builtin .append,args:=#[s,x],argTypes:=#[t,t] })
  {base:Nat} {e:TypeId} {i:TypeInfo} {k:IntKind} {bytes:Nat} (ht:Tryz.prog.underlying t=some (.slice e)) (hi:Tryz.prog.info? e=some i) (hz:i.zero=some (.int k 0)) (hsize:i.size=1) (hby:i.bytes=bytes)
  {v u:Value} {zs us:List Int} {y:Int} {E:TypeId} {k2:IntKind} (hs:a.eval s=v) (hown:Got w base e k v zs) (hou:Got w base E k2 u us) (hap:Apart v u) {T:TypeId} (hx:a.eval x=.slice (some ⟨w.heap.size,0,none⟩) 1 1)
  (h63:zs.length+1≤maxLen) (hbytes:(zs.length+1)*bytes≤140737488355328) (hbase:base≤w.heap.size)
  (h:∀v' w',Got w' base e k v' (zs++[y])→Got w' base E k2 u us→Apart v' u→Below base w w'→wpList Tryz.prog ops Q rest (a.put o.dst v') w'):wpList Tryz.prog ops Q (o::rest) a (w.alloc (.cells #[.int k y] T)):=by
 have hal:Below w.heap.size w (w.alloc (.cells #[.int k y] T)):=(Below.refl _ _).alloc (Nat.le_refl _) _
 refine wpList_appT hgd s x t ho (ys:=[y]) ht hi hz hsize hby hs (hown.below hal (Nat.le_refl _)) (hou.below hal (Nat.le_refl _)) hap (by rw [hx];rfl) (Ri.lit w k [y] T) (fun h=>by cases h) (.inl (by simp)) h63 hbytes (by simp;omega) ?_
 intro v' w' h1 h2 h3 h4
 exact h v' w' h1 h2 h3 ((hal.mono hbase).trans h4)
def natsI (l:List Nat):List Int:=l.map (fun i:Nat=>(i:Int))
theorem int_info14:(Tryz.prog.info? 3).map (fun i=>(i.zero,i.size,i.bytes))=some (some (.int .i64 0),1,8):=by kernel_rfl
theorem natsI_snoc (l:List Nat)(i:Nat):natsI (l++[i])=natsI l++[(i:Int)]:=by simp [natsI]
theorem natsI_length (l:List Nat):(natsI l).length=l.length:=by simp [natsI]
def posS (D j:Nat):List Nat:=(List.range j).map (fun i=>D+i)
theorem posS_length (D j:Nat):(posS D j).length=j:=by simp [posS]
theorem posS_succ (D j:Nat):posS D (j+1)=posS D j++[D+j]:=by simp [posS,List.range_succ]
theorem padW_len8 {d:List Int}(h8:d.length % 8=0):padW d (d.length / 8)=wordsOf d:=by
 unfold padW
 rw [show 8*(d.length / 8)-d.length=0 by omega]
 simp
set_option maxHeartbeats 1000000 in
set_option maxRecDepth 100000 in
theorem Shallow14_str (d:List Int)(ks:List Nd)(A:Option Addr)(c:Nat)(B:Option Addr)(c2:Nat)(w:World)(hx:NdR w A c B c2 (.mk 1 0 0 d ks))(hv:validN (.mk 1 0 0 d ks)=true):
  Calls Tryz.prog 67 #[.agg #[.int .i64 1,.int .i64 0,.int .i64 0,.slice A d.length c,.slice B ks.length c2]] w fun r w'=>∃v u,r=.returned (.tuple #[v,.agg #[.int .i64 0,.int .i64 0,.int .i64 ((d.length / 8:Nat):Int),.int .i64 ks.length,.int .i64 0,.int .i64 0,.bool false,.int .i64 0,.int .u32 0,.int .u32 0],u]) ∧
   Got w' w.heap.size 39 .u64 v (fillW (.mk 1 0 0 d ks) 0)∧Got w' w.heap.size 3 .i64 u (natsI (posL (.mk 1 0 0 d ks)))∧Below w.heap.size w w':=by
 obtain⟨i0,hi,hz0,hz1,hz2⟩:=info_parts int64_info
 obtain⟨-,-,h8,hd5,hk5⟩:=head_str hv
 have HD:=Lib.hid hx.open.2.2.2.1
 have HBT:=Lib.hid hx.open.2.2.2.2.1
 have HNL:=Lib.hid hx.open.2.2.2.2.2.2.2.1
 have HB0:=Lib.hid (fun o1 o2 o3=>(((Below.refl w.heap.size w).alloc (Nat.le_refl _) o1).alloc (by simp) o2).alloc (by simp;omega) o3)
 clear hx hv
 obtain⟨j0,gj,gj0,gj1,gj2⟩:=info_parts int_info14
 have HPD:=Lib.hid (fun w2 (hr:Ri w2 .u8 A d)=>RefPadded14 A c d (d.length / 8) w2 hr HBT.out HNL.out (by omega) (by omega))
 have HW:Hid (fillW (.mk 1 0 0 d ks) 0=padW d (d.length / 8)++List.replicate ks.length 0):=Lib.hid (by
  unfold fillW
  rw [List.take_zero,List.nil_append,Nat.sub_zero,targN_mk,if_neg (by decide)]
  show wordsOf d++_=_
  rw [padW_len8 h8])
 have HPW:Hid ((padW d (d.length / 8)).length=d.length / 8):=Lib.hid (padW_length (by omega))
 have HPO:Hid (∀j,posS (d.length / 8) (j+1)=posS (d.length / 8) j++[d.length / 8+j]):=Lib.hid (fun j=>posS_succ _ j)
 have HPL:Hid (posL (.mk 1 0 0 d ks)=posS (d.length / 8) ks.length):=Lib.hid rfl
 generalize posL (.mk 1 0 0 d ks)=pl at *
 generalize fillW (.mk 1 0 0 d ks) 0=fb at *
 have HRS:=Lib.hid (fun (l:List Int) (j:Nat)=>rep_snoc l j)
 obtain⟨D,hD⟩:∃D,d.length / 8=D:=⟨_,rfl⟩
 rw [hD] at HPD HW HPW HPO HPL
 rw [hD]
 generalize padW d D=pw at *
 have hD8:(d.length:Int) / 8=(D:Int):=by omega
 go_enter Tryz.func67,Tryz.ntmps67
 go_wp2_with fail
 refine abs_world (F:=fun W=>Blk W w.heap.size #[.int .i64 1,.int .i64 0,.int .i64 0,.slice A d.length c,.slice B ks.length c2]∧Blk W (w.heap.size+1) #[.int .i64 0,.int .i64 0,.int .i64 0,.int .i64 0,.int .i64 0,.int .i64 0,.bool false,.int .i64 0,.int .u32 0,.int .u32 0]∧Blk W (w.heap.size+1+1) #[.int .i64 0,.int .i64 0,.int .i64 D,.int .i64 ks.length,.int .i64 0,.int .i64 0,.bool false,.int .i64 0,.int .u32 0,.int .u32 0]∧Below w.heap.size w W) ⟨?_,?_,?_,?_⟩ ?_
 ·exact((Blk.fresh _ _ _).alloc _).alloc _
 ·exact(Blk.new (by simp)).alloc _
 ·exact Blk.new (by simp)
 ·exact HB0.out _ _ _
 rintro W ⟨hB1,hB2,hB3,hbw⟩
 refine(HPD.out W (HD.out.below hbw (Nat.le_refl _))).mono ?_
 rintro r w4 ⟨v4,rfl,hg4,hb4⟩
 have hz3:w.heap.size+1+1+1≤W.heap.size:=hB3.lt
 have HG0:Hid (Got w4 (w.heap.size+1+1+1) 39 .u64 v4 pw):=Lib.hid (hg4.mono hz3)
 have H1:=Lib.hid (hB1.below hb4)
 have H2:=Lib.hid (hB2.below hb4)
 have H3:=Lib.hid (hB3.below hb4)
 have HB:=Lib.hid (bel_on hbw hb4)
 have hz4:=hb4.size
 obtain⟨x3,y3,z3⟩:=H3.out
 clear hg4 hB1 hB2 hB3 hbw hb4
 go_wp2
 go_loopw [6,7,8] (fun u v i wr=>∃j:Nat,j≤ks.length∧i=.int .i64 j∧Got wr (w.heap.size+1+1+1) 39 .u64 v (pw++List.replicate j 0)∧Got wr (w.heap.size+1+1+1) 3 .i64 u (natsI (posS D j))∧Apart v u∧Below (w.heap.size+1+1+1) w4 wr) (fun _ _ i _=>ks.length-(intOf i).toNat)
 case atStart=>exact⟨0,by omega,rfl,by simpa using HG0.out,Got.empty _ _ _ _,apart_none _,Below.refl _ _⟩
 case round=>
  clear x3 y3 z3
  obtain⟨j,hj',rfl,hg,hu,hap,hbr⟩:=hrel
  have HG:=Lib.hid hg
  have HU:=Lib.hid hu
  have HAP:=Lib.hid hap
  have HBR:=Lib.hid hbr
  have hsz:=hbr.size
  have B3:=H3.out.belowN hbr (Nat.lt_succ_self _)
  obtain⟨x3,y3,z3⟩:=B3
  obtain⟨A5,c5,rfl,-⟩:=hg.slice
  have hL:(pw++List.replicate j 0).length=D+j:=by rw [List.length_append,List.length_replicate,HPW.out]
  have hLU:(natsI (posS D j)).length=j:=by rw [natsI_length,posS_length]
  have HL:=Lib.hid hL
  have HLU:=Lib.hid hLU
  rw [hL]
  clear hg hu hap hbr hL hLU
  by_cases hlt:j<ks.length
  ·have hj1:(j:Int)<(ks.length:Int):=by omega
   have hszz:w.heap.size+1+1+1≤wr.heap.size:=by omega
   go_wp2_with (first
    | (at_builtin;refine wpList_appT1 rfl (.tmp 41) (.tmp 44) 116 rfl Tryz.underlying116 gj gj0 gj1 gj2 (v:=u6) rfl HU.out HG.out HAP.out.symm rfl (by rw [HLU.out];unfold maxLen;omega) (by rw [HLU.out];omega) hszz ?_;intro u5 w5 hu5 hg5 hap5 hb5)
    | (at_builtin;refine wpList_appT1 rfl (.tmp 46) (.tmp 47) 25 rfl Tryz.underlying25 hi hz0 hz1 hz2 (v:=.slice A5 (pw++List.replicate j 0).length c5) (by rw [HL.out];rfl) hg5 hu5 hap5.symm rfl (by rw [HL.out];unfold maxLen;omega) (by rw [HL.out];omega) (Nat.le_trans hszz hb5.size) ?_;intro v6 w6 hg6 hu6 hap6 hb6))
   go_roundw
   case rel=>
    refine⟨j+1,by omega,by go_num,?_,?_,hap6,(HBR.out.trans hb5).trans hb6⟩
    ·rw [←HRS.out];exact hg6
    ·rw [HPO.out,natsI_snoc]
     simpa using hu6
   case measure=>simp [intOf];omega
  ·obtain rfl:j=ks.length:=by omega
   have HBF:Hid (Below w.heap.size w wr):=Lib.hid (HB.out.trans (HBR.out.mono (by omega)))
   have h2:=H2.out.belowN HBR.out (by omega)
   have H2w:=Lib.hid h2
   obtain⟨x2,y2,z2⟩:=h2
   go_wp2_with fail
   go_region
   go_wp2
   have hq1:w.heap.size+1<w.heap.size+1+1+1:=by omega
   have hq2:w.heap.size≤w.heap.size+1:=by omega
   have HG2:Hid (Got wr (w.heap.size+1+1+1) 39 .u64 (.slice A5 (D+ks.length) c5) (pw++List.replicate ks.length 0)):=Lib.hid (by rw [←HL.out];exact HG.out)
   clear HG
   have HG:=HG2
   refine abs_post (F:=fun W=>Blk W (w.heap.size+1) #[.int .i64 0,.int .i64 0,.int .i64 D,.int .i64 ks.length,.int .i64 0,.int .i64 0,.bool false,.int .i64 0,.int .u32 0,.int .u32 0]∧Got W (w.heap.size+1+1+1) 39 .u64 (.slice A5 (D+ks.length) c5) (pw++List.replicate ks.length 0)∧Got W (w.heap.size+1+1+1) 3 .i64 u6 (natsI (posS D ks.length))∧Below w.heap.size w W) ⟨?_,?_,?_,?_⟩ ?_
   rotate_left 2
   ·exact Got.drewT ((((((((((HU.out.far (p:=⟨w.heap.size+1,0,none⟩) hq1 _).far (p:=⟨w.heap.size+1,1,none⟩) hq1 _).far (p:=⟨w.heap.size+1,2,none⟩) hq1 _).far (p:=⟨w.heap.size+1,3,none⟩) hq1 _).far (p:=⟨w.heap.size+1,4,none⟩) hq1 _).far (p:=⟨w.heap.size+1,5,none⟩) hq1 _).far (p:=⟨w.heap.size+1,6,none⟩) hq1 _).far (p:=⟨w.heap.size+1,7,none⟩) hq1 _).far (p:=⟨w.heap.size+1,8,none⟩) hq1 _).far (p:=⟨w.heap.size+1,9,none⟩) hq1 _)
   ·exact bel_drew ((((((((((HBF.out.setCell (p:=⟨w.heap.size+1,0,none⟩) hq2 _).setCell (p:=⟨w.heap.size+1,1,none⟩) hq2 _).setCell (p:=⟨w.heap.size+1,2,none⟩) hq2 _).setCell (p:=⟨w.heap.size+1,3,none⟩) hq2 _).setCell (p:=⟨w.heap.size+1,4,none⟩) hq2 _).setCell (p:=⟨w.heap.size+1,5,none⟩) hq2 _).setCell (p:=⟨w.heap.size+1,6,none⟩) hq2 _).setCell (p:=⟨w.heap.size+1,7,none⟩) hq2 _).setCell (p:=⟨w.heap.size+1,8,none⟩) hq2 _).setCell (p:=⟨w.heap.size+1,9,none⟩) hq2 _)
   ·rintro W9 ⟨B6,hN,hU,hbw⟩
    exact bodyPost_ret (v:=.tuple #[.slice A5 (D+ks.length) c5,.agg #[.int .i64 0,.int .i64 0,.int .i64 D,.int .i64 ks.length,.int .i64 0,.int .i64 0,.bool false,.int .i64 0,.int .u32 0,.int .u32 0],u6]) (by simp [results,Tryz.results67,go_sem,B6.cell]) rfl ⟨_,_,rfl,by rw [HW.out];exact hN.mono (by omega),by rw [HPL.out];exact hU.mono (by omega),hbw⟩
   ·exact((((((((((H2w.out.set 0 (by simp) _).set 1 (by simp) _).set 2 (by simp) _).set 3 (by simp) _).set 4 (by simp) _).set 5 (by simp) _).set 6 (by simp) _).set 7 (by simp) _).set 8 (by simp) _).set 9 (by simp) _).drew
   ·exact Got.drewT ((((((((((HG.out.far (p:=⟨w.heap.size+1,0,none⟩) hq1 _).far (p:=⟨w.heap.size+1,1,none⟩) hq1 _).far (p:=⟨w.heap.size+1,2,none⟩) hq1 _).far (p:=⟨w.heap.size+1,3,none⟩) hq1 _).far (p:=⟨w.heap.size+1,4,none⟩) hq1 _).far (p:=⟨w.heap.size+1,5,none⟩) hq1 _).far (p:=⟨w.heap.size+1,6,none⟩) hq1 _).far (p:=⟨w.heap.size+1,7,none⟩) hq1 _).far (p:=⟨w.heap.size+1,8,none⟩) hq1 _).far (p:=⟨w.heap.size+1,9,none⟩) hq1 _)
end Go.Proofs.YtfaflahfjgnphaaGreatDoor
