/- The texts Ref14d, Ref14e, WriB, WriN, WriC, WriD (what is wanted of them), one after the other. -/
import Derived.Test.YtbpmeppdjicmhaaGreatDoorMg29
import Derived.Test.YtbpmeppdjicmhaaGreatDoorMg39
namespace Go.Proofs.YtbpmeppdjicmhaaGreatDoor
open Go.ChangeShapes Go.WideShapes Go.ChangeAt Go.RowKit
set_option linter.unusedVariables false
set_option linter.unusedSimpArgs false
set_option maxRecDepth 100000
section
attribute [local simp] AllK KnowsV look Is
def elsO (a b:Nat)(l:List Nd):List Int:=l.flatMap (fun y=>padW y.d a++List.replicate b 0)
theorem elsO_snoc (a b:Nat)(l:List Nd)(y:Nd):elsO a b (l++[y])=elsO a b l++(padW y.d a++List.replicate b 0):=by simp [elsO]
theorem elsO_length {a b:Nat}:∀{l:List Nd},(∀y∈l,y.d.length≤8*a)→(elsO a b l).length=l.length*(a+b)
 | [],_=>by simp [elsO]
 | y::ys,h=>by
  have ih:=elsO_length (a:=a) (b:=b) (l:=ys) (fun z hz=>h z (List.mem_cons_of_mem _ hz))
  have e:elsO a b (y::ys)=(padW y.d a++List.replicate b 0)++elsO a b ys:=by simp [elsO]
  rw [e,List.length_append,List.length_append,padW_length (h y (List.mem_cons_self ..)),List.length_replicate,ih,List.length_cons,Nat.add_mul]
  omega
theorem elsP_zero (a b:Nat):∀(ys:List Nd),(∀y∈ys,y.ks.length≤b)→elsP a b ys (List.replicate (kk ys).length 0)=elsO a b ys
 | [],_=>rfl
 | y::ys,h=>by
  have hk:kk (y::ys)=y.ks++kk ys:=by simp [kk]
  have h1:=h y (List.mem_cons_self ..)
  have ih:=elsP_zero a b ys (fun z hz=>h z (List.mem_cons_of_mem _ hz))
  have e:elsO a b (y::ys)=(padW y.d a++List.replicate b 0)++elsO a b ys:=by simp [elsO]
  have e1:(List.replicate (kk (y::ys)).length (0:Int)).take y.ks.length=List.replicate y.ks.length 0:=by rw [hk,List.take_replicate,List.length_append];congr 1;omega
  have e2:(List.replicate (kk (y::ys)).length (0:Int)).drop y.ks.length=List.replicate (kk ys).length 0:=by rw [hk,List.drop_replicate,List.length_append];congr 1;omega
  have e3:List.replicate b (0:Int)=List.replicate y.ks.length 0++List.replicate (b-y.ks.length) 0:=by rw [List.replicate_append_replicate];congr 1;omega
  simp only [elsP]
  rw [e1,e2,ih,e,e3]
  simp only [List.append_assoc]
theorem posE_snoc (a b:Nat):∀(l:List Nd) (s:Nat) (y:Nd),posE a b s (l++[y])=posE a b s l++posS (s+l.length*(a+b)+a) y.ks.length
 | [],s,y=>by simp [posE,posS]
 | x::xs,s,y=>by
  simp only [List.cons_append,posE,posE_snoc a b xs,List.append_assoc,List.length_cons]
  rw [show s+a+b+xs.length*(a+b)+a=s+(xs.length+1)*(a+b)+a by rw [Nat.add_mul];omega]
theorem fillW_cmp {n:Int}{d:List Int}{ks:List Nd}(hv:validN (.mk 2 7 n d ks)=true):fillW (.mk 2 7 n d ks) 0=tagW n (uniD ks ks.length) (uniP ks ks.length)::elsO (uniD ks ks.length) (uniP ks ks.length) ks:=by
 unfold fillW
 rw [List.take_zero,List.nil_append,Nat.sub_zero,targN_mk,if_pos ⟨rfl,rfl⟩,←elsP_zero _ _ ks (fun y hy=>(comp_fit hv y hy).2)]
 rfl
theorem tag_vld {n:Int}{d:List Int}{ks:List Nd}(hv:validN (.mk 2 7 n d ks)=true):Vld ⟨0,n,(uniD ks ks.length:Nat),(uniP ks ks.length:Nat),0,0,false,0,0,0⟩:=by
 obtain⟨g1,g2,-⟩:=head_lst hv
 obtain⟨h1,h2⟩:=uni_bd hv
 left
 simp only
 refine⟨trivial,by omega,by omega,by omega,by omega,by omega,by omega,?_⟩
 simp
theorem got_one14 (w:World)(y:Int){base:Nat}(hb:base≤w.heap.size):Got (w.alloc (.cells #[.int .u64 y] 48)) base 48 .u64 (.slice (some ⟨w.heap.size,0,none⟩) 1 1) [y]:=
 ⟨rfl,.inr ⟨w.heap.size,1,_,rfl,hb,heap_alloc_new _ _,Nat.le_refl _,by unfold maxLen;omega,rfl,rfl⟩⟩
set_option maxHeartbeats 4000000 in
set_option maxRecDepth 100000 in
theorem Shallow14_cmp (n:Int)(d:List Int)(ks:List Nd)(A:Option Addr)(c:Nat)(B:Option Addr)(c2:Nat)(w:World)(hx:NdR w A c B c2 (.mk 2 7 n d ks))(hv:validN (.mk 2 7 n d ks)=true)(hs:sizeN (.mk 2 7 n d ks)≤1048576)(S:Int)(hS:canO (.mk 2 7 n d ks)=1+S):
  Calls Tryz.prog 58 #[.agg #[.int .i64 2,.int .i64 7,.int .i64 n,.slice A d.length c,.slice B ks.length c2]] w fun r w'=>∃v u,r=.returned (.tuple #[v,.agg #[.int .i64 1,.int .i64 0,.int .i64 0,.int .i64 0,.int .i64 7,.int .i64 S,.bool false,.int .i64 0,.int .u32 0,.int .u32 0],u]) ∧
   Got w' w.heap.size 48 .u64 v (fillW (.mk 2 7 n d ks) 0)∧Got w' w.heap.size 3 .i64 u (natsI (posL (.mk 2 7 n d ks)))∧Below w.heap.size w w':=by
 obtain⟨i0,hi,hz0,hz1,hz2⟩:=info_parts int64_info
 obtain⟨j0,gj,gj0,gj1,gj2⟩:=info_parts int_info14
 obtain⟨g1,g2,-,-,g5,-⟩:=head_lst hv
 obtain⟨-,g8⟩:=g5 (by decide)
 have hfit:=comp_fit hv
 obtain⟨hu1,hu2⟩:=uni_bd hv
 have hvt:=tag_vld hv
 have HX:=Lib.hid hx
 have HKS:=Lib.hid hx.kids
 have HB0:=Lib.hid (fun o1 o2 o3=>(((Below.refl w.heap.size w).alloc (Nat.le_refl _) o1).alloc (by simp) o2).alloc (by simp;omega) o3)
 have hfl:=fillW_cmp hv
 have HUN:=Lib.hid (fun w2 (h2:NdR w2 A c B c2 (.mk 2 7 n d ks))=>RefUniform11_any (.mk 2 7 n d ks) A c B c2 w2 h2 (by omega))
 simp only [Nd.k,Nd.e,Nd.n,Nd.d,Nd.ks] at HUN
 have hkl:ks.length≤1048576:=by
  simp only [sizeN] at hs
  have:=sizeK_length ks
  omega
 have hO:canO (.mk 2 7 n d ks)=1+n*((uniD ks ks.length+uniP ks ks.length:Nat):Int):=by
  show canOf 2 7 n d ks=_
  unfold canOf
  rw [if_neg (show ¬((2:Int)=0) by decide),if_neg (show ¬((2:Int)=1) by decide),if_pos rfl]
 have HPL:Hid (posL (.mk 2 7 n d ks)=posE (uniD ks ks.length) (uniP ks ks.length) 1 ks):=Lib.hid rfl
 have htw:encE ⟨0,n,(uniD ks ks.length:Nat),(uniP ks ks.length:Nat),0,0,false,0,0,0⟩=tagW n (uniD ks ks.length) (uniP ks ks.length):=by
  unfold encE okE
  rw [if_pos (decide_eq_true hvt)]
  rfl
 generalize posL (.mk 2 7 n d ks)=pl at *
 generalize fillW (.mk 2 7 n d ks) 0=fb at *
 generalize uniD ks ks.length=X at *
 generalize uniP ks ks.length=b at *
 obtain⟨tg,htg⟩:∃tg,tagW n X b=tg:=⟨_,rfl⟩
 rw [htg] at hfl htw
 have HW:=Lib.hid hfl
 have HEN:=Lib.hid (fun w2=>RefEncode_any 0 n X b 0 0 0 0 0 false w2 (by decide) (by decide) (by decide))
 rw [htw] at HEN
 have hSn:S=((ks.length*(X+b):Nat):Int):=by
  rw [hO,←g8] at hS
  rw [Int.natCast_mul]
  omega
 have HSN:=Lib.hid hSn
 have HLE:Hid (∀j,j≤ks.length→(elsO X b (ks.take j)).length=j*(X+b)):=Lib.hid (fun j hj=>by
  rw [elsO_length (fun y hy=>(hfit y (List.mem_of_mem_take hy)).1),List.length_take]
  congr 1
  omega)
 have hmb:∀j,j≤ks.length→j*(X+b)≤1048576*131070:=fun j hj=>Nat.mul_le_mul (by omega) (by omega)
 have HMB:=Lib.hid hmb
 have HES:Hid (∀j (hj:j<ks.length),elsO X b (ks.take (j+1))=elsO X b (ks.take j)++(padW (ks[j]).d X++List.replicate b 0)):=Lib.hid (fun j hj=>by rw [List.take_succ_eq_append_getElem hj,elsO_snoc])
 have HPS:Hid (∀j (hj:j<ks.length),posE X b 1 (ks.take (j+1))=posE X b 1 (ks.take j)++posS (1+j*(X+b)+X) (ks[j]).ks.length):=Lib.hid (fun j hj=>by
  rw [List.take_succ_eq_append_getElem hj,posE_snoc,List.length_take]
  rw [show min j ks.length=j by omega])
 have HFIT:=Lib.hid hfit
 have HPSL:Hid (∀j,(posE X b 1 (ks.take j)).length≤1048576):=Lib.hid (fun j=>by
  rw [posE_length]
  have h1:=kk_size (ks.take j)
  have h2:=sizeK_take_le ks j
  simp only [sizeN] at hs
  omega)
 clear hx hv hfl hfit htw hO hS hSn htg g5 hvt hmb hs
 go_enter Tryz.func58,Tryz.ntmps58
 go_wp2_with fail
 refine abs_world (F:=fun W=>Blk W w.heap.size #[.int .i64 2,.int .i64 7,.int .i64 n,.slice A d.length c,.slice B ks.length c2]∧Blk W (w.heap.size+1) #[.int .i64 0,.int .i64 0,.int .i64 0,.int .i64 0,.int .i64 0,.int .i64 0,.bool false,.int .i64 0,.int .u32 0,.int .u32 0]∧Blk W (w.heap.size+1+1) #[.int .i64 1,.int .i64 0,.int .i64 0,.int .i64 0,.int .i64 7,.int .i64 n,.bool false,.int .i64 0,.int .u32 0,.int .u32 0]∧Below w.heap.size w W) ⟨?_,?_,?_,?_⟩ ?_
 ·exact((Blk.fresh _ _ _).alloc _).alloc _
 ·exact(Blk.new (by simp)).alloc _
 ·exact Blk.new (by simp)
 ·exact HB0.out _ _ _
 rintro W ⟨hB1,hB2,hB3,hbw⟩
 have hz3:w.heap.size+1+1+1≤W.heap.size:=hB3.lt
 refine(HUN.out W (HX.out.on hbw (Nat.le_refl _))).mono ?_
 rintro r w4 ⟨rfl,hb4⟩
 have hb4w:=bel_on hbw hb4
 have hB1':=hB1.below hb4
 have hB2':=hB2.below hb4
 have hB3':=hB3.below hb4
 have hz4:=hb4.size
 clear hB1 hB2 hB3 hbw hb4
 obtain⟨x1,y1,z1⟩:=hB1'
 go_wp2_with fail
 refine(HEN.out w4).mono ?_
 rintro r w5 ⟨rfl,hb5⟩
 have H1:=Lib.hid ((show Blk w4 _ _ from ⟨x1,y1,z1⟩).below hb5)
 have H2:=Lib.hid (hB2'.below hb5)
 have H3:=Lib.hid (hB3'.below hb5)
 have HB:=Lib.hid (bel_on hb4w hb5)
 have hz5:=hb5.size
 clear hB2' hB3' hb4w hb5 x1 y1 z1
 have hG0:Got (w5.alloc (.cells #[.int .u64 tg] 48)) (w.heap.size+1+1+1) 48 .u64 (.slice (some ⟨w5.heap.size,0,none⟩) 1 1) (tg::elsO X b (ks.take 0)):=got_one14 w5 tg (by omega)
 have HG0:=Lib.hid hG0
 have HAL:=Lib.hid (fun o=>(Below.refl w5.heap.size w5).alloc (Nat.le_refl _) o)
 clear hG0
 obtain⟨x1,y1,z1⟩:=(H1.out.alloc (.cells #[.int .u64 tg] 48))
 go_wp2
 go_loopw [6,15,16] (fun u v i wr=>∃j:Nat,j≤ks.length∧i=.int .i64 j∧Got wr (w.heap.size+1+1+1) 48 .u64 v (tg::elsO X b (ks.take j))∧Got wr (w.heap.size+1+1+1) 3 .i64 u (natsI (posE X b 1 (ks.take j)))∧Apart v u∧Below (w.heap.size+1+1+1) w5 wr) (fun _ _ i _=>ks.length-(intOf i).toNat)
 case atStart=>exact⟨0,by omega,rfl,HG0.out,by simpa [posE,natsI] using Got.empty _ _ _ _,apart_none _,(HAL.out _).mono (by omega)⟩
 case round=>
  clear x1 y1 z1
  obtain⟨j,hj',rfl,hg,hu,hap,hbr⟩:=hrel
  have HG:=Lib.hid hg
  have HU:=Lib.hid hu
  have HAP:=Lib.hid hap
  have HBR:=Lib.hid hbr
  have hsz:=hbr.size
  have HBW:Hid (Below w.heap.size w wr):=Lib.hid (HB.out.trans (hbr.mono (by omega)))
  have B1:=H1.out.belowN hbr (by omega)
  obtain⟨x1,y1,z1⟩:=B1
  clear hg hu hap hbr
  by_cases hlt:j<ks.length
  ·have hj1:(j:Int)<(ks.length:Int):=by omega
   obtain⟨b',off,A',c',B',c2',rfl,k0w,k1w,k2w,k3w,k4w,hsub⟩:=HKS.out.at hlt
   have hb'lt:b'<w.heap.size:=World.block_lt_of_cell? w ⟨b',off+j*5,none⟩ k0w
   have HES1:=Lib.hid (HES.out j hlt)
   have HPS1:=Lib.hid (HPS.out j hlt)
   have HPL1:=Lib.hid (HPSL.out (j+1))
   rw [HPS1.out,List.length_append,posS_length] at HPL1
   obtain⟨hf1,hf2⟩:=HFIT.out ks[j] (List.getElem_mem hlt)
   generalize ks[j]=y at *
   obtain⟨yk,ye,yn,yd,yks⟩:=y
   simp only [Nd.k,Nd.e,Nd.n,Nd.d,Nd.ks] at k0w k1w k2w k3w k4w HES1 HPS1 HPL1 hf1 hf2
   have HSO:=Lib.hid hsub.open
   have HK3:Hid (∀W',Below w.heap.size w W'→W'.cell? ⟨b',off+j*5+3,none⟩=some (.slice A' yd.length c')):=Lib.hid (fun W' h=>(h.cell (p:=⟨b',off+j*5+3,none⟩) hb'lt).trans k3w)
   have HK4:Hid (∀W',Below w.heap.size w W'→W'.cell? ⟨b',off+j*5+4,none⟩=some (.slice B' yks.length c2')):=Lib.hid (fun W' h=>(h.cell (p:=⟨b',off+j*5+4,none⟩) hb'lt).trans k4w)
   have HPD:=Lib.hid (fun w2 (hb:Below w.heap.size w w2)=>RefPadded14 A' c' yd X w2 (HSO.out.2.2.2.1.below hb (Nat.le_refl _)) HSO.out.2.2.2.2.1 HSO.out.2.2.2.2.2.2.2.1 hf1 (by omega))
   have HPW:Hid ((padW yd X).length=X):=Lib.hid (padW_length hf1)
   generalize padW yd X=pw at *
   clear k0w k1w k2w k3w k4w hsub
   have k3:=HK3.out wr HBW.out
   have hLJ:=HLE.out j (by omega)
   have hMJ:=HMB.out (j+1) (by omega)
   have hMJ2:(j+1)*(X+b)=j*(X+b)+(X+b):=by rw [Nat.add_mul,Nat.one_mul]
   obtain⟨M,hM⟩:∃M,j*(X+b)=M:=⟨_,rfl⟩
   rw [hM] at hLJ hMJ2 HPS1
   have hMb:M+(X+b)≤1048576*131070:=by omega
   have HLJ:=Lib.hid hLJ
   have HM:=Lib.hid hM
   clear hLJ hMJ hMJ2 hM
   have hszz:w.heap.size+1+1+1≤wr.heap.size:=by omega
   go_wp2_with fail
   refine(HPD.out wr HBW.out).mono ?_
   rintro r w8 ⟨v8,rfl,hg8,hb8⟩
   obtain⟨A8,c8,rfl,hl8,hm8,hr8,hn8⟩:=hg8.full
   have hg8':=HG.out.below hb8 (Nat.le_refl _)
   have hu8':=HU.out.below hb8 (Nat.le_refl _)
   have HR8:=Lib.hid hr8
   have HN8:=Lib.hid hn8
   have HBR8:=Lib.hid (HBR.out.trans (hb8.mono hszz))
   have hz8:=hb8.size
   clear hg8 hr8 hn8 hl8 hm8 hb8 k3 x1 y1 z1
   have hne:u15≠.slice none 0 0:=by
    intro h
    obtain⟨A5,c5,h5,-⟩:=hg8'.slice
    rw [h] at h5
    injection h5 with h6 h7
    simp at h7
   go_wp2_with (at_builtin;refine wpList_appT rfl (.tmp 104) (.tmp 112) 27 rfl Tryz.underlying27 hi hz0 hz1 hz2 (v:=u15) rfl hg8' hu8' HAP.out rfl HR8.out HN8.out (.inr hne) (by rw [List.length_cons,HLJ.out,HPW.out];unfold maxLen;omega) (by rw [List.length_cons,HLJ.out,HPW.out];omega) (Nat.le_trans hszz hz8) ?_;intro v9 w9 hg9 hu9 hap9 hb9)
   have HG9:=Lib.hid hg9
   have HU9:=Lib.hid hu9
   have HAP9:=Lib.hid hap9
   have HBR9:=Lib.hid (HBR8.out.trans hb9)
   clear hg9 hu9 hap9 hb9 hg8' hu8' hne
   go_loopw [6,15,17] (fun u v i wi=>∃k:Nat,k≤b∧i=.int .i64 k∧Got wi (w.heap.size+1+1+1) 48 .u64 v (((tg::elsO X b (ks.take j))++pw)++List.replicate k 0)∧Got wi (w.heap.size+1+1+1) 3 .i64 u (natsI (posE X b 1 (ks.take j)++posS (1+M+X) (min k yks.length)))∧Apart v u∧Below (w.heap.size+1+1+1) w5 wi) (fun _ _ i _=>b-(intOf i).toNat)
   case atStart=>exact⟨0,by omega,rfl,by simpa using HG9.out,by simpa [posS] using HU9.out,HAP9.out,HBR9.out⟩
   case round=>
    rename World=>wi
    obtain⟨k,hk,rfl,hg,hu,hap,hbr⟩:=hrel
    have HG:=Lib.hid hg
    have HU:=Lib.hid hu
    have HAP:=Lib.hid hap
    have HBR:=Lib.hid hbr
    have hsz':=hbr.size
    have HBW:Hid (Below w.heap.size w wi):=Lib.hid (HB.out.trans (hbr.mono (by omega)))
    have k4:=HK4.out wi HBW.out
    obtain⟨x1,y1,z1⟩:=H1.out.belowN hbr (by omega)
    obtain⟨A5,c5,rfl,-⟩:=hg.slice
    have hL:(((tg::elsO X b (ks.take j))++pw)++List.replicate k 0).length=1+M+X+k:=by rw [List.length_append,List.length_append,List.length_cons,HLJ.out,HPW.out,List.length_replicate];omega
    have HL:=Lib.hid hL
    have HLU:Hid ((natsI (posE X b 1 (ks.take j)++posS (1+M+X) (min k yks.length))).length≤1048576):=Lib.hid (by rw [natsI_length,List.length_append,posS_length];have:=HPL1.out;omega)
    have hszz':w.heap.size+1+1+1≤wi.heap.size:=by omega
    rw [hL]
    clear hg hu hap hbr hL
    by_cases hkb:k<b
    ·have hk1:(k:Int)<(b:Int):=by omega
     by_cases hkm:k<yks.length
     ·have hk2:(k:Int)<(yks.length:Int):=by omega
      have HPO:Hid (posS (1+M+X) (min (k+1) yks.length)=posS (1+M+X) (min k yks.length)++[1+M+X+k]):=Lib.hid (by rw [show min (k+1) yks.length=k+1 by omega,show min k yks.length=k by omega,posS_succ])
      go_wp2_with (first
       | (at_builtin;refine wpList_appT1 rfl (.tmp 128) (.tmp 131) 97 rfl Tryz.underlying97 gj gj0 gj1 gj2 (v:=u6) rfl HU.out HG.out HAP.out.symm rfl (by have:=HLU.out;unfold maxLen;omega) (by have:=HLU.out;omega) hszz' ?_;intro u5 w10 hu5 hg5 hap5 hb5)
       | (at_builtin;refine wpList_appT1 rfl (.tmp 133) (.tmp 134) 27 rfl Tryz.underlying27 hi hz0 hz1 hz2 (v:=.slice A5 (((tg::elsO X b (ks.take j))++pw)++List.replicate k 0).length c5) (by rw [HL.out];rfl) hg5 hu5 hap5.symm rfl (by rw [HL.out];unfold maxLen;omega) (by rw [HL.out];omega) (Nat.le_trans hszz' hb5.size) ?_;intro v6 w11 hg6 hu6 hap6 hb6))
      go_roundw
      case rel=>
       refine⟨k+1,by omega,by go_num,?_,?_,hap6,(HBR.out.trans hb5).trans hb6⟩
       ·rw [←rep_snoc];exact hg6
       ·rw [HPO.out,←List.append_assoc,natsI_snoc]
        simpa using hu6
      case measure=>simp [intOf];omega
     ·have hk2:¬(k:Int)<(yks.length:Int):=by omega
      have HPO:Hid (min (k+1) yks.length=min k yks.length):=Lib.hid (by omega)
      go_wp2_with (at_builtin;refine wpList_appT1 rfl (.tmp 133) (.tmp 134) 27 rfl Tryz.underlying27 hi hz0 hz1 hz2 (v:=.slice A5 (((tg::elsO X b (ks.take j))++pw)++List.replicate k 0).length c5) (by rw [HL.out];rfl) HG.out HU.out HAP.out rfl (by rw [HL.out];unfold maxLen;omega) (by rw [HL.out];omega) hszz' ?_;intro v6 w11 hg6 hu6 hap6 hb6)
      go_roundw
      case rel=>
       refine⟨k+1,by omega,by go_num,?_,?_,hap6,HBR.out.trans hb6⟩
       ·rw [←rep_snoc];exact hg6
       ·rw [HPO.out];exact hu6
      case measure=>simp [intOf];omega
    ·obtain rfl:k=b:=by omega
     rw [HL.out] at HG HAP
     go_wp2
     go_roundw
     case rel=>
      refine⟨j+1,by omega,by go_num,?_,?_,HAP.out,HBR.out⟩
      ·rw [HES1.out]
       have e:(((tg::elsO X k (ks.take j))++pw)++List.replicate k 0)=tg::(elsO X k (ks.take j)++(pw++List.replicate k 0)):=by simp
       rw [←e]
       exact HG.out
      ·rw [HPS1.out]
       have e:min k yks.length=yks.length:=by omega
       rw [←e]
       exact HU.out
     case measure=>simp [intOf];omega
  ·obtain rfl:j=ks.length:=by omega
   have hLJ:=HLE.out ks.length (Nat.le_refl _)
   have hMJ:=HMB.out ks.length (Nat.le_refl _)
   have hsn:=HSN.out
   obtain⟨A5,c5,rfl,-⟩:=HG.out.slice
   have htk:ks.take ks.length=ks:=List.take_length
   rw [htk] at hLJ HG HU HAP
   obtain⟨L,hL⟩:∃L,(tg::elsO X b ks).length=L:=⟨_,rfl⟩
   have hL2:L=S+1:=by rw [←hL,List.length_cons,hLJ];omega
   have hS0:0≤S∧S≤1099511627776:=by omega
   rw [htk,hL]
   rw [hL] at HG HAP
   have hwr:IntKind.i64.wrap ((L:Int)-1)=S:=by rw [IntKind.wrap_i64];omega
   obtain⟨x3,y3,z3⟩:=H3.out.belowN HBR.out (by omega)
   clear hLJ hMJ hsn hL htk
   have HBF0:Hid (Below w.heap.size w wr):=HBW
   have H3r:=Lib.hid (H3.out.belowN HBR.out (by omega))
   have H2r:=Lib.hid (H2.out.belowN HBR.out (by omega))
   go_wp2_with fail
   refine abs_code10 (F:=fun W=>Blk W (w.heap.size+1) #[.int .i64 0,.int .i64 0,.int .i64 0,.int .i64 0,.int .i64 0,.int .i64 0,.bool false,.int .i64 0,.int .u32 0,.int .u32 0]∧Blk W (w.heap.size+1+1) #[.int .i64 1,.int .i64 0,.int .i64 0,.int .i64 0,.int .i64 7,.int .i64 S,.bool false,.int .i64 0,.int .u32 0,.int .u32 0]∧Got W (w.heap.size+1+1+1) 48 .u64 (.slice A5 L c5) (tg::elsO X b ks)∧Got W (w.heap.size+1+1+1) 3 .i64 u6 (natsI (posE X b 1 ks))∧Below w.heap.size w W) ⟨?_,?_,?_,?_,?_⟩ ?_
   ·exact H2r.out.other (by show w.heap.size+1+1≠w.heap.size+1;omega) _
   ·exact H3r.out.set 5 (by simp) _
   ·exact HG.out.far (p:=⟨w.heap.size+1+1,5,none⟩) (by show w.heap.size+1+1<w.heap.size+1+1+1;omega) _
   ·exact HU.out.far (p:=⟨w.heap.size+1+1,5,none⟩) (by show w.heap.size+1+1<w.heap.size+1+1+1;omega) _
   ·exact HBF0.out.setCell (p:=⟨w.heap.size+1+1,5,none⟩) (by show w.heap.size≤w.heap.size+1+1;omega) _
   clear HG HU HBF0 H3r H2r x1 y1 z1 x3 y3 z3
   rintro wq ⟨h2,h3,hg,hu,hb⟩
   have H2p:=Lib.hid h2
   have H3p:=Lib.hid h3
   have HG:=Lib.hid hg
   have HU:=Lib.hid hu
   have HBF:=Lib.hid hb
   clear h2 h3 hg hu hb
   have h2:=H2p.out
   have H2w:=Lib.hid h2
   obtain⟨x2,y2,z2⟩:=h2
   obtain⟨x3,y3,z3⟩:=H3p.out
   go_region
   go_wp2
   have hq1:w.heap.size+1<w.heap.size+1+1+1:=by omega
   have hq2:w.heap.size≤w.heap.size+1:=by omega
   refine abs_post (F:=fun W=>Blk W (w.heap.size+1) #[.int .i64 1,.int .i64 0,.int .i64 0,.int .i64 0,.int .i64 7,.int .i64 S,.bool false,.int .i64 0,.int .u32 0,.int .u32 0]∧Got W (w.heap.size+1+1+1) 48 .u64 (.slice A5 L c5) (tg::elsO X b ks)∧Got W (w.heap.size+1+1+1) 3 .i64 u6 (natsI (posE X b 1 ks))∧Below w.heap.size w W) ⟨?_,?_,?_,?_⟩ ?_
   rotate_left 2
   ·exact Got.drewT ((((((((((HU.out.far (p:=⟨w.heap.size+1,0,none⟩) hq1 _).far (p:=⟨w.heap.size+1,1,none⟩) hq1 _).far (p:=⟨w.heap.size+1,2,none⟩) hq1 _).far (p:=⟨w.heap.size+1,3,none⟩) hq1 _).far (p:=⟨w.heap.size+1,4,none⟩) hq1 _).far (p:=⟨w.heap.size+1,5,none⟩) hq1 _).far (p:=⟨w.heap.size+1,6,none⟩) hq1 _).far (p:=⟨w.heap.size+1,7,none⟩) hq1 _).far (p:=⟨w.heap.size+1,8,none⟩) hq1 _).far (p:=⟨w.heap.size+1,9,none⟩) hq1 _)
   ·exact bel_drew ((((((((((HBF.out.setCell (p:=⟨w.heap.size+1,0,none⟩) hq2 _).setCell (p:=⟨w.heap.size+1,1,none⟩) hq2 _).setCell (p:=⟨w.heap.size+1,2,none⟩) hq2 _).setCell (p:=⟨w.heap.size+1,3,none⟩) hq2 _).setCell (p:=⟨w.heap.size+1,4,none⟩) hq2 _).setCell (p:=⟨w.heap.size+1,5,none⟩) hq2 _).setCell (p:=⟨w.heap.size+1,6,none⟩) hq2 _).setCell (p:=⟨w.heap.size+1,7,none⟩) hq2 _).setCell (p:=⟨w.heap.size+1,8,none⟩) hq2 _).setCell (p:=⟨w.heap.size+1,9,none⟩) hq2 _)
   ·rintro W9 ⟨B6,hN,hU,hbw⟩
    exact bodyPost_ret (v:=.tuple #[.slice A5 L c5,.agg #[.int .i64 1,.int .i64 0,.int .i64 0,.int .i64 0,.int .i64 7,.int .i64 S,.bool false,.int .i64 0,.int .u32 0,.int .u32 0],u6]) (by simp [results,Tryz.results58,go_sem,B6.cell]) rfl ⟨_,_,rfl,by rw [HW.out];exact hN.mono (by omega),by rw [HPL.out];exact hU.mono (by omega),hbw⟩
   ·exact((((((((((H2w.out.set 0 (by simp) _).set 1 (by simp) _).set 2 (by simp) _).set 3 (by simp) _).set 4 (by simp) _).set 5 (by simp) _).set 6 (by simp) _).set 7 (by simp) _).set 8 (by simp) _).set 9 (by simp) _).drew
   ·exact Got.drewT ((((((((((HG.out.far (p:=⟨w.heap.size+1,0,none⟩) hq1 _).far (p:=⟨w.heap.size+1,1,none⟩) hq1 _).far (p:=⟨w.heap.size+1,2,none⟩) hq1 _).far (p:=⟨w.heap.size+1,3,none⟩) hq1 _).far (p:=⟨w.heap.size+1,4,none⟩) hq1 _).far (p:=⟨w.heap.size+1,5,none⟩) hq1 _).far (p:=⟨w.heap.size+1,6,none⟩) hq1 _).far (p:=⟨w.heap.size+1,7,none⟩) hq1 _).far (p:=⟨w.heap.size+1,8,none⟩) hq1 _).far (p:=⟨w.heap.size+1,9,none⟩) hq1 _)
end
section
attribute [local simp] AllK KnowsV look Is
set_option maxRecDepth 100000 in
theorem RefTargets14 (x:Nd)(A:Option Addr)(c:Nat)(B:Option Addr)(c2:Nat)(w:World)(hx:NdR w A c B c2 x)(hs:sizeN x≤1099511627776):
  Calls Tryz.prog 60 #[.agg #[.int .i64 x.k,.int .i64 x.e,.int .i64 x.n,.slice A x.d.length c,.slice B x.ks.length c2]] w fun r w'=>∃B' c',r=.returned (.slice B' (targN x).length c')∧KsR w' B' (targN x)∧(targN x).length≤c'∧c'≤9223372036854775807∧Below w.heap.size w w':=by
 obtain⟨k,e,n,d,ks⟩:=x
 simp only [Nd.k,Nd.e,Nd.n,Nd.d,Nd.ks]
 have HX:=Lib.hid hx
 have HO:=Lib.hid hx.open
 clear hx
 by_cases hke:k=2∧e=7
 ·have HT:Hid (targN (.mk k e n d ks)=kk ks):=Lib.hid (by rw [targN_def,if_pos hke])
  obtain⟨rfl,rfl⟩:=hke
  have hs2:sizeN (.mk 2 7 n d ks)=1+d.length+sizeK ks:=by simp only [sizeN]
  rw [hs2] at hs
  have HKK:Hid (∀j,(kk (ks.take j)).length≤sizeK ks):=Lib.hid (fun j=>Nat.le_trans (kk_size _) (sizeK_take_le ks j))
  have hkl:=sizeK_length ks
  rw [HT.out]
  clear hs2
  go_enter Tryz.func60,Tryz.ntmps60
  go_wp2
  go_loopw [3,4] (fun s i wr=>∃j:Nat,j≤ks.length∧i=.int .i64 j∧OwnK w wr (w.heap.size+1) s (kk (ks.take j))∧Blk wr w.heap.size #[.int .i64 2,.int .i64 7,.int .i64 n,.slice A d.length c,.slice B ks.length c2]∧Below w.heap.size w wr) (fun _ i _=>ks.length-(intOf i).toNat)
  case atStart=>exact⟨0,by omega,rfl,by simpa [kk] using OwnK.empty _ _ _,Blk.fresh _ _ _,(Below.refl _ _).alloc (Nat.le_refl _) _⟩
  case round=>
   obtain⟨j,hj,rfl,hown,hB,hbr⟩:=hrel
   have HB:=Lib.hid hB
   have HR:=Lib.hid hbr
   have HOWN:=Lib.hid hown
   obtain⟨x1,y1,z1⟩:=hB
   clear hbr hown
   by_cases hlt:j<ks.length
   ·obtain⟨b,off,A',c',B',c2',rfl,k0,k1,k2,k3,k4,hsub⟩:=HX.out.kids.atIn HR.out (Nat.le_refl _) hlt
    have HKS:=Lib.hid hsub.kidsX
    have HKT:=Lib.hid (kk_take ks j hlt)
    have HN:Hid ((kk (ks.take j)).length+(ks[j]).ks.length≤1099511627776):=Lib.hid (by
     have h:=HKK.out (j+1)
     rw [HKT.out,List.length_append] at h
     omega)
    clear hsub k0 k1 k2 k3
    go_wp2_with (at_builtin;refine wpList_appK (W0:=w) rfl (.tmp 22) (.tmp 28) 37 rfl Tryz.underlying37 rfl HOWN.out rfl HKS.out.1 HKS.out.2.1 HKS.out.2.2 (Nat.le_refl _) HR.out HN.out z1 ?_;intro v1 w1 hg1 hb1)
    have HB1:=Lib.hid (HR.out.trans (hb1.mono (Nat.le_succ _)))
    have B1:=Lib.hid (HB.out.belowN hb1 (Nat.lt_succ_self _))
    go_roundw
    case rel=>exact⟨j+1,by omega,by go_num,by rw [HKT.out];exact hg1,B1.out,HB1.out⟩
    case measure=>simp [intOf];omega
   ·obtain rfl:j=ks.length:=by omega
    go_wp2
    obtain⟨B1,c1,rfl,s1,s2,s3,s4⟩:=HOWN.out.slice (Nat.le_refl _) HR.out
    go_ret
    rw [List.take_length] at *
    exact⟨B1,c1,rfl,s1,s2,s3,HR.out⟩
 ·have HT:Hid (targN (.mk k e n d ks)=ks):=Lib.hid (by rw [targN_def,if_neg hke])
  have hor:((k != 2)=true)∨((k != 2)=false∧(e != 7)=true):=by
   by_cases h1:k=2
   ·right;exact⟨by simpa using h1,by simpa using fun h=>hke ⟨h1,h⟩⟩
   ·left;simpa using h1
  clear hke
  rcases hor with t1|⟨t1,t2⟩ <;>
  (go_enter Tryz.func60,Tryz.ntmps60
   go_wp2
   go_ret
   refine⟨B,c2,by rw [HT.out];rfl,?_,by rw [HT.out];exact HO.out.2.2.2.2.2.2.2.2.1,HO.out.2.2.2.2.2.2.2.2.2.1,(Below.refl _ _).alloc (Nat.le_refl _) _⟩
   rw [HT.out]
   exact HX.out.kids.on ((Below.refl _ _).alloc (Nat.le_refl _) _) (Nat.le_refl _))
theorem ptrW_str14 (e n:Int)(d:List Int)(ks:List Nd)(o:Int):ptrW (.mk 1 e n d ks) o=encW ⟨0,if canO (.mk 1 e n d ks)=0 then -1 else o,((d.length / 8:Nat):Int),ks.length,0,0,false,0,0,0⟩:=by
 unfold ptrW ptrP
 simp only [Nd.k,Nd.d,Nd.ks]
 rw [if_neg (by decide),if_pos trivial]
theorem ptrW_lst14 (e n:Int)(d:List Int)(ks:List Nd)(o:Int):ptrW (.mk 2 e n d ks) o=encW ⟨1,o,0,0,e,if e=7 then canO (.mk 2 e n d ks)-1 else n,false,0,0,0⟩:=by
 unfold ptrW ptrP
 exact(if_neg (show ¬((2:Int)=0) by decide)).trans (congrArg encW (if_neg (show ¬((2:Int)=1) by decide)))
theorem RefShallow14 (x:Nd)(A:Option Addr)(c:Nat)(B:Option Addr)(c2:Nat)(hv:validN x=true)(hs:sizeN x≤1048576)(hk:x.k≠0)(hC:canO x≤536870911):∃k' d' p' e' c':Int,
  (∀w,NdR w A c B c2 x→Calls Tryz.prog 58 #[.agg #[.int .i64 x.k,.int .i64 x.e,.int .i64 x.n,.slice A x.d.length c,.slice B x.ks.length c2]] w fun r w'=>∃v u,r=.returned (.tuple #[v,.agg #[.int .i64 k',.int .i64 0,.int .i64 d',.int .i64 p',.int .i64 e',.int .i64 c',.bool false,.int .i64 0,.int .u32 0,.int .u32 0],u]) ∧
   Got w' w.heap.size 48 .u64 v (fillW x 0)∧Got w' w.heap.size 3 .i64 u (natsI (posL x))∧Below w.heap.size w w') ∧
  (k'=0∨k'=1)∧(∀o,ptrW x o=encW ⟨k',if k'=0∧d'=0∧p'=0 then -1 else o,d',p',e',c',false,0,0,0⟩)∧(∀o,-536870912≤o→o≤536870911→Vld ⟨k',o,d',p',e',c',false,0,0,0⟩):=by
 obtain⟨k,e,n,d,ks⟩:=x
 have hkk:=valid_k hv
 simp only [Nd.k,Nd.e,Nd.n,Nd.d,Nd.ks] at hkk hk ⊢
 rcases hkk with rfl|rfl|rfl
 ·exact absurd rfl hk
 ·obtain⟨rfl,rfl,h8,hd5,hk5⟩:=head_str hv
  refine⟨0,((d.length / 8:Nat):Int),(ks.length:Int),0,0,fun w hx=>Shallow14_str d ks A c B c2 w hx hv,.inl rfl,fun o=>?_,fun o h1 h2=>?_⟩
  ·rw [ptrW_str14]
   congr 2
   have hO:canO (.mk 1 0 0 d ks)=((d.length / 8+ks.length:Nat):Int):=rfl
   rw [hO]
   by_cases h:d.length / 8+ks.length=0
   ·rw [if_pos (by omega),if_pos ⟨rfl,by omega,by omega⟩]
   ·rw [if_neg (by omega),if_neg (by omega)]
  ·left
   simp only
   refine⟨trivial,by omega,by omega,by omega,by omega,by omega,by omega,?_⟩
   simp
 ·obtain⟨g1,g2,g3,g4,-,-⟩:=head_lst hv
  by_cases h7:e=7
  ·subst h7
   have hO:canO (.mk 2 7 n d ks)=1+(canO (.mk 2 7 n d ks)-1):=by omega
   have hn0:=(canO_size hv).1
   have hO1:1≤canO (.mk 2 7 n d ks):=by
    have h:canO (.mk 2 7 n d ks)=1+n*((uniD ks ks.length+uniP ks ks.length:Nat):Int):=by
     show canOf 2 7 n d ks=_
     unfold canOf
     rw [if_neg (show ¬((2:Int)=0) by decide),if_neg (show ¬((2:Int)=1) by decide),if_pos rfl]
    have:0≤n*((uniD ks ks.length+uniP ks ks.length:Nat):Int):=Int.mul_nonneg g1 (by omega)
    omega
   refine⟨1,0,0,7,canO (.mk 2 7 n d ks)-1,fun w hx=>Shallow14_cmp n d ks A c B c2 w hx hv hs _ hO,.inr rfl,fun o=>?_,fun o h1 h2=>?_⟩
   ·rw [ptrW_lst14,if_pos rfl,if_neg (by omega)]
   ·right;left
    simp only
    refine⟨trivial,by omega,by omega,trivial,trivial,by omega,by omega,by omega,by omega,?_⟩
    simp
  ·refine⟨1,0,0,e,n,fun w hx=>Shallow14_lst e n d ks A c B c2 w hx hv h7 (by omega),.inr rfl,fun o=>?_,fun o h1 h2=>?_⟩
   ·rw [ptrW_lst14,if_neg h7,if_neg (by omega)]
   ·right;left
    simp only
    refine⟨trivial,by omega,by omega,trivial,trivial,by omega,by omega,by omega,by omega,?_⟩
    simp
def placeF (ws:List Int)(a:Nat)(x:Nd):List Int:=ws.set a (ptrW x ((ws.length:Int)-a-1))++objW x
theorem place_nul {ws:List Int}{a:Nat}{x:Nd}(hk:x.k=0)(hv:validN x=true)(ha:a<ws.length)(hz:zat ws a=0):placeF ws a x=ws:=by
 obtain⟨k,e,n,d,ks⟩:=x
 simp only [Nd.k] at hk
 subst hk
 rw [head_nul hv]
 have h1:ptrW nd0 ((ws.length:Int)-a-1)=0:=rfl
 have h2:objW nd0=[]:=rfl
 rw [placeF,h1,h2,List.append_nil]
 apply ext_zat (by simp)
 intro i hi
 rw [zat_set _ _ _ _ ha]
 split
 ·rename_i h;rw [←h,hz]
 ·rfl
def outF (ws:List Int)(a:Nat)(x:Nd)(i:Nat):List Int:=(ws.set a (ptrW x ((ws.length:Int)-a-1))++fillW x i)++objK ((targN x).take i)
theorem fillW_length {x:Nd}(hv:validN x=true)(i:Nat)(hi:i≤(targN x).length):((fillW x i).length:Int)=canO x:=by
 have hl:∀i,i≤(targN x).length→(fillW x i).length=(fillW x 0).length:=by
  intro i
  induction i with
  | zero=>intro _;rfl
  | succ i ih=>
   intro h
   rw [←(fillW_step hv i (by omega)).2.2,List.length_set,ih (by omega)]
 rw [hl i hi,←hl (targN x).length (Nat.le_refl _),fillW_all hv,body_length hv]
theorem outF_length {x:Nd}(hv:validN x=true)(ws:List Int)(a i:Nat)(hi:i≤(targN x).length):((outF ws a x i).length:Int)=ws.length+canO x+canK ((targN x).take i):=by
 have h1:=fillW_length hv i hi
 have h2:=objK_length (l:=(targN x).take i) (fun y hy=>objW_length y (valid_targ hv y (List.mem_of_mem_take hy)))
 unfold outF
 rw [List.length_append,List.length_append,List.length_set]
 omega
theorem outF_step {x:Nd}(hv:validN x=true)(ws:List Int)(a i:Nat)(hi:i<(targN x).length):
  ws.length+(posL x).getD i 0<(outF ws a x i).length∧zat (outF ws a x i) (ws.length+(posL x).getD i 0)=0∧placeF (outF ws a x i) (ws.length+(posL x).getD i 0) (targN x)[i]=outF ws a x (i+1):=by
 obtain⟨h1,h2,h3⟩:=fillW_step hv i hi
 have hl:=outF_length hv ws a i (by omega)
 have hfl:=fillW_length hv i (by omega)
 have hsl:(ws.set a (ptrW x ((ws.length:Int)-a-1))).length=ws.length:=List.length_set
 refine⟨?_,?_,?_⟩
 ·unfold outF
  rw [List.length_append,List.length_append,hsl]
  omega
 ·unfold outF
  rw [zat_append_left _ _ _ (by rw [List.length_append,hsl];omega),zat_append_right _ _ _ (by omega),hsl,Nat.add_sub_cancel_left,h2]
 ·unfold placeF
  rw [hl]
  have e:(ws.length:Int)+canO x+canK ((targN x).take i)-((ws.length+(posL x).getD i 0:Nat):Int)-1=canO x+canK ((targN x).take i)-((posL x).getD i 0:Nat)-1:=by omega
  rw [e]
  unfold outF
  rw [set_left _ _ _ _ (by rw [List.length_append,hsl];omega),set_right _ _ _ _ (by omega),hsl,Nat.add_sub_cancel_left,h3,objK_take _ _ hi]
  simp only [List.append_assoc]
theorem outF_all {x:Nd}(hv:validN x=true)(ws:List Int)(a:Nat):outF ws a x (targN x).length=placeF ws a x:=by
 unfold outF placeF
 rw [fillW_all hv,List.take_length,objW_eq,List.append_assoc]
end
def eight (b:List Int):List Int:=b.take 8++List.replicate (8-b.length) 0
theorem eight_length (b:List Int):(eight b).length=8:=by unfold eight;rw [List.length_append,List.length_take,List.length_replicate];omega
theorem eight_bts {b:List Int}(h:Bts b):Bts (eight b):=by
 intro z hz
 rcases List.mem_append.1 hz with hz|hz
 ·exact h z (List.mem_of_mem_take hz)
 ·rw [List.eq_of_mem_replicate hz];omega
theorem zat_app0 (b:List Int)(n i:Nat):zat (b++List.replicate n 0) i=zat b i:=by
 by_cases h:i<b.length
 ·exact zat_append_left _ _ _ h
 ·rw [zat_append_right _ _ _ (by omega),zat_replicate,zat_out (by omega)]
theorem zat_eight (b:List Int)(i:Nat)(h:i<8):zat (eight b) i=zat b i:=by
 unfold eight
 rw [zat_app0,zat_take _ _ _ h]
theorem padW_step (b:List Int)(j:Nat)(h:8*j<b.length):(padW b ((b.length+7) / 8)).take (j+1)=(padW b ((b.length+7) / 8)).take j++[wordAt (eight (b.drop (8*j))) 0]:=by
 have hl:(padW b ((b.length+7) / 8)).length=(b.length+7) / 8:=padW_length (by omega)
 rw [List.take_succ_eq_append_getElem (by omega)]
 have e:(padW b ((b.length+7) / 8))[j]'(by omega)=zat (padW b ((b.length+7) / 8)) j:=by
  simp [zat,List.getD_eq_getElem?_getD,show j<(padW b ((b.length+7) / 8)).length by omega]
 rw [e]
 congr 2
 unfold padW
 rw [wordsOf_zat _ _ (by rw [List.length_append,List.length_replicate];omega)]
 unfold wordAt
 refine leF_congr 8 (fun i hi=>?_)
 rw [zat_app0,Nat.mul_zero,Nat.zero_add,zat_eight _ _ hi,zat_drop]
theorem eight_splice (b:List Int)(k:Nat)(hk:k=Nat.min b.length 8):Go.splice ((List.replicate 8 (0:Int)).map (Value.int .u8)) 0 ((b.take k).map (Value.int .u8))=(eight b).map (Value.int .u8):=by
 unfold eight Go.splice
 have e1:(b.take k).length=k:=by rw [List.length_take,hk];exact Nat.min_eq_left (Nat.min_le_left _ _)
 rw [List.length_map,e1,List.take_zero,List.nil_append,List.map_append]
 have e2:b.take k=b.take 8:=by
  by_cases h:b.length≤8
  ·have:k=b.length:=by rw [hk];exact Nat.min_eq_left h
   rw [this,List.take_length,List.take_of_length_le h]
  ·have:k=8:=by rw [hk];exact Nat.min_eq_right (by omega)
   rw [this]
 rw [e2]
 congr 1
 rw [List.map_replicate,List.map_replicate,List.drop_replicate]
 congr 1
 have:k=b.length∧b.length≤8∨k=8∧8<b.length:=by
  by_cases h:b.length≤8
  ·exact .inl ⟨by rw [hk];exact Nat.min_eq_left h,h⟩
  ·exact .inr ⟨by rw [hk];exact Nat.min_eq_right (by omega),by omega⟩
 omega
theorem copy_src15 {w:World}{k:IntKind}{A:Option Addr}{zs:List Int}{dp:Option Addr}{g n:Nat}(h:Ri w k A zs)(hd:dp=some ⟨g,0,none⟩):0<((zs.take n).map (Value.int k)).length→dp=some ⟨g,0,none⟩∧∃ad,A=some ad∧∀j v,((zs.take n).map (Value.int k))[j]?=some v→w.cell? (ad.add j)=some v:=by
 intro h0
 refine⟨hd,?_⟩
 rcases(h.take n) with h1|⟨b,off,rfl,hc⟩
 ·rw [h1] at h0;simp at h0
 ·refine⟨_,rfl,fun j v hj=>?_⟩
  have hlt:j<(zs.take n).length:=by
   have:=(List.getElem?_eq_some_iff.1 hj).1
   rwa [List.length_map] at this
  rw [add_plain,hc j hlt]
  rw [List.getElem?_map,List.getElem?_eq_getElem hlt] at hj
  simp at hj
  subst hj
  simp [zat,List.getD_eq_getElem?_getD,List.getElem?_eq_getElem hlt]
theorem Ri.heap {w:World}{g:Nat}{k:IntKind}{zs:List Int}{T:TypeId}(h:w.heap[g]?=some (.cells (zs.map (Value.int k)).toArray T (0,0))):Ri w k (some ⟨g,0,none⟩) zs:=by
 refine .inr ⟨g,0,rfl,fun j hj=>?_⟩
 simp [World.cell?,h,zat,List.getD_eq_getElem?_getD,hj]
def RestB (w0:World)(b:List Int)(j:Nat)(v:Value):Prop:=∃A' c',v=.slice A' (b.length-8*j) c'∧b.length-8*j≤c'∧c'≤maxLen∧(A'=none→c'=0)∧Ri w0 .u8 A' (b.drop (8*j))
theorem restB_cut {w0:World}{b:List Int}{j K:Nat}{A':Option Addr}{c':Nat}(hc:b.length-8*j≤c')(hm:c'≤maxLen)(hn:A'=none→c'=0)(hr:Ri w0 .u8 A' (b.drop (8*j)))(hK:K=8∨K=b.length-8*j)(h8:K≤8)(hl:K≤b.length-8*j)(h0:0<K):
  RestB w0 b (j+1) (.slice (Option.map (fun x=>x.add K) A') (b.length-8*j-K) (c'-K)):=by
 have e:b.length-8*j-K=b.length-8*(j+1):=by omega
 rw [e]
 refine⟨_,_,rfl,by omega,by omega,fun h=>?_,?_⟩
 ·cases A' with
  | none=>have:=hn rfl;omega
  | some a=>cases h
 ·by_cases h:b.length≤8*(j+1)
  ·rw [List.drop_eq_nil_of_le h];exact .inl rfl
  ·have hK8:K=8:=by omega
   subst hK8
   have e2:b.drop (8*(j+1))=(b.drop (8*j)).drop 8:=by rw [List.drop_drop];congr 1
   rw [e2]
   rcases hr with h1|⟨g,off,rfl,h1⟩
   ·have:=congrArg List.length h1
    rw [List.length_drop] at this
    simp at this
    omega
   ·have:=Ri.drop (w:=w0) (k:=.u8) (n:=8) (.inr ⟨g,off,rfl,h1⟩) rfl
    simp only [Option.map_some,add_plain]
    exact this
theorem restB_full {w0:World}{b:List Int}{j K:Nat}{A':Option Addr}(hc:b.length-8*j≤K)(h8:K≤8):
  RestB w0 b (j+1) (.slice A' (b.length-8*j-K) 0):=by
 have e:b.length-8*j-K=b.length-8*(j+1):=by omega
 rw [e]
 refine⟨_,_,rfl,by omega,by unfold maxLen;omega,fun _=>rfl,?_⟩
 rw [List.drop_eq_nil_of_le (by omega)]
 exact .inl rfl
set_option maxHeartbeats 4000000 in
theorem Wdata_any (w0:World)(wb q cap:Nat)(hwb:w0.heap.size≤wb)(hne:wb≠q)(hcap:cap≤1099511627776)(A:Option Addr)(c:Nat)(b cur:List Int)(w:World)(hr:Ri w0 .u8 A b)(hby:Bts b)(hnl:A=none→c=0)(hc:b.length≤c)(hcm:c≤maxLen)
  (hroom:cur.length+(b.length+7) / 8≤cap) (h:Wr w wb q cap w0.heap.size cur) (hb:Below w0.heap.size w0 w) :
  Calls Tryz.prog 105 #[.pointer (some ⟨wb,0,none⟩),.slice A b.length c] w fun r w'=>r=.returned (.tuple #[])∧Keeps (KS wb q) w w'∧Wr w' wb q cap w0.heap.size (cur++padW b ((b.length+7) / 8)):=by
 have HBY:=Lib.hid hby
 have HB:=Lib.hid hb
 have HQ:=Lib.hid h.q.1
 have HWB:=Lib.hid hwb
 have HNE:=Lib.hid hne
 have HPL:Hid ((padW b ((b.length+7) / 8)).length=(b.length+7) / 8):=Lib.hid (padW_length (by omega))
 have HST:=Lib.hid (padW_step b)
 have HSZ:=Lib.hid hb.size
 have HW0:Hid (Wr w wb q cap w0.heap.size (cur++(padW b ((b.length+7) / 8)).take 0)):=Lib.hid (by simpa using h)
 have HR0:Hid (RestB w0 b 0 (.slice A b.length c)):=Lib.hid ⟨A,c,rfl,hc,hcm,hnl,hr⟩
 have HEND:Hid ((padW b ((b.length+7) / 8)).take ((b.length+7) / 8)=padW b ((b.length+7) / 8)):=Lib.hid (by rw [←HPL.out];rw [HPL.out];exact List.take_of_length_le (by rw [HPL.out];exact Nat.le_refl _))
 have HRM:Hid (cur.length+(b.length+7) / 8≤cap):=Lib.hid hroom
 have HBL:Hid (b.length≤9223372036854775807):=Lib.hid (by unfold maxLen at hcm;omega)
 generalize padW b ((b.length+7) / 8)=pw at *
 clear hr hby hnl h hb hwb hne hroom
 go_enter Tryz.func105,Tryz.ntmps105
 go_wp2
 go_loopw [1] (fun v wr=>∃j:Nat,8*j≤b.length+7∧RestB w0 b j v∧Wr wr wb q cap w0.heap.size (cur++pw.take j)∧Keeps (KS wb q) w wr) (fun v _=>match v with|.slice _ l _=>l|_=>0)
 case atStart=>exact⟨0,by omega,HR0.out,HW0.out,Keeps.refl _ _⟩
 case round=>
  clear HW0 HR0
  obtain⟨j,hj,⟨A',c',rfl,hc',hm',hn',hr'⟩,hw,hk⟩:=hrel
  have HR:=Lib.hid hr'
  have HN:=Lib.hid hn'
  have HK:=Lib.hid hk
  have hCL:(cur++pw.take j).length=cur.length+Nat.min j ((b.length+7) / 8):=by rw [List.length_append,List.length_take,HPL.out]
  by_cases hlt:8*j<b.length
  ·have hjn:Nat.min j ((b.length+7) / 8)=j:=Nat.min_eq_left (by omega)
   have HCL:Hid ((cur++pw.take j).length=cur.length+j):=Lib.hid (by rw [hCL,hjn])
   have HS:Hid ((cur++pw.take j)++[wordAt (eight (b.drop (8*j))) 0]=cur++pw.take (j+1)):=Lib.hid (by rw [List.append_assoc,HST.out j hlt])
   have hgt:((b.length-8*j:Nat):Int) > 0:=by omega
   have hbel:Below w0.heap.size w0 wr:=HB.out.trans (ks_below hk HSZ.out HWB.out HQ.out)
   have HRW:Hid (Ri (wr.alloc (.cells #[.int .u8 0,.int .u8 0,.int .u8 0,.int .u8 0,.int .u8 0,.int .u8 0,.int .u8 0,.int .u8 0] 156)) .u8 A' (b.drop (8*j))):=Lib.hid ((hr'.below hbel (Nat.le_refl _)).alloc _)
   have HW1:=Lib.hid (hw.alloc (.cells #[.int .u8 0,.int .u8 0,.int .u8 0,.int .u8 0,.int .u8 0,.int .u8 0,.int .u8 0,.int .u8 0] 156))
   have HD:Hid ((b.drop (8*j)).length=b.length-8*j):=Lib.hid (List.length_drop ..)
   clear hk hr' hn' hCL hjn hbel
   obtain⟨K,hK⟩:∃K,K=Nat.min (b.length-8*j) 8:=⟨_,rfl⟩
   have hK1:K≤b.length-8*j:=by rw [hK];exact Nat.min_le_left _ _
   have hK2:K≤8:=by rw [hK];exact Nat.min_le_right _ _
   have hK3:K=8∨K=b.length-8*j:=by
    by_cases h:b.length-8*j≤8
    ·exact .inr (by rw [hK];exact Nat.min_eq_left h)
    ·exact .inl (by rw [hK];exact Nat.min_eq_right (by omega))
   have hK0:0<K:=by omega
   have HKM:Hid (K=Nat.min (b.length-8*j) 8):=Lib.hid hK
   clear hK
   obtain⟨cs,hcs⟩:∃cs,cs=((b.drop (8*j)).take K).map (Value.int .u8):=⟨_,rfl⟩
   have hcl:cs.length=K:=by rw [hcs,List.length_map,List.length_take,HD.out];omega
   have HCS:=Lib.hid hcs
   clear hcs
   have HCC:=Lib.hid hcl
   have HSP:Hid (Go.splice ((List.replicate 8 (0:Int)).map (Value.int .u8)) 0 cs=(eight (b.drop (8*j))).map (Value.int .u8)):=Lib.hid (by rw [HCS.out];exact eight_splice _ K (by rw [HD.out];exact HKM.out))
   have HSRC:=Lib.hid (copy_src15 (n:=K) (dp:=some ⟨wr.heap.size,0,none⟩) HRW.out rfl)
   rw [←HCS.out] at HSRC
   have HRC:=Lib.hid (restB_cut hc' hm' HN.out HR.out hK3 hK2 hK1 hK0)
   have HRF:Hid (K=c'→RestB w0 b (j+1) (.slice A' (b.length-8*j-K) 0)):=Lib.hid (fun h=>restB_full (by omega) hK2)
   have H1C:Hid (∀v∈cs,v.oneCell'=true):=Lib.hid (by
    rw [HCS.out]
    intro v hv
    obtain⟨z,-,rfl⟩:=List.mem_map.1 hv
    rfl)
   obtain⟨W1,hW1⟩:∃W1,W1=wr.alloc (.cells #[.int .u8 0,.int .u8 0,.int .u8 0,.int .u8 0,.int .u8 0,.int .u8 0,.int .u8 0,.int .u8 0] 156):=⟨_,rfl⟩
   have HH1:Hid ((wr.alloc (.cells #[.int .u8 0,.int .u8 0,.int .u8 0,.int .u8 0,.int .u8 0,.int .u8 0,.int .u8 0,.int .u8 0] 156)).heap[wr.heap.size]?=some (.cells ((List.replicate 8 (0:Int)).map (Value.int .u8)).toArray 156 (0,0))):=Lib.hid (heap_alloc_new _ _)
   have HK1:=Lib.hid (ks_alloc HK.out (.cells #[.int .u8 0,.int .u8 0,.int .u8 0,.int .u8 0,.int .u8 0,.int .u8 0,.int .u8 0,.int .u8 0] 156))
   have HB1:Hid (Below wr.heap.size wr (wr.alloc (.cells #[.int .u8 0,.int .u8 0,.int .u8 0,.int .u8 0,.int .u8 0,.int .u8 0,.int .u8 0,.int .u8 0] 156))):=Lib.hid ((Below.refl _ _).alloc (Nat.le_refl _) _)
   have HW0:=Lib.hid hw
   have HGET:Hid (∀w2,Ri w2 .u8 (some ⟨wr.heap.size,0,none⟩) (eight (b.drop (8*j)))→Calls Tryz.prog 118 #[.slice (some ⟨wr.heap.size,0,none⟩) 8 8,.int .i64 0] w2 fun e w'=>e=.returned (.tuple #[.int .u64 (wordAt (eight (b.drop (8*j))) 0),.bool true])∧w2=w'):=Lib.hid (fun w2 h2=>by
    have h8:=eight_length (b.drop (8*j))
    have hg:=Get_any (some ⟨wr.heap.size,0,none⟩) 8 (eight (b.drop (8*j))) 0 w2 h2 (eight_bts (fun z hz=>HBY.out z (List.mem_of_mem_drop hz))) (by omega) (by omega) (by omega) (by omega) (by omega)
    have hh:hasW (eight (b.drop (8*j))) 0=true:=by unfold hasW;simp;omega
    have hgw:getW (eight (b.drop (8*j))) 0=wordAt (eight (b.drop (8*j))) 0:=by unfold getW;rw [if_pos hh];rfl
    rw [h8,hh,hgw] at hg
    exact hg)
   clear hw
   generalize wordAt (eight (b.drop (8*j))) 0=y at *
   generalize eight (b.drop (8*j))=e8 at *
   generalize cur++pw.take j=cu at *
   go_wp2_with (refine wpList_copy_splice rfl (.tmp 11) (.tmp 12) 36 36 rfl 5 rfl rfl _ _ _ _ _ _ rfl rfl wr.heap.size 0 _ _ HH1.out cs (by rw [HCC.out];exact HKM.out) HSRC.out (by rw [HCC.out,List.length_map,List.length_replicate];omega) H1C.out wr.heap.size wr HB1.out (Nat.le_refl _) ?_;intro w2 HG2 hB2;rw [HCC.out];have HB2:=Lib.hid hB2;clear hB2)
   all_goals first
    | (have HRB:=Lib.hid (HRF.out (by omega)))
    | (have HRB:=HRC)
   all_goals
    have HW2:=Lib.hid (HW0.out.below HB2.out)
    have HRI:Hid (Ri w2 .u8 (some ⟨wr.heap.size,0,none⟩) e8):=Lib.hid (Ri.heap (by rw [←HSP.out];exact HG2.out))
    have HK2:=Lib.hid (ks_on HK.out HB2.out)
    clear HG2 HB2 HW0 HK1 HB1 HH1 HSRC HRF HRC
    refine(HGET.out _ HRI.out).mono ?_
    rintro r w3 ⟨rfl,rfl⟩
    clear HGET HRI
    obtain⟨x2,y2,z2⟩:=HW2.out.blk
    go_wp2_with (at_builtin;refine wpList_wr1 rfl (.tmp 24) (.tmp 26) rfl HW2.out HNE.out rfl rfl (by rw [HCL.out];have:=HRM.out;omega) ?_;intro w4 hg4 hb4 hk4;have HG4:=Lib.hid hg4;have HB4:=Lib.hid hb4;have HK4:=Lib.hid hk4;obtain⟨x4,y4,z4⟩:=hb4;clear hg4 hk4 x2 y2 z2)
    go_roundw
    case rel=>exact⟨j+1,by omega,HRB.out,by rw [←HS.out];exact Wr.grow HG4.out HB4.out HNE.out (by simp),ks_set (HK2.out.trans HK4.out) (.inl (.inl rfl)) _⟩
    case measure=>simp;omega
  ·have hjn:(b.length+7) / 8≤j:=by omega
   have HW1:Hid (Wr wr wb q cap w0.heap.size (cur++pw)):=Lib.hid (by
    have e:pw.take j=pw:=List.take_of_length_le (by rw [HPL.out];exact hjn)
    rw [e] at hw
    exact hw)
   have h0:b.length-8*j=0:=by omega
   clear hw hk hr' hn' hCL
   rw [h0]
   go_wp2
   go_end0
   exact⟨rfl,HK.out,HW1.out⟩
def placeK (ws:List Int)(a:Nat):List Nd→List Int
 | []=>ws
 | t::ts=>placeK (placeF ws a t) (a+1) ts
theorem placeK_snoc:∀(l:List Nd) (ws:List Int) (a:Nat) (t:Nd),placeK ws a (l++[t])=placeF (placeK ws a l) (a+l.length) t
 | [],ws,a,t=>rfl
 | x::xs,ws,a,t=>by
  simp only [List.cons_append,placeK,placeK_snoc xs,List.length_cons]
  congr 1
  omega
theorem placeK_take (ws:List Int)(a:Nat)(l:List Nd)(j:Nat)(h:j<l.length):placeK ws a (l.take (j+1))=placeF (placeK ws a (l.take j)) (a+j) l[j]:=by
 rw [List.take_succ_eq_append_getElem h,placeK_snoc,List.length_take]
 congr 1
 omega
theorem placeF_length {x:Nd}(hv:validN x=true)(ws:List Int)(a:Nat):((placeF ws a x).length:Int)=ws.length+canN x:=by
 unfold placeF
 rw [List.length_append,List.length_set,←objW_length x hv]
 omega
theorem placeK_length:∀(l:List Nd) (ws:List Int) (a:Nat),(∀y∈l,validN y=true)→((placeK ws a l).length:Int)=ws.length+canK l
 | [],ws,a,_=>by simp [placeK,canK]
 | t::ts,ws,a,h=>by
  have h1:=placeF_length (h t (List.mem_cons_self ..)) ws a
  have h2:=placeK_length ts (placeF ws a t) (a+1) (fun y hy=>h y (List.mem_cons_of_mem _ hy))
  simp only [placeK,canK]
  omega
theorem placeK_out {x:Nd}(hv:validN x=true)(ws:List Int)(a:Nat):∀(ts:List Nd) (i p:Nat),(∀j (hj:j<ts.length),(targN x)[i+j]?=some ts[j]∧(posL x).getD (i+j) 0=p+j) →
  placeK (outF ws a x i) (ws.length+p) ts=outF ws a x (i+ts.length)
 | [],i,p,_=>rfl
 | t::ts,i,p,h=>by
  obtain⟨h1,h2⟩:=h 0 (by simp)
  have hi:i<(targN x).length:=(List.getElem?_eq_some_iff.1 h1).1
  obtain⟨-,-,h3⟩:=outF_step hv ws a i hi
  have h4:(targN x)[i]=t:=by
   have:=List.getElem?_eq_getElem hi
   rw [Nat.add_zero] at h1
   rw [h1] at this
   simpa using this.symm
  simp only [Nat.add_zero] at h2
  rw [h4,h2] at h3
  simp only [placeK]
  rw [h3,Nat.add_assoc,placeK_out hv ws a ts (i+1) (p+1) (fun j hj=>?_)]
  ·simp only [List.length_cons]
   congr 1
   omega
  ·have:=h (j+1) (by simpa using hj)
   rw [show i+1+j=i+(j+1) by omega]
   simp only [List.getElem_cons_succ] at this
   exact⟨this.1,by rw [this.2];omega⟩
theorem outF_zero (ws:List Int)(a:Nat)(x:Nd):outF ws a x 0=ws.set a (ptrW x ((ws.length:Int)-a-1))++fillW x 0:=by
 unfold outF
 simp [objK]
theorem plain_start {x:Nd}(hv:validN x=true)(hk:x.k≠0)(h7:¬(x.k=2∧x.e=7)):
  fillW x 0=padW x.d ((x.d.length+7) / 8)++List.replicate x.ks.length 0∧targN x=x.ks∧∀j,j<x.ks.length→(posL x).getD j 0=(x.d.length+7) / 8+j:=by
 obtain⟨k,e,n,d,ks⟩:=x
 have hkk:=valid_k hv
 simp only [Nd.k,Nd.e,Nd.d,Nd.ks] at hkk hk h7 ⊢
 have hT:targN (.mk k e n d ks)=ks:=by rw [targN_mk,if_neg h7]
 refine⟨?_,hT,?_⟩
 ·unfold fillW
  rw [List.take_zero,List.nil_append,Nat.sub_zero,hT]
  rcases hkk with rfl|rfl|rfl
  ·exact absurd rfl hk
  ·obtain⟨-,-,h8,-,-⟩:=head_str hv
   show wordsOf d++_=_
   have e:(d.length+7) / 8=d.length / 8:=by omega
   rw [e,padW_len8 h8]
  ·obtain⟨g1,g2,g3,g4,g5,g6⟩:=head_lst hv
   have h7':e≠7:=fun h=>h7 ⟨rfl,h⟩
   show bodyPW 2 e n d ks _=_
   rw [bodyPW_2 h7']
   by_cases h6:e=6
   ·subst h6
    obtain⟨g7,-⟩:=g5 (by omega)
    rw [if_pos rfl,List.eq_nil_of_length_eq_zero g7]
    rfl
   ·rw [if_neg h6]
    obtain⟨g7,g8,-⟩:=g6 (by omega)
    rw [g7,List.replicate_zero,List.append_nil]
    congr 1
    have hb:=bitsI_mul e n g1
    have hw:wordsI e n=(bitsI e*n+63) / 64:=by unfold wordsI;rw [if_neg h7']
    have hB:bytesI e n=(bitsI e*n+7) / 8:=rfl
    omega
 ·intro j hj
  rcases hkk with rfl|rfl|rfl
  ·exact absurd rfl hk
  ·obtain⟨-,-,h8,-,-⟩:=head_str hv
   have hP:posL (.mk 1 e n d ks)=(List.range ks.length).map (fun i=>d.length / 8+i):=rfl
   rw [hP,nat_getD_map _ _ _ hj]
   omega
  ·obtain⟨-,-,-,g4,g5,g6⟩:=head_lst hv
   have h7':e≠7:=fun h=>h7 ⟨rfl,h⟩
   have hP:posL (.mk 2 e n d ks)=(List.range ks.length).map (fun i=>0+i):=by
    show (if (2:Int)=1 then _ else if e=7 then _ else _)=_
    rw [if_neg (by decide),if_neg h7']
    rfl
   rw [hP,nat_getD_map _ _ _ hj]
   by_cases h6:e<6
   ·have:=(g6 h6).1;omega
   ·have:=(g5 (by omega)).1;omega
theorem plain_place {x:Nd}(hv:validN x=true)(hk:x.k≠0)(h7:¬(x.k=2∧x.e=7))(ws:List Int)(a:Nat):
  placeK ((ws.set a (ptrW x ((ws.length:Int)-a-1))++padW x.d ((x.d.length+7) / 8))++List.replicate x.ks.length 0) (ws.length+(x.d.length+7) / 8) x.ks=placeF ws a x:=by
 obtain⟨h1,h2,h3⟩:=plain_start hv hk h7
 have h0:=placeK_out hv ws a x.ks 0 ((x.d.length+7) / 8) (fun j hj=>⟨by rw [Nat.zero_add,h2];exact List.getElem?_eq_getElem hj,by rw [Nat.zero_add];exact h3 j hj⟩)
 rw [outF_zero,h1,←List.append_assoc,Nat.zero_add] at h0
 rw [h0,←outF_all hv ws a,h2]
theorem posE_getD (a b:Nat):∀(ys:List Nd) (s i:Nat) (hi:i<ys.length) (j:Nat),j<(ys[i]).ks.length→(posE a b s ys).getD ((kk (ys.take i)).length+j) 0=s+i*(a+b)+a+j
 | [],_,i,hi,_,_=>by simp at hi
 | y::ys,s,0,_,j,hj=>by
  simp only [List.take_zero,List.getElem_cons_zero] at hj ⊢
  simp only [posE]
  rw [show (kk ([]:List Nd)).length+j=j by simp [kk]]
  rw [getD_append_l _ _ _ (by simpa using hj),nat_getD_map _ _ _ hj]
  omega
 | y::ys,s,i+1,hi,j,hj=>by
  have hi':i<ys.length:=by simpa using hi
  have ih:=posE_getD a b ys (s+a+b) i hi' j (by simpa using hj)
  have hk:(kk ((y::ys).take (i+1))).length=y.ks.length+(kk (ys.take i)).length:=by
   have:kk ((y::ys).take (i+1))=y.ks++kk (ys.take i):=by simp [kk]
   rw [this,List.length_append]
  simp only [posE]
  rw [hk,getD_append_r _ _ _ (by simp;omega)]
  rw [show y.ks.length+(kk (ys.take i)).length+j-((List.range y.ks.length).map (fun i=>s+a+i)).length=(kk (ys.take i)).length+j by simp;omega,ih,Nat.add_mul]
  omega
theorem kk_get (ys:List Nd)(i:Nat)(hi:i<ys.length)(j:Nat)(hj:j<(ys[i]).ks.length):(kk ys)[(kk (ys.take i)).length+j]?=some (ys[i]).ks[j]:=by
 have h0:kk ys=kk (ys.take i)++kk (ys.drop i):=by rw [←kk_append,List.take_append_drop]
 rw [h0,List.getElem?_append_right (by omega),Nat.add_sub_cancel_left,List.drop_eq_getElem_cons hi]
 have:kk (ys[i]::ys.drop (i+1))=(ys[i]).ks++kk (ys.drop (i+1)):=by unfold kk;rw [List.flatMap_cons]
 rw [this,List.getElem?_append_left hj]
 exact List.getElem?_eq_getElem hj
def compG (ws:List Int)(a:Nat)(x:Nd)(i:Nat):List Int:=outF ws a x (kk (x.ks.take i)).length
theorem comp_start {n:Int}{d:List Int}{ks:List Nd}(hv:validN (.mk 2 7 n d ks)=true)(ws:List Int)(a:Nat):
  (ws.set a (ptrW (.mk 2 7 n d ks) ((ws.length:Int)-a-1))++[tagW n (uniD ks ks.length) (uniP ks ks.length)])++elsO (uniD ks ks.length) (uniP ks ks.length) ks=compG ws a (.mk 2 7 n d ks) 0:=by
 unfold compG
 rw [show (kk ((Nd.mk 2 7 n d ks).ks.take 0)).length=0 by simp [kk],outF_zero,fillW_cmp hv]
 simp
theorem comp_step {n:Int}{d:List Int}{ks:List Nd}(hv:validN (.mk 2 7 n d ks)=true)(ws:List Int)(a i:Nat)(hi:i<ks.length):
  placeK (compG ws a (.mk 2 7 n d ks) i) (ws.length+1+i*(uniD ks ks.length+uniP ks ks.length)+uniD ks ks.length) (ks[i]).ks=compG ws a (.mk 2 7 n d ks) (i+1):=by
 have hT:targN (.mk 2 7 n d ks)=kk ks:=by rw [targN_mk,if_pos ⟨rfl,rfl⟩]
 have hP:posL (.mk 2 7 n d ks)=posE (uniD ks ks.length) (uniP ks ks.length) 1 ks:=rfl
 have h:=placeK_out hv ws a (ks[i]).ks (kk (ks.take i)).length (1+i*(uniD ks ks.length+uniP ks ks.length)+uniD ks ks.length) (fun j hj=>⟨by rw [hT];exact kk_get ks i hi j hj,by rw [hP];exact posE_getD _ _ ks 1 i hi j hj⟩)
 show placeK (outF ws a (.mk 2 7 n d ks) (kk (ks.take i)).length) _ (ks[i]).ks=outF ws a (.mk 2 7 n d ks) (kk (ks.take (i+1))).length
 rw [show ws.length+1+i*(uniD ks ks.length+uniP ks ks.length)+uniD ks ks.length=ws.length+(1+i*(uniD ks ks.length+uniP ks ks.length)+uniD ks ks.length) by omega,h]
 congr 1
 rw [kk_take ks i hi,List.length_append]
theorem comp_end {n:Int}{d:List Int}{ks:List Nd}(hv:validN (.mk 2 7 n d ks)=true)(ws:List Int)(a:Nat):compG ws a (.mk 2 7 n d ks) ks.length=placeF ws a (.mk 2 7 n d ks):=by
 have hT:targN (.mk 2 7 n d ks)=kk ks:=by rw [targN_mk,if_pos ⟨rfl,rfl⟩]
 rw [←outF_all hv ws a,hT]
 unfold compG
 simp only [Nd.ks]
 rw [List.take_length]
theorem compG_length {n:Int}{d:List Int}{ks:List Nd}(hv:validN (.mk 2 7 n d ks)=true)(ws:List Int)(a i:Nat)(hi:i≤ks.length):((compG ws a (.mk 2 7 n d ks) i).length:Int)=ws.length+canO (.mk 2 7 n d ks)+canK (kk (ks.take i)):=by
 have hT:targN (.mk 2 7 n d ks)=kk ks:=by rw [targN_mk,if_pos ⟨rfl,rfl⟩]
 have h0:kk ks=kk (ks.take i)++kk (ks.drop i):=by rw [←kk_append,List.take_append_drop]
 have h1:(kk (ks.take i)).length≤(targN (.mk 2 7 n d ks)).length:=by rw [hT,h0,List.length_append];omega
 unfold compG
 simp only [Nd.ks]
 rw [outF_length hv ws a _ h1,hT,h0,List.take_left' rfl]
theorem comp_canO {n:Int}{d:List Int}{ks:List Nd}(hv:validN (.mk 2 7 n d ks)=true):canO (.mk 2 7 n d ks)=1+((ks.length*(uniD ks ks.length+uniP ks ks.length):Nat):Int):=by
 obtain⟨-,-,-,-,g5,-⟩:=head_lst hv
 show canOf 2 7 n d ks=_
 unfold canOf
 rw [if_neg (show ¬((2:Int)=0) by decide),if_neg (show ¬((2:Int)=1) by decide),if_pos rfl,←(g5 (by decide)).2,Int.natCast_mul]
theorem elsO_take (a b:Nat)(ks:List Nd)(i:Nat)(hi:i<ks.length):elsO a b (ks.take (i+1))=elsO a b (ks.take i)++(padW (ks[i]).d a++List.replicate b 0):=by
 rw [List.take_succ_eq_append_getElem hi,elsO_snoc]
theorem elem_words {d:List Int}{a b:Nat}(h8:d.length % 8=0)(hd:d.length≤8*a):padW d ((d.length+7) / 8)++List.replicate (a+b-d.length / 8) 0=padW d a++List.replicate b 0:=by
 have e:(d.length+7) / 8=d.length / 8:=by omega
 have e2:padW d a=wordsOf d++List.replicate (a-d.length / 8) 0:=by
  have hl:(padW d a).length=a:=padW_length hd
  apply ext_zat
  ·rw [hl,List.length_append,wordsOf_length,List.length_replicate];omega
  ·intro i hi
   rw [hl] at hi
   by_cases h:i<d.length / 8
   ·rw [zat_append_left _ _ _ (by rw [wordsOf_length];exact h),wordsOf_zat _ _ h]
    unfold padW
    rw [wordsOf_zat _ _ (by rw [List.length_append,List.length_replicate];omega)]
    unfold wordAt
    refine leF_congr 8 (fun j hj=>?_)
    exact zat_append_left _ _ _ (by omega)
   ·rw [zat_append_right _ _ _ (by rw [wordsOf_length];omega),zat_replicate]
    unfold padW
    rw [wordsOf_zat _ _ (by rw [List.length_append,List.length_replicate];omega)]
    unfold wordAt
    rw [leF_congr (y:=fun _=>0) 8 (fun j hj=>by rw [zat_append_right _ _ _ (by omega),zat_replicate])]
    rfl
 rw [e,padW_len8 h8,e2,List.append_assoc,List.replicate_append_replicate]
 congr 2
 omega
section
attribute [local simp] AllK KnowsV look Is
def ReadS (w0 w:World)(wb q:Nat)(B:Option Addr)(ks:List Nd):Prop:=
 ∀j (hj:j<ks.length),∃b off A' c' B' c2',B=some ⟨b,off,none⟩∧¬KS wb q b∧b<w.heap.size∧w.cell? ⟨b,off+j*5,none⟩=some (.int .i64 (ks[j]).k)∧w.cell? ⟨b,off+j*5+1,none⟩=some (.int .i64 (ks[j]).e)∧w.cell? ⟨b,off+j*5+2,none⟩=some (.int .i64 (ks[j]).n) ∧
  w.cell? ⟨b,off+j*5+3,none⟩=some (.slice A' (ks[j]).d.length c')∧w.cell? ⟨b,off+j*5+4,none⟩=some (.slice B' (ks[j]).ks.length c2')∧NdR w0 A' c' B' c2' ks[j]
theorem ReadS.keeps {w0 w w':World}{wb q:Nat}{B:Option Addr}{ks:List Nd}(h:ReadS w0 w wb q B ks)(hk:Keeps (KS wb q) w w'):ReadS w0 w' wb q B ks:=by
 intro j hj
 obtain⟨b,off,A',c',B',c2',hB,hne,hb,h0,h1,h2,h3,h4,h5⟩:=h j hj
 have hc:∀o,w'.cell? ⟨b,o,none⟩=w.cell? ⟨b,o,none⟩:=fun o=>World.cell?_of_block (hk.block b hb (fun e=>hne e))
 exact⟨b,off,A',c',B',c2',hB,hne,Nat.lt_of_lt_of_le hb hk.size,(hc _).trans h0,(hc _).trans h1,(hc _).trans h2,(hc _).trans h3,(hc _).trans h4,h5⟩
theorem ReadS.of_ks {w0 w:World}{wb q:Nat}{B:Option Addr}{ks:List Nd}(h:KsR w0 B ks)(hb:Below w0.heap.size w0 w)(h1:w0.heap.size≤wb)(h2:w0.heap.size≤q):ReadS w0 w wb q B ks:=by
 intro j hj
 obtain⟨b,off,A',c',B',c2',hB,k0,k1,k2,k3,k4,k5⟩:=h.at hj
 have hlt:b<w0.heap.size:=World.block_lt_of_cell? w0 ⟨b,off+j*5,none⟩ k0
 have hc:=fun o=>hb.cell (p:=⟨b,o,none⟩) (by show b<w0.heap.size;omega)
 exact⟨b,off,A',c',B',c2',hB,by unfold KS;omega,by have:=hb.size;omega,(hc _).trans k0,(hc _).trans k1,(hc _).trans k2,(hc _).trans k3,(hc _).trans k4,k5⟩
def DispC (w0:World)(wb q cap:Nat)(y:Nd):Prop:=
 ∀(cur:List Int) (a:Nat) (A:Option Addr) (c:Nat) (B:Option Addr) (c2:Nat) (w:World),NdR w0 A c B c2 y→a<cur.length→(cur.length:Int)+canN y≤cap→Wr w wb q cap w0.heap.size cur→Below w0.heap.size w0 w →
  Calls Tryz.prog 57 #[.pointer (some ⟨wb,0,none⟩),.int .i64 a,.agg #[.int .i64 y.k,.int .i64 y.e,.int .i64 y.n,.slice A y.d.length c,.slice B y.ks.length c2]] w fun r w'=>r=.returned (.tuple #[])∧Keeps (KS wb q) w w'∧Wr w' wb q cap w0.heap.size (placeF cur a y)
set_option maxHeartbeats 4000000 in
theorem Wrefer_any (w0:World)(wb q cap:Nat)(hwb:w0.heap.size≤wb)(hq:w0.heap.size≤q)(hcap:cap≤268435456)(ks:List Nd)(hD:∀y∈ks,DispC w0 wb q cap y)(hv:∀y∈ks,validN y=true)(cur:List Int)(a:Nat)(B:Option Addr)(c:Nat)(w:World)(hc:ks.length≤c)
  (hr:ReadS w0 w wb q B ks) (ha:a+ks.length≤cur.length) (hroom:(cur.length:Int)+canK ks≤cap) (h:Wr w wb q cap w0.heap.size cur) (hb:Below w0.heap.size w0 w) :
  Calls Tryz.prog 36 #[.pointer (some ⟨wb,0,none⟩),.int .i64 a,.slice B ks.length c] w fun r w'=>r=.returned (.tuple #[])∧Keeps (KS wb q) w w'∧Wr w' wb q cap w0.heap.size (placeK cur a ks):=by
 have HD:=Lib.hid hD
 have HRD:=Lib.hid hr
 have HSZ:=hb.size
 have HW:=Lib.hid (fun (W:World) (h:Keeps (KS wb q) w W)=>hb.trans (ks_below h HSZ hwb hq))
 have HTK:=Lib.hid (canK_tk hv)
 have hckk:=(canK_tk hv 0)
 have hckl:(ks.length:Int)≤1099511627776:=by have h1:=h.q;omega
 have HLEN:=Lib.hid (fun j=>placeK_length (ks.take j) cur a (fun y hy=>hv y (List.mem_of_mem_take hy)))
 have HST:=Lib.hid (fun j hj=>placeK_take cur a ks j hj)
 have HCK:=Lib.hid (fun j hj=>canK_take ks j hj)
 have HW0:Hid (Wr w wb q cap w0.heap.size (placeK cur a (ks.take 0))):=Lib.hid (by simpa [placeK] using h)
 have hcl:cur.length≤268435456:=by have:=h.q;omega
 have HRM:=Lib.hid hroom
 clear hD hv hr h hb HSZ hckk hroom
 go_enter Tryz.func36,Tryz.ntmps36
 go_wp2
 go_loopw [10] (fun i wr=>∃j:Nat,j≤ks.length∧i=.int .i64 j∧Wr wr wb q cap w0.heap.size (placeK cur a (ks.take j))∧Keeps (KS wb q) w wr) (fun i _=>ks.length-(intOf i).toNat)
 case atStart=>exact⟨0,by omega,rfl,HW0.out,Keeps.refl _ _⟩
 case round=>
  clear HW0
  obtain⟨j,hj,rfl,hw,hk⟩:=hrel
  by_cases hlt:j<ks.length
  ·have hlt':(j:Int)<(ks.length:Int):=by omega
   obtain⟨b,off,A',c',B',c2',rfl,hne,hbl,k0,k1,k2,k3,k4,hnd⟩:=(HRD.out.keeps hk) j hlt
   have HDJ:=Lib.hid (HD.out ks[j] (List.getElem_mem hlt))
   have HSJ:Hid (placeK cur a (ks.take (j+1))=placeF (placeK cur a (ks.take j)) (a+j) ks[j]):=Lib.hid (HST.out j hlt)
   have HRJ:Hid (((placeK cur a (ks.take j)).length:Int)+canN ks[j]≤cap∧a+j<(placeK cur a (ks.take j)).length):=Lib.hid (by
    have h1:=HLEN.out j
    have h2:=HCK.out j hlt
    have h3:=HTK.out (j+1)
    have h4:=HTK.out j
    have h5:=HRM.out
    omega)
   obtain⟨nx,hnx⟩:∃nx,placeK cur a (ks.take (j+1))=nx:=⟨_,rfl⟩
   have HNX:=Lib.hid hnx
   rw [hnx] at HSJ
   clear hnx
   generalize placeK cur a (ks.take j)=cu at *
   generalize ks[j]=y at *
   have HW1:=Lib.hid (hw.alloc (.cells #[.int .i64 y.k,.int .i64 y.e,.int .i64 y.n,.slice A' y.d.length c',.slice B' y.ks.length c2'] 39))
   have HK1:=Lib.hid (ks_alloc hk (.cells #[.int .i64 y.k,.int .i64 y.e,.int .i64 y.n,.slice A' y.d.length c',.slice B' y.ks.length c2'] 39))
   have HND:=Lib.hid hnd
   clear hw hk hnd
   go_wp2_with fail
   have hI:(a:Int)+(j:Int)=((a+j:Nat):Int):=by omega
   rw [hI]
   refine(HDJ.out cu (a+j) A' c' B' c2' _ HND.out HRJ.out.2 HRJ.out.1 HW1.out (HW.out _ HK1.out)).mono ?_
   rintro r w2 ⟨rfl,hk2,hw2⟩
   have HK2:=Lib.hid (HK1.out.trans hk2)
   rw [←HSJ.out] at hw2
   have HW2:=Lib.hid hw2
   clear hk2 hw2 k0 k1 k2 k3 k4
   go_wp2
   go_roundw
   case rel=>exact⟨j+1,by omega,by go_num,by rw [HNX.out];exact HW2.out,HK2.out⟩
   case measure=>simp [intOf];omega
  ·obtain rfl:j=ks.length:=by omega
   have HW2:=Lib.hid hw
   have HK2:=Lib.hid hk
   clear hw hk
   go_wp2
   go_end0
   exact⟨rfl,HK2.out,by have:=HW2.out;rw [List.take_length] at this;exact this⟩
end
section
attribute [local simp] AllK KnowsV look Is
theorem wp_region_a8k {P:Program}{id:Nat}{o0 o1 o2 o3 o4 o5 o6 o7 t:Oper}(m:Nat)(S:Nat→Prop){Q:Exit→Act→World→Prop}{a:Act}{w:World}(hm:P.follows .mixedOrders=true)(hB:chainAB a.tmps.size [o0,o1,o2,o3,o4,o5,o6,o7] t=true)
  (h:ChainA P #[o0,o1,o2,o3,o4,o5,o6,o7,t] [o0,o1,o2,o3,o4,o5,o6,o7] t m S a w.drew Q [o0,o1,o2,o3,o4,o5,o6,o7] 0 [] []):(Code.region id #[o0,o1,o2,o3,o4,o5,o6,o7,t] true).wp P Q a w:=
 wp_region_a [o0,o1,o2,o3,o4,o5,o6,o7] t m S rfl hm hB h
theorem a_spc {P:Program}{ops:Array Oper}{l:List Oper}{t:Oper}{m:Nat}{S:Nat→Prop}{a0:Act}{w0:World}{Q:Exit→Act→World→Prop}{o:Oper}{r:List Oper}{i:Nat}{F G:List (Tmp×Fact)}{d:Tmp}{T:Fact}(f:FuncId)(L:List Tmp)(hm:(i==m)=true)(hd:o.dst=some d)(hL:(L.all fun s=>(o.looksAt ops).contains s)=true)(hg:GuardOK ops F a0 o)(hs:stable T)
  (h:∀ρ w,Below w0.heap.size w0 w→Plain ρ→AllK F a0 w ρ L→∃args,(execOp ρ o).run P w=.ok (.enter f args) w∧Calls P f args w fun e w'=>∃v,e=.returned v∧T v w'∧Keeps S w w') (hr:ChainA P ops l t m S a0 w0 Q r (i+1) ((d,T)::F) ((d,T)::G)):ChainA P ops l t m S a0 w0 Q (o::r) i F G:=by
 have hE:before l i m=true:=by unfold before;rw [hm];rfl
 refine⟨d,T,T,hd,hs,hs,fun hne=>absurd (by simpa using hm) hne,fun _ _ h=>h,fun a w hK hb hk=>?_,hr⟩
 rw [if_pos hE] at hk
 rw [if_pos (wanted_of hg hk)]
 obtain⟨args,h1,h2⟩:=h a.eval w (hb hE) (plain_eval a) (allK_of hk hL)
 unfold Oper.wp
 rw [h1]
 refine h2.mono fun e w' ⟨v,he,hT,hbel⟩=>?_
 subst he
 exact⟨v,rfl,hT,by rw [hm,if_pos rfl];exact hbel⟩
def WrF (wb q cap base:Nat)(cur:List Int)(u:Value):Fact:=fun v w=>v=u∧Wr w wb q cap base cur
theorem stable_wrf (wb q cap base:Nat)(cur:List Int)(u:Value):stable (WrF wb q cap base cur u):=fun v w w' h hb=>⟨h.1,h.2.below hb⟩
theorem undrewS {S:Nat→Prop}{w wc:World}(h:Keeps S w.drew wc):Keeps S w wc:=⟨h.os,h.tape,h.output,h.size,h.block⟩
set_option maxHeartbeats 4000000 in
theorem Wcontents_any (w0:World)(wb q cap:Nat)(hwb:w0.heap.size≤wb)(hne:wb≠q)(hcap:cap≤268435456)(k e n:Int)(d:List Int)(ks:List Nd)(hD:∀y∈ks,DispC w0 wb q cap y)(hv:∀y∈ks,validN y=true)(cur:List Int)(A:Option Addr)(c:Nat)(B:Option Addr)(c2:Nat)(w:World)
  (hx:NdR w0 A c B c2 (.mk k e n d ks)) (hroom:(cur.length:Int)+((d.length+7) / 8+ks.length:Nat)+canK ks≤cap) (h:Wr w wb q cap w0.heap.size cur) (hb:Below w0.heap.size w0 w) :
  Calls Tryz.prog 104 #[.pointer (some ⟨wb,0,none⟩),.agg #[.int .i64 k,.int .i64 e,.int .i64 n,.slice A d.length c,.slice B ks.length c2]] w fun r w'=>r=.returned (.tuple #[])∧Keeps (KS wb q) w w'∧Wr w' wb q cap w0.heap.size (placeK ((cur++padW d ((d.length+7) / 8))++List.replicate ks.length 0) (cur.length+(d.length+7) / 8) ks):=by
 have hq:=h.q
 have hwlt:=h.blk.lt
 have hcn:=canK_nn hv
 have HNB:Hid (¬KS wb q w.heap.size):=Lib.hid (by unfold KS;omega)
 have hpl:(padW d ((d.length+7) / 8)).length=(d.length+7) / 8:=padW_length (by omega)
 have hxo:=hx.open
 have HDA:=Lib.hid (fun W (h2:Wr W wb q cap w0.heap.size cur) (h3:Below w0.heap.size w0 W)=>Wdata_any w0 wb q cap hwb hne (by omega) A c d cur W hxo.2.2.2.1 hxo.2.2.2.2.1 hxo.2.2.2.2.2.2.2.1 hxo.2.2.2.2.2.1 (by have:=hxo.2.2.2.2.2.2.1;unfold maxLen;omega) (by omega) h2 h3)
 have HW:=Lib.hid (fun (W:World) (h:Keeps (KS wb q) w W)=>hb.trans (ks_below h hb.size hwb hq.1))
 have HC2:=Lib.hid hxo.2.2.2.2.2.2.2.2.1
 have HKS:=Lib.hid hx.kids
 have HW1:=Lib.hid (h.alloc (.cells #[.int .i64 k,.int .i64 e,.int .i64 n,.slice A d.length c,.slice B ks.length c2] 39))
 have HK1:Hid (Keeps (KS wb q) w (w.alloc (.cells #[.int .i64 k,.int .i64 e,.int .i64 n,.slice A d.length c,.slice B ks.length c2] 39))):=Lib.hid (ks_alloc (Keeps.refl _ _) _)
 have HB1:=Lib.hid (Blk.fresh w #[.int .i64 k,.int .i64 e,.int .i64 n,.slice A d.length c,.slice B ks.length c2] 39)
 have HRF:=Lib.hid (fun W (cu:List Int) (a:Nat) (h1:Wr W wb q cap w0.heap.size cu) (h2:Below w0.heap.size w0 W) (h3:a+ks.length≤cu.length) (h4:(cu.length:Int)+canK ks≤cap)=>Wrefer_any w0 wb q cap hwb hq.1 hcap ks hD hv cu a B c2 W hxo.2.2.2.2.2.2.2.2.1 (ReadS.of_ks HKS.out h2 hwb hq.1) h3 h4 h1 h2)
 have HNE:=Lib.hid hne
 have HPL:=Lib.hid hpl
 have HRM:=Lib.hid hroom
 have HCN:=Lib.hid hcn
 generalize padW d ((d.length+7) / 8)=pw at *
 obtain⟨M,hM⟩:∃M,(d.length+7) / 8=M:=⟨_,rfl⟩
 rw [hM] at HPL HRM
 rw [hM]
 have hkl:ks.length≤268435456:=by have:=HRM.out;have:=HCN.out;omega
 obtain⟨res,hres⟩:∃res,placeK ((cur++pw)++List.replicate ks.length 0) (cur.length+M) ks=res:=⟨_,rfl⟩
 have HRES:Hid (placeK ((cur++pw)++List.replicate ks.length 0) (cur++pw).length ks=res):=Lib.hid (by rw [←hres,List.length_append,HPL.out])
 rw [hres]
 clear hx hxo h hb hD hv hroom hq hcn hpl hM hwb hne hres
 go_enter Tryz.func104,Tryz.ntmps104
 go_wp2_with fail
 refine(HDA.out _ HW1.out (HW.out _ HK1.out)).mono ?_
 rintro r w2 ⟨rfl,hk2,hw2⟩
 have HB2:=Lib.hid (HB1.out.keepsS hk2 HNB.out)
 have HK2:=Lib.hid (HK1.out.trans hk2)
 have HW2:=Lib.hid hw2
 clear hk2 hw2 HDA HW1 HK1 HB1
 have hL:(cur++pw).length=cur.length+M:=by rw [List.length_append,HPL.out]
 have HL:=Lib.hid hL
 have HRM2:Hid ((cur++pw).length+ks.length≤cap):=Lib.hid (by rw [hL];have:=HRM.out;have:=HCN.out;omega)
 have HRM3:Hid ((((cur++pw)++List.replicate ks.length 0).length:Int)+canK ks≤cap):=Lib.hid (by rw [List.length_append,List.length_replicate,hL];have:=HRM.out;omega)
 clear hL
 clear HL
 generalize cur++pw=cu at *
 go_wp2_with fail
 have HBd:Hid (∀wc,Keeps (KS wb q) w2.drew wc→Blk wc w.heap.size #[.int .i64 k,.int .i64 e,.int .i64 n,.slice A d.length c,.slice B ks.length c2]):=Lib.hid (fun wc h=>HB2.out.keepsS (undrewS h) HNB.out)
 have HBb:Hid (∀wc,Below w2.drew.heap.size w2.drew wc→Wr wc wb q cap w0.heap.size cu):=Lib.hid (fun wc h=>HW2.out.below (bel_undrew13 h))
 refine wp_region_a8k 5 (KS wb q) (by kernel_rfl) (by kernel_rfl) ?_
 refine a_val_l (u:=?_) [0] (by kernel_rfl) rfl (by kernel_rfl) trivial (fun ρ wc hbc hcn hk=>?_) ?_;rotate_left
 ·obtain⟨hcn,-⟩:=hcn
  simp at hk
  go_simp
  rfl
 refine a_val (u:=?_) [0] (by kernel_rfl) rfl rfl (by kernel_rfl) trivial (fun ρ wc hbc hcn hk=>?_) ?_;rotate_left
 ·obtain⟨hcn,-⟩:=hcn
  simp at hk
  go_simp
  rfl
 refine a_val_l (u:=?_) [3] (by kernel_rfl) rfl (by kernel_rfl) trivial (fun ρ wc hbc hcn hk=>?_) ?_;rotate_left
 ·obtain⟨hcn,-⟩:=hcn
  simp at hk
  go_simp
  rfl
 refine a_val_l (u:=?_) [10] (by kernel_rfl) rfl (by kernel_rfl) trivial (fun ρ wc hbc hcn hk=>?_) ?_;rotate_left
 ·obtain⟨hcn,-⟩:=hcn
  simp at hk
  have x1:=(HBd.out wc hbc).cell
  go_simp
  rfl
 refine a_val (u:=?_) [11] (by kernel_rfl) rfl rfl (by kernel_rfl) trivial (fun ρ wc hbc hcn hk=>?_) ?_;rotate_left
 ·obtain⟨hcn,-⟩:=hcn
  simp at hk
  go_simp
  rfl
 refine a_spc (T:=WrF wb q cap w0.heap.size (cu++List.replicate ks.length 0) (.int .i64 cu.length)) 37 [9,12] rfl rfl (by kernel_rfl) trivial (stable_wrf _ _ _ _ _ _) (fun ρ wc hbc hcn hk=>?_) ?_
 ·obtain⟨hcn,hfn⟩:=hcn
  simp at hk
  refine⟨_,by go_simp;rfl,?_⟩
  refine(Wzeros_any wb q cap w0.heap.size ks.length cu wc (HBb.out wc hbc) HNE.out HRM2.out (by omega)).mono ?_
  rintro e w' ⟨rfl,hk',hw'⟩
  exact⟨_,rfl,⟨rfl,hw'⟩,hk'⟩
 refine a_val_l (u:=?_) [3] (by kernel_rfl) rfl (by kernel_rfl) trivial (fun ρ wc hbc hcn hk=>?_) ?_;rotate_left
 ·obtain⟨hcn,-⟩:=hcn
  simp at hk
  go_simp
  rfl
 refine a_val_l (u:=?_) [14] (by kernel_rfl) rfl (by kernel_rfl) trivial (fun ρ wc hbc hcn hk=>?_) ?_;rotate_left
 ·obtain⟨hcn,-⟩:=hcn
  simp at hk
  have x1:=(HBd.out wc hbc).cell
  go_simp
  rfl
 refine a_end_lit 17 rfl (fun ff w9 hb9 hk=>?_)
 have h13:WrF wb q cap w0.heap.size (cu++List.replicate ks.length 0) (.int .i64 cu.length) (ff 13) w9:=allN_atF hk 13 (by decide) (by decide)
 simp [AllN] at hk
 simp only [frameL,hk,Nat.zero_add,Nat.reduceAdd]
 clear hk
 obtain⟨e13,hw9⟩:=h13
 rw [e13]
 have HW9:=Lib.hid hw9
 have HK9:=Lib.hid (HK2.out.trans (undrewS hb9))
 clear hw9 hb9 e13 HBd HBb HB2 HW2 HK2
 go_wp2_with fail
 refine(HRF.out w9 _ cu.length HW9.out (HW.out _ HK9.out) (by simp) HRM3.out).mono ?_
 rintro r w5 ⟨rfl,hk5,hw5⟩
 have HK5:=Lib.hid (HK9.out.trans hk5)
 have HW5:=Lib.hid hw5
 clear hk5 hw5
 go_wp2
 go_end0
 exact⟨rfl,HK5.out,by rw [←HRES.out];exact HW5.out⟩
end
end Go.Proofs.YtbpmeppdjicmhaaGreatDoor
