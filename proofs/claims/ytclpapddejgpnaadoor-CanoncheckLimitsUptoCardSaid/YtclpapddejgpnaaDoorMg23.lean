/- The texts Ref14d, Ref14e, Ref14f (what is wanted of them), one after the other. -/
import Derived.Test.YtclpapddejgpnaaDoorMg16
import Derived.Test.YtclpapddejgpnaaDoorMg22
namespace Go.Proofs.YtclpapddejgpnaaDoor
open Go.ChangeShapes Go.WideShapes Go.ChangeAt Go.RowKit
set_option linter.unusedVariables false
set_option linter.unusedSimpArgs false
set_option maxRecDepth 100000
section
attribute [local simp] AllK KnowsV look Is
def elsO (a b:Nat)(l:List Nd):List Int:=l.flatMap (fun y=>padW y.d a++List.replicate b 0)
theorem elsO_snoc (a b:Nat)(l:List Nd)(y:Nd):elsO a b (l++[y])=elsO a b l++(padW y.d a++List.replicate b 0):=by simp [elsO]
theorem elsO_length {a b:Nat}:∀{l:List Nd},(∀y∈l,y.d.length≤8*a)→(elsO a b l).length=l.length*(a+b)
 | [],_=>by simp [elsO]
 | y::ys,h=>by
  have ih:=elsO_length (a:=a) (b:=b) (l:=ys) (fun z hz=>h z (List.mem_cons_of_mem _ hz))
  have e:elsO a b (y::ys)=(padW y.d a++List.replicate b 0)++elsO a b ys:=by simp [elsO]
  rw [e,List.length_append,List.length_append,padW_length (h y (List.mem_cons_self ..)),List.length_replicate,ih,List.length_cons,Nat.add_mul]
  omega
theorem elsP_zero (a b:Nat):∀(ys:List Nd),(∀y∈ys,y.ks.length≤b)→elsP a b ys (List.replicate (kk ys).length 0)=elsO a b ys
 | [],_=>rfl
 | y::ys,h=>by
  have hk:kk (y::ys)=y.ks++kk ys:=by simp [kk]
  have h1:=h y (List.mem_cons_self ..)
  have ih:=elsP_zero a b ys (fun z hz=>h z (List.mem_cons_of_mem _ hz))
  have e:elsO a b (y::ys)=(padW y.d a++List.replicate b 0)++elsO a b ys:=by simp [elsO]
  have e1:(List.replicate (kk (y::ys)).length (0:Int)).take y.ks.length=List.replicate y.ks.length 0:=by rw [hk,List.take_replicate,List.length_append];congr 1;omega
  have e2:(List.replicate (kk (y::ys)).length (0:Int)).drop y.ks.length=List.replicate (kk ys).length 0:=by rw [hk,List.drop_replicate,List.length_append];congr 1;omega
  have e3:List.replicate b (0:Int)=List.replicate y.ks.length 0++List.replicate (b-y.ks.length) 0:=by rw [List.replicate_append_replicate];congr 1;omega
  simp only [elsP]
  rw [e1,e2,ih,e,e3]
  simp only [List.append_assoc]
theorem posE_snoc (a b:Nat):∀(l:List Nd) (s:Nat) (y:Nd),posE a b s (l++[y])=posE a b s l++posS (s+l.length*(a+b)+a) y.ks.length
 | [],s,y=>by simp [posE,posS]
 | x::xs,s,y=>by
  simp only [List.cons_append,posE,posE_snoc a b xs,List.append_assoc,List.length_cons]
  rw [show s+a+b+xs.length*(a+b)+a=s+(xs.length+1)*(a+b)+a by rw [Nat.add_mul];omega]
theorem fillW_cmp {n:Int}{d:List Int}{ks:List Nd}(hv:validN (.mk 2 7 n d ks)=true):fillW (.mk 2 7 n d ks) 0=tagW n (uniD ks ks.length) (uniP ks ks.length)::elsO (uniD ks ks.length) (uniP ks ks.length) ks:=by
 unfold fillW
 rw [List.take_zero,List.nil_append,Nat.sub_zero,targN_mk,if_pos ⟨rfl,rfl⟩,←elsP_zero _ _ ks (fun y hy=>(comp_fit hv y hy).2)]
 rfl
theorem tag_vld {n:Int}{d:List Int}{ks:List Nd}(hv:validN (.mk 2 7 n d ks)=true):Vld ⟨0,n,(uniD ks ks.length:Nat),(uniP ks ks.length:Nat),0,0,false,0,0,0⟩:=by
 obtain⟨g1,g2,-⟩:=head_lst hv
 obtain⟨h1,h2⟩:=uni_bd hv
 left
 simp only
 refine⟨trivial,by omega,by omega,by omega,by omega,by omega,by omega,?_⟩
 simp
theorem got_one14 (w:World)(y:Int){base:Nat}(hb:base≤w.heap.size):Got (w.alloc (.cells #[.int .u64 y] 32)) base 32 .u64 (.slice (some ⟨w.heap.size,0,none⟩) 1 1) [y]:=
 ⟨rfl,.inr ⟨w.heap.size,1,_,rfl,hb,heap_alloc_new _ _,Nat.le_refl _,by unfold maxLen;omega,rfl,rfl⟩⟩
set_option maxHeartbeats 4000000 in
set_option maxRecDepth 100000 in
theorem Shallow14_cmp (n:Int)(d:List Int)(ks:List Nd)(A:Option Addr)(c:Nat)(B:Option Addr)(c2:Nat)(w:World)(hx:NdR w A c B c2 (.mk 2 7 n d ks))(hv:validN (.mk 2 7 n d ks)=true)(hs:sizeN (.mk 2 7 n d ks)≤1048576)(S:Int)(hS:canO (.mk 2 7 n d ks)=1+S):
  Calls Tryd.prog 50 #[.agg #[.int .i64 2,.int .i64 7,.int .i64 n,.slice A d.length c,.slice B ks.length c2]] w fun r w'=>∃v u,r=.returned (.tuple #[v,.agg #[.int .i64 1,.int .i64 0,.int .i64 0,.int .i64 0,.int .i64 7,.int .i64 S,.bool false,.int .i64 0,.int .u32 0,.int .u32 0],u]) ∧
   Got w' w.heap.size 32 .u64 v (fillW (.mk 2 7 n d ks) 0)∧Got w' w.heap.size 3 .i64 u (natsI (posL (.mk 2 7 n d ks)))∧Below w.heap.size w w':=by
 obtain⟨i0,hi,hz0,hz1,hz2⟩:=info_parts int64_info
 obtain⟨j0,gj,gj0,gj1,gj2⟩:=info_parts int_info14
 obtain⟨g1,g2,-,-,g5,-⟩:=head_lst hv
 obtain⟨-,g8⟩:=g5 (by decide)
 have hfit:=comp_fit hv
 obtain⟨hu1,hu2⟩:=uni_bd hv
 have hvt:=tag_vld hv
 have HX:=Lib.hid hx
 have HKS:=Lib.hid hx.kids
 have HB0:=Lib.hid (fun o1 o2 o3=>(((Below.refl w.heap.size w).alloc (Nat.le_refl _) o1).alloc (by simp) o2).alloc (by simp;omega) o3)
 have hfl:=fillW_cmp hv
 have HUN:=Lib.hid (fun w2 (h2:NdR w2 A c B c2 (.mk 2 7 n d ks))=>RefUniform11_any (.mk 2 7 n d ks) A c B c2 w2 h2 (by omega))
 simp only [Nd.k,Nd.e,Nd.n,Nd.d,Nd.ks] at HUN
 have hkl:ks.length≤1048576:=by
  simp only [sizeN] at hs
  have:=sizeK_length ks
  omega
 have hO:canO (.mk 2 7 n d ks)=1+n*((uniD ks ks.length+uniP ks ks.length:Nat):Int):=by
  show canOf 2 7 n d ks=_
  unfold canOf
  rw [if_neg (show ¬((2:Int)=0) by decide),if_neg (show ¬((2:Int)=1) by decide),if_pos rfl]
 have HPL:Hid (posL (.mk 2 7 n d ks)=posE (uniD ks ks.length) (uniP ks ks.length) 1 ks):=Lib.hid rfl
 have htw:encE ⟨0,n,(uniD ks ks.length:Nat),(uniP ks ks.length:Nat),0,0,false,0,0,0⟩=tagW n (uniD ks ks.length) (uniP ks ks.length):=by
  unfold encE okE
  rw [if_pos (decide_eq_true hvt)]
  rfl
 generalize posL (.mk 2 7 n d ks)=pl at *
 generalize fillW (.mk 2 7 n d ks) 0=fb at *
 generalize uniD ks ks.length=X at *
 generalize uniP ks ks.length=b at *
 obtain⟨tg,htg⟩:∃tg,tagW n X b=tg:=⟨_,rfl⟩
 rw [htg] at hfl htw
 have HW:=Lib.hid hfl
 have HEN:=Lib.hid (fun w2=>RefEncode_any 0 n X b 0 0 0 0 0 false w2 (by decide) (by decide) (by decide))
 rw [htw] at HEN
 have hSn:S=((ks.length*(X+b):Nat):Int):=by
  rw [hO,←g8] at hS
  rw [Int.natCast_mul]
  omega
 have HSN:=Lib.hid hSn
 have HLE:Hid (∀j,j≤ks.length→(elsO X b (ks.take j)).length=j*(X+b)):=Lib.hid (fun j hj=>by
  rw [elsO_length (fun y hy=>(hfit y (List.mem_of_mem_take hy)).1),List.length_take]
  congr 1
  omega)
 have hmb:∀j,j≤ks.length→j*(X+b)≤1048576*131070:=fun j hj=>Nat.mul_le_mul (by omega) (by omega)
 have HMB:=Lib.hid hmb
 have HES:Hid (∀j (hj:j<ks.length),elsO X b (ks.take (j+1))=elsO X b (ks.take j)++(padW (ks[j]).d X++List.replicate b 0)):=Lib.hid (fun j hj=>by rw [List.take_succ_eq_append_getElem hj,elsO_snoc])
 have HPS:Hid (∀j (hj:j<ks.length),posE X b 1 (ks.take (j+1))=posE X b 1 (ks.take j)++posS (1+j*(X+b)+X) (ks[j]).ks.length):=Lib.hid (fun j hj=>by
  rw [List.take_succ_eq_append_getElem hj,posE_snoc,List.length_take]
  rw [show min j ks.length=j by omega])
 have HFIT:=Lib.hid hfit
 have HPSL:Hid (∀j,(posE X b 1 (ks.take j)).length≤1048576):=Lib.hid (fun j=>by
  rw [posE_length]
  have h1:=kk_size (ks.take j)
  have h2:=sizeK_take_le ks j
  simp only [sizeN] at hs
  omega)
 clear hx hv hfl hfit htw hO hS hSn htg g5 hvt hmb hs
 go_enter Tryd.func50,Tryd.ntmps50
 go_wp2_with fail
 refine abs_world (F:=fun W=>Blk W w.heap.size #[.int .i64 2,.int .i64 7,.int .i64 n,.slice A d.length c,.slice B ks.length c2]∧Blk W (w.heap.size+1) #[.int .i64 0,.int .i64 0,.int .i64 0,.int .i64 0,.int .i64 0,.int .i64 0,.bool false,.int .i64 0,.int .u32 0,.int .u32 0]∧Blk W (w.heap.size+1+1) #[.int .i64 1,.int .i64 0,.int .i64 0,.int .i64 0,.int .i64 7,.int .i64 n,.bool false,.int .i64 0,.int .u32 0,.int .u32 0]∧Below w.heap.size w W) ⟨?_,?_,?_,?_⟩ ?_
 ·exact((Blk.fresh _ _ _).alloc _).alloc _
 ·exact(Blk.new (by simp)).alloc _
 ·exact Blk.new (by simp)
 ·exact HB0.out _ _ _
 rintro W ⟨hB1,hB2,hB3,hbw⟩
 have hz3:w.heap.size+1+1+1≤W.heap.size:=hB3.lt
 refine(HUN.out W (HX.out.on hbw (Nat.le_refl _))).mono ?_
 rintro r w4 ⟨rfl,hb4⟩
 have hb4w:=bel_on hbw hb4
 have hB1':=hB1.below hb4
 have hB2':=hB2.below hb4
 have hB3':=hB3.below hb4
 have hz4:=hb4.size
 clear hB1 hB2 hB3 hbw hb4
 obtain⟨x1,y1,z1⟩:=hB1'
 go_wp2_with fail
 refine(HEN.out w4).mono ?_
 rintro r w5 ⟨rfl,hb5⟩
 have H1:=Lib.hid ((show Blk w4 _ _ from ⟨x1,y1,z1⟩).below hb5)
 have H2:=Lib.hid (hB2'.below hb5)
 have H3:=Lib.hid (hB3'.below hb5)
 have HB:=Lib.hid (bel_on hb4w hb5)
 have hz5:=hb5.size
 clear hB2' hB3' hb4w hb5 x1 y1 z1
 have hG0:Got (w5.alloc (.cells #[.int .u64 tg] 32)) (w.heap.size+1+1+1) 32 .u64 (.slice (some ⟨w5.heap.size,0,none⟩) 1 1) (tg::elsO X b (ks.take 0)):=got_one14 w5 tg (by omega)
 have HG0:=Lib.hid hG0
 have HAL:=Lib.hid (fun o=>(Below.refl w5.heap.size w5).alloc (Nat.le_refl _) o)
 clear hG0
 obtain⟨x1,y1,z1⟩:=(H1.out.alloc (.cells #[.int .u64 tg] 32))
 go_wp2
 go_loopw [6,15,16] (fun u v i wr=>∃j:Nat,j≤ks.length∧i=.int .i64 j∧Got wr (w.heap.size+1+1+1) 32 .u64 v (tg::elsO X b (ks.take j))∧Got wr (w.heap.size+1+1+1) 3 .i64 u (natsI (posE X b 1 (ks.take j)))∧Apart v u∧Below (w.heap.size+1+1+1) w5 wr) (fun _ _ i _=>ks.length-(intOf i).toNat)
 case atStart=>exact⟨0,by omega,rfl,HG0.out,by simpa [posE,natsI] using Got.empty _ _ _ _,apart_none _,(HAL.out _).mono (by omega)⟩
 case round=>
  clear x1 y1 z1
  obtain⟨j,hj',rfl,hg,hu,hap,hbr⟩:=hrel
  have HG:=Lib.hid hg
  have HU:=Lib.hid hu
  have HAP:=Lib.hid hap
  have HBR:=Lib.hid hbr
  have hsz:=hbr.size
  have HBW:Hid (Below w.heap.size w wr):=Lib.hid (HB.out.trans (hbr.mono (by omega)))
  have B1:=H1.out.belowN hbr (by omega)
  obtain⟨x1,y1,z1⟩:=B1
  clear hg hu hap hbr
  by_cases hlt:j<ks.length
  ·have hj1:(j:Int)<(ks.length:Int):=by omega
   obtain⟨b',off,A',c',B',c2',rfl,k0w,k1w,k2w,k3w,k4w,hsub⟩:=HKS.out.at hlt
   have hb'lt:b'<w.heap.size:=World.block_lt_of_cell? w ⟨b',off+j*5,none⟩ k0w
   have HES1:=Lib.hid (HES.out j hlt)
   have HPS1:=Lib.hid (HPS.out j hlt)
   have HPL1:=Lib.hid (HPSL.out (j+1))
   rw [HPS1.out,List.length_append,posS_length] at HPL1
   obtain⟨hf1,hf2⟩:=HFIT.out ks[j] (List.getElem_mem hlt)
   generalize ks[j]=y at *
   obtain⟨yk,ye,yn,yd,yks⟩:=y
   simp only [Nd.k,Nd.e,Nd.n,Nd.d,Nd.ks] at k0w k1w k2w k3w k4w HES1 HPS1 HPL1 hf1 hf2
   have HSO:=Lib.hid hsub.open
   have HK3:Hid (∀W',Below w.heap.size w W'→W'.cell? ⟨b',off+j*5+3,none⟩=some (.slice A' yd.length c')):=Lib.hid (fun W' h=>(h.cell (p:=⟨b',off+j*5+3,none⟩) hb'lt).trans k3w)
   have HK4:Hid (∀W',Below w.heap.size w W'→W'.cell? ⟨b',off+j*5+4,none⟩=some (.slice B' yks.length c2')):=Lib.hid (fun W' h=>(h.cell (p:=⟨b',off+j*5+4,none⟩) hb'lt).trans k4w)
   have HPD:=Lib.hid (fun w2 (hb:Below w.heap.size w w2)=>RefPadded14 A' c' yd X w2 (HSO.out.2.2.2.1.below hb (Nat.le_refl _)) HSO.out.2.2.2.2.1 HSO.out.2.2.2.2.2.2.2.1 hf1 (by omega))
   have HPW:Hid ((padW yd X).length=X):=Lib.hid (padW_length hf1)
   generalize padW yd X=pw at *
   clear k0w k1w k2w k3w k4w hsub
   have k3:=HK3.out wr HBW.out
   have hLJ:=HLE.out j (by omega)
   have hMJ:=HMB.out (j+1) (by omega)
   have hMJ2:(j+1)*(X+b)=j*(X+b)+(X+b):=by rw [Nat.add_mul,Nat.one_mul]
   obtain⟨M,hM⟩:∃M,j*(X+b)=M:=⟨_,rfl⟩
   rw [hM] at hLJ hMJ2 HPS1
   have hMb:M+(X+b)≤1048576*131070:=by omega
   have HLJ:=Lib.hid hLJ
   have HM:=Lib.hid hM
   clear hLJ hMJ hMJ2 hM
   have hszz:w.heap.size+1+1+1≤wr.heap.size:=by omega
   go_wp2_with fail
   refine(HPD.out wr HBW.out).mono ?_
   rintro r w8 ⟨v8,rfl,hg8,hb8⟩
   obtain⟨A8,c8,rfl,hl8,hm8,hr8,hn8⟩:=hg8.full
   have hg8':=HG.out.below hb8 (Nat.le_refl _)
   have hu8':=HU.out.below hb8 (Nat.le_refl _)
   have HR8:=Lib.hid hr8
   have HN8:=Lib.hid hn8
   have HBR8:=Lib.hid (HBR.out.trans (hb8.mono hszz))
   have hz8:=hb8.size
   clear hg8 hr8 hn8 hl8 hm8 hb8 k3 x1 y1 z1
   have hne:u15≠.slice none 0 0:=by
    intro h
    obtain⟨A5,c5,h5,-⟩:=hg8'.slice
    rw [h] at h5
    injection h5 with h6 h7
    simp at h7
   go_wp2_with (at_builtin;refine wpList_appT rfl (.tmp 104) (.tmp 112) 22 rfl Tryd.underlying22 hi hz0 hz1 hz2 (v:=u15) rfl hg8' hu8' HAP.out rfl HR8.out HN8.out (.inr hne) (by rw [List.length_cons,HLJ.out,HPW.out];unfold maxLen;omega) (by rw [List.length_cons,HLJ.out,HPW.out];omega) (Nat.le_trans hszz hz8) ?_;intro v9 w9 hg9 hu9 hap9 hb9)
   have HG9:=Lib.hid hg9
   have HU9:=Lib.hid hu9
   have HAP9:=Lib.hid hap9
   have HBR9:=Lib.hid (HBR8.out.trans hb9)
   clear hg9 hu9 hap9 hb9 hg8' hu8' hne
   go_loopw [6,15,17] (fun u v i wi=>∃k:Nat,k≤b∧i=.int .i64 k∧Got wi (w.heap.size+1+1+1) 32 .u64 v (((tg::elsO X b (ks.take j))++pw)++List.replicate k 0)∧Got wi (w.heap.size+1+1+1) 3 .i64 u (natsI (posE X b 1 (ks.take j)++posS (1+M+X) (min k yks.length)))∧Apart v u∧Below (w.heap.size+1+1+1) w5 wi) (fun _ _ i _=>b-(intOf i).toNat)
   case atStart=>exact⟨0,by omega,rfl,by simpa using HG9.out,by simpa [posS] using HU9.out,HAP9.out,HBR9.out⟩
   case round=>
    rename World=>wi
    obtain⟨k,hk,rfl,hg,hu,hap,hbr⟩:=hrel
    have HG:=Lib.hid hg
    have HU:=Lib.hid hu
    have HAP:=Lib.hid hap
    have HBR:=Lib.hid hbr
    have hsz':=hbr.size
    have HBW:Hid (Below w.heap.size w wi):=Lib.hid (HB.out.trans (hbr.mono (by omega)))
    have k4:=HK4.out wi HBW.out
    obtain⟨x1,y1,z1⟩:=H1.out.belowN hbr (by omega)
    obtain⟨A5,c5,rfl,-⟩:=hg.slice
    have hL:(((tg::elsO X b (ks.take j))++pw)++List.replicate k 0).length=1+M+X+k:=by rw [List.length_append,List.length_append,List.length_cons,HLJ.out,HPW.out,List.length_replicate];omega
    have HL:=Lib.hid hL
    have HLU:Hid ((natsI (posE X b 1 (ks.take j)++posS (1+M+X) (min k yks.length))).length≤1048576):=Lib.hid (by rw [natsI_length,List.length_append,posS_length];have:=HPL1.out;omega)
    have hszz':w.heap.size+1+1+1≤wi.heap.size:=by omega
    rw [hL]
    clear hg hu hap hbr hL
    by_cases hkb:k<b
    ·have hk1:(k:Int)<(b:Int):=by omega
     by_cases hkm:k<yks.length
     ·have hk2:(k:Int)<(yks.length:Int):=by omega
      have HPO:Hid (posS (1+M+X) (min (k+1) yks.length)=posS (1+M+X) (min k yks.length)++[1+M+X+k]):=Lib.hid (by rw [show min (k+1) yks.length=k+1 by omega,show min k yks.length=k by omega,posS_succ])
      go_wp2_with (first
       | (at_builtin;refine wpList_appT1 rfl (.tmp 128) (.tmp 131) 84 rfl Tryd.underlying84 gj gj0 gj1 gj2 (v:=u6) rfl HU.out HG.out HAP.out.symm rfl (by have:=HLU.out;unfold maxLen;omega) (by have:=HLU.out;omega) hszz' ?_;intro u5 w10 hu5 hg5 hap5 hb5)
       | (at_builtin;refine wpList_appT1 rfl (.tmp 133) (.tmp 134) 22 rfl Tryd.underlying22 hi hz0 hz1 hz2 (v:=.slice A5 (((tg::elsO X b (ks.take j))++pw)++List.replicate k 0).length c5) (by rw [HL.out];rfl) hg5 hu5 hap5.symm rfl (by rw [HL.out];unfold maxLen;omega) (by rw [HL.out];omega) (Nat.le_trans hszz' hb5.size) ?_;intro v6 w11 hg6 hu6 hap6 hb6))
      go_roundw
      case rel=>
       refine⟨k+1,by omega,by go_num,?_,?_,hap6,(HBR.out.trans hb5).trans hb6⟩
       ·rw [←rep_snoc];exact hg6
       ·rw [HPO.out,←List.append_assoc,natsI_snoc]
        simpa using hu6
      case measure=>simp [intOf];omega
     ·have hk2:¬(k:Int)<(yks.length:Int):=by omega
      have HPO:Hid (min (k+1) yks.length=min k yks.length):=Lib.hid (by omega)
      go_wp2_with (at_builtin;refine wpList_appT1 rfl (.tmp 133) (.tmp 134) 22 rfl Tryd.underlying22 hi hz0 hz1 hz2 (v:=.slice A5 (((tg::elsO X b (ks.take j))++pw)++List.replicate k 0).length c5) (by rw [HL.out];rfl) HG.out HU.out HAP.out rfl (by rw [HL.out];unfold maxLen;omega) (by rw [HL.out];omega) hszz' ?_;intro v6 w11 hg6 hu6 hap6 hb6)
      go_roundw
      case rel=>
       refine⟨k+1,by omega,by go_num,?_,?_,hap6,HBR.out.trans hb6⟩
       ·rw [←rep_snoc];exact hg6
       ·rw [HPO.out];exact hu6
      case measure=>simp [intOf];omega
    ·obtain rfl:k=b:=by omega
     rw [HL.out] at HG HAP
     go_wp2
     go_roundw
     case rel=>
      refine⟨j+1,by omega,by go_num,?_,?_,HAP.out,HBR.out⟩
      ·rw [HES1.out]
       have e:(((tg::elsO X k (ks.take j))++pw)++List.replicate k 0)=tg::(elsO X k (ks.take j)++(pw++List.replicate k 0)):=by simp
       rw [←e]
       exact HG.out
      ·rw [HPS1.out]
       have e:min k yks.length=yks.length:=by omega
       rw [←e]
       exact HU.out
     case measure=>simp [intOf];omega
  ·obtain rfl:j=ks.length:=by omega
   have hLJ:=HLE.out ks.length (Nat.le_refl _)
   have hMJ:=HMB.out ks.length (Nat.le_refl _)
   have hsn:=HSN.out
   obtain⟨A5,c5,rfl,-⟩:=HG.out.slice
   have htk:ks.take ks.length=ks:=List.take_length
   rw [htk] at hLJ HG HU HAP
   obtain⟨L,hL⟩:∃L,(tg::elsO X b ks).length=L:=⟨_,rfl⟩
   have hL2:L=S+1:=by rw [←hL,List.length_cons,hLJ];omega
   have hS0:0≤S∧S≤1099511627776:=by omega
   rw [htk,hL]
   rw [hL] at HG HAP
   have hwr:IntKind.i64.wrap ((L:Int)-1)=S:=by rw [IntKind.wrap_i64];omega
   obtain⟨x3,y3,z3⟩:=H3.out.belowN HBR.out (by omega)
   clear hLJ hMJ hsn hL htk
   have HBF0:Hid (Below w.heap.size w wr):=HBW
   have H3r:=Lib.hid (H3.out.belowN HBR.out (by omega))
   have H2r:=Lib.hid (H2.out.belowN HBR.out (by omega))
   go_wp2_with fail
   refine abs_code10 (F:=fun W=>Blk W (w.heap.size+1) #[.int .i64 0,.int .i64 0,.int .i64 0,.int .i64 0,.int .i64 0,.int .i64 0,.bool false,.int .i64 0,.int .u32 0,.int .u32 0]∧Blk W (w.heap.size+1+1) #[.int .i64 1,.int .i64 0,.int .i64 0,.int .i64 0,.int .i64 7,.int .i64 S,.bool false,.int .i64 0,.int .u32 0,.int .u32 0]∧Got W (w.heap.size+1+1+1) 32 .u64 (.slice A5 L c5) (tg::elsO X b ks)∧Got W (w.heap.size+1+1+1) 3 .i64 u6 (natsI (posE X b 1 ks))∧Below w.heap.size w W) ⟨?_,?_,?_,?_,?_⟩ ?_
   ·exact H2r.out.other (by show w.heap.size+1+1≠w.heap.size+1;omega) _
   ·exact H3r.out.set 5 (by simp) _
   ·exact HG.out.far (p:=⟨w.heap.size+1+1,5,none⟩) (by show w.heap.size+1+1<w.heap.size+1+1+1;omega) _
   ·exact HU.out.far (p:=⟨w.heap.size+1+1,5,none⟩) (by show w.heap.size+1+1<w.heap.size+1+1+1;omega) _
   ·exact HBF0.out.setCell (p:=⟨w.heap.size+1+1,5,none⟩) (by show w.heap.size≤w.heap.size+1+1;omega) _
   clear HG HU HBF0 H3r H2r x1 y1 z1 x3 y3 z3
   rintro wq ⟨h2,h3,hg,hu,hb⟩
   have H2p:=Lib.hid h2
   have H3p:=Lib.hid h3
   have HG:=Lib.hid hg
   have HU:=Lib.hid hu
   have HBF:=Lib.hid hb
   clear h2 h3 hg hu hb
   have h2:=H2p.out
   have H2w:=Lib.hid h2
   obtain⟨x2,y2,z2⟩:=h2
   obtain⟨x3,y3,z3⟩:=H3p.out
   go_region
   go_wp2
   have hq1:w.heap.size+1<w.heap.size+1+1+1:=by omega
   have hq2:w.heap.size≤w.heap.size+1:=by omega
   refine abs_post (F:=fun W=>Blk W (w.heap.size+1) #[.int .i64 1,.int .i64 0,.int .i64 0,.int .i64 0,.int .i64 7,.int .i64 S,.bool false,.int .i64 0,.int .u32 0,.int .u32 0]∧Got W (w.heap.size+1+1+1) 32 .u64 (.slice A5 L c5) (tg::elsO X b ks)∧Got W (w.heap.size+1+1+1) 3 .i64 u6 (natsI (posE X b 1 ks))∧Below w.heap.size w W) ⟨?_,?_,?_,?_⟩ ?_
   rotate_left 2
   ·exact Got.drewT ((((((((((HU.out.far (p:=⟨w.heap.size+1,0,none⟩) hq1 _).far (p:=⟨w.heap.size+1,1,none⟩) hq1 _).far (p:=⟨w.heap.size+1,2,none⟩) hq1 _).far (p:=⟨w.heap.size+1,3,none⟩) hq1 _).far (p:=⟨w.heap.size+1,4,none⟩) hq1 _).far (p:=⟨w.heap.size+1,5,none⟩) hq1 _).far (p:=⟨w.heap.size+1,6,none⟩) hq1 _).far (p:=⟨w.heap.size+1,7,none⟩) hq1 _).far (p:=⟨w.heap.size+1,8,none⟩) hq1 _).far (p:=⟨w.heap.size+1,9,none⟩) hq1 _)
   ·exact bel_drew ((((((((((HBF.out.setCell (p:=⟨w.heap.size+1,0,none⟩) hq2 _).setCell (p:=⟨w.heap.size+1,1,none⟩) hq2 _).setCell (p:=⟨w.heap.size+1,2,none⟩) hq2 _).setCell (p:=⟨w.heap.size+1,3,none⟩) hq2 _).setCell (p:=⟨w.heap.size+1,4,none⟩) hq2 _).setCell (p:=⟨w.heap.size+1,5,none⟩) hq2 _).setCell (p:=⟨w.heap.size+1,6,none⟩) hq2 _).setCell (p:=⟨w.heap.size+1,7,none⟩) hq2 _).setCell (p:=⟨w.heap.size+1,8,none⟩) hq2 _).setCell (p:=⟨w.heap.size+1,9,none⟩) hq2 _)
   ·rintro W9 ⟨B6,hN,hU,hbw⟩
    exact bodyPost_ret (v:=.tuple #[.slice A5 L c5,.agg #[.int .i64 1,.int .i64 0,.int .i64 0,.int .i64 0,.int .i64 7,.int .i64 S,.bool false,.int .i64 0,.int .u32 0,.int .u32 0],u6]) (by simp [results,Tryd.results50,go_sem,B6.cell]) rfl ⟨_,_,rfl,by rw [HW.out];exact hN.mono (by omega),by rw [HPL.out];exact hU.mono (by omega),hbw⟩
   ·exact((((((((((H2w.out.set 0 (by simp) _).set 1 (by simp) _).set 2 (by simp) _).set 3 (by simp) _).set 4 (by simp) _).set 5 (by simp) _).set 6 (by simp) _).set 7 (by simp) _).set 8 (by simp) _).set 9 (by simp) _).drew
   ·exact Got.drewT ((((((((((HG.out.far (p:=⟨w.heap.size+1,0,none⟩) hq1 _).far (p:=⟨w.heap.size+1,1,none⟩) hq1 _).far (p:=⟨w.heap.size+1,2,none⟩) hq1 _).far (p:=⟨w.heap.size+1,3,none⟩) hq1 _).far (p:=⟨w.heap.size+1,4,none⟩) hq1 _).far (p:=⟨w.heap.size+1,5,none⟩) hq1 _).far (p:=⟨w.heap.size+1,6,none⟩) hq1 _).far (p:=⟨w.heap.size+1,7,none⟩) hq1 _).far (p:=⟨w.heap.size+1,8,none⟩) hq1 _).far (p:=⟨w.heap.size+1,9,none⟩) hq1 _)
end
section
attribute [local simp] AllK KnowsV look Is
set_option maxRecDepth 100000 in
theorem RefTargets14 (x:Nd)(A:Option Addr)(c:Nat)(B:Option Addr)(c2:Nat)(w:World)(hx:NdR w A c B c2 x)(hs:sizeN x≤1099511627776):
  Calls Tryd.prog 52 #[.agg #[.int .i64 x.k,.int .i64 x.e,.int .i64 x.n,.slice A x.d.length c,.slice B x.ks.length c2]] w fun r w'=>∃B' c',r=.returned (.slice B' (targN x).length c')∧KsR w' B' (targN x)∧(targN x).length≤c'∧c'≤9223372036854775807∧Below w.heap.size w w':=by
 obtain⟨k,e,n,d,ks⟩:=x
 simp only [Nd.k,Nd.e,Nd.n,Nd.d,Nd.ks]
 have HX:=Lib.hid hx
 have HO:=Lib.hid hx.open
 clear hx
 by_cases hke:k=2∧e=7
 ·have HT:Hid (targN (.mk k e n d ks)=kk ks):=Lib.hid (by rw [targN_def,if_pos hke])
  obtain⟨rfl,rfl⟩:=hke
  have hs2:sizeN (.mk 2 7 n d ks)=1+d.length+sizeK ks:=by simp only [sizeN]
  rw [hs2] at hs
  have HKK:Hid (∀j,(kk (ks.take j)).length≤sizeK ks):=Lib.hid (fun j=>Nat.le_trans (kk_size _) (sizeK_take_le ks j))
  have hkl:=sizeK_length ks
  rw [HT.out]
  clear hs2
  go_enter Tryd.func52,Tryd.ntmps52
  go_wp2
  go_loopw [3,4] (fun s i wr=>∃j:Nat,j≤ks.length∧i=.int .i64 j∧OwnK w wr (w.heap.size+1) s (kk (ks.take j))∧Blk wr w.heap.size #[.int .i64 2,.int .i64 7,.int .i64 n,.slice A d.length c,.slice B ks.length c2]∧Below w.heap.size w wr) (fun _ i _=>ks.length-(intOf i).toNat)
  case atStart=>exact⟨0,by omega,rfl,by simpa [kk] using OwnK.empty _ _ _,Blk.fresh _ _ _,(Below.refl _ _).alloc (Nat.le_refl _) _⟩
  case round=>
   obtain⟨j,hj,rfl,hown,hB,hbr⟩:=hrel
   have HB:=Lib.hid hB
   have HR:=Lib.hid hbr
   have HOWN:=Lib.hid hown
   obtain⟨x1,y1,z1⟩:=hB
   clear hbr hown
   by_cases hlt:j<ks.length
   ·obtain⟨b,off,A',c',B',c2',rfl,k0,k1,k2,k3,k4,hsub⟩:=HX.out.kids.atIn HR.out (Nat.le_refl _) hlt
    have HKS:=Lib.hid hsub.kidsX
    have HKT:=Lib.hid (kk_take ks j hlt)
    have HN:Hid ((kk (ks.take j)).length+(ks[j]).ks.length≤1099511627776):=Lib.hid (by
     have h:=HKK.out (j+1)
     rw [HKT.out,List.length_append] at h
     omega)
    clear hsub k0 k1 k2 k3
    go_wp2_with (at_builtin;refine wpList_appK (W0:=w) rfl (.tmp 22) (.tmp 28) 35 rfl Tryd.underlying35 rfl HOWN.out rfl HKS.out.1 HKS.out.2.1 HKS.out.2.2 (Nat.le_refl _) HR.out HN.out z1 ?_;intro v1 w1 hg1 hb1)
    have HB1:=Lib.hid (HR.out.trans (hb1.mono (Nat.le_succ _)))
    have B1:=Lib.hid (HB.out.belowN hb1 (Nat.lt_succ_self _))
    go_roundw
    case rel=>exact⟨j+1,by omega,by go_num,by rw [HKT.out];exact hg1,B1.out,HB1.out⟩
    case measure=>simp [intOf];omega
   ·obtain rfl:j=ks.length:=by omega
    go_wp2
    obtain⟨B1,c1,rfl,s1,s2,s3,s4⟩:=HOWN.out.slice (Nat.le_refl _) HR.out
    go_ret
    rw [List.take_length] at *
    exact⟨B1,c1,rfl,s1,s2,s3,HR.out⟩
 ·have HT:Hid (targN (.mk k e n d ks)=ks):=Lib.hid (by rw [targN_def,if_neg hke])
  have hor:((k != 2)=true)∨((k != 2)=false∧(e != 7)=true):=by
   by_cases h1:k=2
   ·right;exact⟨by simpa using h1,by simpa using fun h=>hke ⟨h1,h⟩⟩
   ·left;simpa using h1
  clear hke
  rcases hor with t1|⟨t1,t2⟩ <;>
  (go_enter Tryd.func52,Tryd.ntmps52
   go_wp2
   go_ret
   refine⟨B,c2,by rw [HT.out];rfl,?_,by rw [HT.out];exact HO.out.2.2.2.2.2.2.2.2.1,HO.out.2.2.2.2.2.2.2.2.2.1,(Below.refl _ _).alloc (Nat.le_refl _) _⟩
   rw [HT.out]
   exact HX.out.kids.on ((Below.refl _ _).alloc (Nat.le_refl _) _) (Nat.le_refl _))
theorem ptrW_str14 (e n:Int)(d:List Int)(ks:List Nd)(o:Int):ptrW (.mk 1 e n d ks) o=encW ⟨0,if canO (.mk 1 e n d ks)=0 then -1 else o,((d.length / 8:Nat):Int),ks.length,0,0,false,0,0,0⟩:=by
 unfold ptrW ptrP
 simp only [Nd.k,Nd.d,Nd.ks]
 rw [if_neg (by decide),if_pos trivial]
theorem ptrW_lst14 (e n:Int)(d:List Int)(ks:List Nd)(o:Int):ptrW (.mk 2 e n d ks) o=encW ⟨1,o,0,0,e,if e=7 then canO (.mk 2 e n d ks)-1 else n,false,0,0,0⟩:=by
 unfold ptrW ptrP
 exact(if_neg (show ¬((2:Int)=0) by decide)).trans (congrArg encW (if_neg (show ¬((2:Int)=1) by decide)))
theorem RefShallow14 (x:Nd)(A:Option Addr)(c:Nat)(B:Option Addr)(c2:Nat)(hv:validN x=true)(hs:sizeN x≤1048576)(hk:x.k≠0)(hC:canO x≤536870911):∃k' d' p' e' c':Int,
  (∀w,NdR w A c B c2 x→Calls Tryd.prog 50 #[.agg #[.int .i64 x.k,.int .i64 x.e,.int .i64 x.n,.slice A x.d.length c,.slice B x.ks.length c2]] w fun r w'=>∃v u,r=.returned (.tuple #[v,.agg #[.int .i64 k',.int .i64 0,.int .i64 d',.int .i64 p',.int .i64 e',.int .i64 c',.bool false,.int .i64 0,.int .u32 0,.int .u32 0],u]) ∧
   Got w' w.heap.size 32 .u64 v (fillW x 0)∧Got w' w.heap.size 3 .i64 u (natsI (posL x))∧Below w.heap.size w w') ∧
  (k'=0∨k'=1)∧(∀o,ptrW x o=encW ⟨k',if k'=0∧d'=0∧p'=0 then -1 else o,d',p',e',c',false,0,0,0⟩)∧(∀o,-536870912≤o→o≤536870911→Vld ⟨k',o,d',p',e',c',false,0,0,0⟩):=by
 obtain⟨k,e,n,d,ks⟩:=x
 have hkk:=valid_k hv
 simp only [Nd.k,Nd.e,Nd.n,Nd.d,Nd.ks] at hkk hk ⊢
 rcases hkk with rfl|rfl|rfl
 ·exact absurd rfl hk
 ·obtain⟨rfl,rfl,h8,hd5,hk5⟩:=head_str hv
  refine⟨0,((d.length / 8:Nat):Int),(ks.length:Int),0,0,fun w hx=>Shallow14_str d ks A c B c2 w hx hv,.inl rfl,fun o=>?_,fun o h1 h2=>?_⟩
  ·rw [ptrW_str14]
   congr 2
   have hO:canO (.mk 1 0 0 d ks)=((d.length / 8+ks.length:Nat):Int):=rfl
   rw [hO]
   by_cases h:d.length / 8+ks.length=0
   ·rw [if_pos (by omega),if_pos ⟨rfl,by omega,by omega⟩]
   ·rw [if_neg (by omega),if_neg (by omega)]
  ·left
   simp only
   refine⟨trivial,by omega,by omega,by omega,by omega,by omega,by omega,?_⟩
   simp
 ·obtain⟨g1,g2,g3,g4,-,-⟩:=head_lst hv
  by_cases h7:e=7
  ·subst h7
   have hO:canO (.mk 2 7 n d ks)=1+(canO (.mk 2 7 n d ks)-1):=by omega
   have hn0:=(canO_size hv).1
   have hO1:1≤canO (.mk 2 7 n d ks):=by
    have h:canO (.mk 2 7 n d ks)=1+n*((uniD ks ks.length+uniP ks ks.length:Nat):Int):=by
     show canOf 2 7 n d ks=_
     unfold canOf
     rw [if_neg (show ¬((2:Int)=0) by decide),if_neg (show ¬((2:Int)=1) by decide),if_pos rfl]
    have:0≤n*((uniD ks ks.length+uniP ks ks.length:Nat):Int):=Int.mul_nonneg g1 (by omega)
    omega
   refine⟨1,0,0,7,canO (.mk 2 7 n d ks)-1,fun w hx=>Shallow14_cmp n d ks A c B c2 w hx hv hs _ hO,.inr rfl,fun o=>?_,fun o h1 h2=>?_⟩
   ·rw [ptrW_lst14,if_pos rfl,if_neg (by omega)]
   ·right;left
    simp only
    refine⟨trivial,by omega,by omega,trivial,trivial,by omega,by omega,by omega,by omega,?_⟩
    simp
  ·refine⟨1,0,0,e,n,fun w hx=>Shallow14_lst e n d ks A c B c2 w hx hv h7 (by omega),.inr rfl,fun o=>?_,fun o h1 h2=>?_⟩
   ·rw [ptrW_lst14,if_neg h7,if_neg (by omega)]
   ·right;left
    simp only
    refine⟨trivial,by omega,by omega,trivial,trivial,by omega,by omega,by omega,by omega,?_⟩
    simp
def placeF (ws:List Int)(a:Nat)(x:Nd):List Int:=ws.set a (ptrW x ((ws.length:Int)-a-1))++objW x
theorem place_nul {ws:List Int}{a:Nat}{x:Nd}(hk:x.k=0)(hv:validN x=true)(ha:a<ws.length)(hz:zat ws a=0):placeF ws a x=ws:=by
 obtain⟨k,e,n,d,ks⟩:=x
 simp only [Nd.k] at hk
 subst hk
 rw [head_nul hv]
 have h1:ptrW nd0 ((ws.length:Int)-a-1)=0:=rfl
 have h2:objW nd0=[]:=rfl
 rw [placeF,h1,h2,List.append_nil]
 apply ext_zat (by simp)
 intro i hi
 rw [zat_set _ _ _ _ ha]
 split
 ·rename_i h;rw [←h,hz]
 ·rfl
def outF (ws:List Int)(a:Nat)(x:Nd)(i:Nat):List Int:=(ws.set a (ptrW x ((ws.length:Int)-a-1))++fillW x i)++objK ((targN x).take i)
theorem fillW_length {x:Nd}(hv:validN x=true)(i:Nat)(hi:i≤(targN x).length):((fillW x i).length:Int)=canO x:=by
 have hl:∀i,i≤(targN x).length→(fillW x i).length=(fillW x 0).length:=by
  intro i
  induction i with
  | zero=>intro _;rfl
  | succ i ih=>
   intro h
   rw [←(fillW_step hv i (by omega)).2.2,List.length_set,ih (by omega)]
 rw [hl i hi,←hl (targN x).length (Nat.le_refl _),fillW_all hv,body_length hv]
theorem outF_length {x:Nd}(hv:validN x=true)(ws:List Int)(a i:Nat)(hi:i≤(targN x).length):((outF ws a x i).length:Int)=ws.length+canO x+canK ((targN x).take i):=by
 have h1:=fillW_length hv i hi
 have h2:=objK_length (l:=(targN x).take i) (fun y hy=>objW_length y (valid_targ hv y (List.mem_of_mem_take hy)))
 unfold outF
 rw [List.length_append,List.length_append,List.length_set]
 omega
theorem outF_step {x:Nd}(hv:validN x=true)(ws:List Int)(a i:Nat)(hi:i<(targN x).length):
  ws.length+(posL x).getD i 0<(outF ws a x i).length∧zat (outF ws a x i) (ws.length+(posL x).getD i 0)=0∧placeF (outF ws a x i) (ws.length+(posL x).getD i 0) (targN x)[i]=outF ws a x (i+1):=by
 obtain⟨h1,h2,h3⟩:=fillW_step hv i hi
 have hl:=outF_length hv ws a i (by omega)
 have hfl:=fillW_length hv i (by omega)
 have hsl:(ws.set a (ptrW x ((ws.length:Int)-a-1))).length=ws.length:=List.length_set
 refine⟨?_,?_,?_⟩
 ·unfold outF
  rw [List.length_append,List.length_append,hsl]
  omega
 ·unfold outF
  rw [zat_append_left _ _ _ (by rw [List.length_append,hsl];omega),zat_append_right _ _ _ (by omega),hsl,Nat.add_sub_cancel_left,h2]
 ·unfold placeF
  rw [hl]
  have e:(ws.length:Int)+canO x+canK ((targN x).take i)-((ws.length+(posL x).getD i 0:Nat):Int)-1=canO x+canK ((targN x).take i)-((posL x).getD i 0:Nat)-1:=by omega
  rw [e]
  unfold outF
  rw [set_left _ _ _ _ (by rw [List.length_append,hsl];omega),set_right _ _ _ _ (by omega),hsl,Nat.add_sub_cancel_left,h3,objK_take _ _ hi]
  simp only [List.append_assoc]
theorem outF_all {x:Nd}(hv:validN x=true)(ws:List Int)(a:Nat):outF ws a x (targN x).length=placeF ws a x:=by
 unfold outF placeF
 rw [fillW_all hv,List.take_length,objW_eq,List.append_assoc]
end
section
attribute [local simp] AllK KnowsV look Is
theorem got_empty14 {w:World}{base q:Nat}(hb:base≤w.heap.size)(hq:q=w.heap.size):Got (w.alloc (.cells #[] 32)) base 32 .u64 (.slice (some ⟨q,0,none⟩) 0 0) []:=hq ▸ Got.empty_made w 32 .u64 hb
theorem got_other14 {w:World}{base:Nat}{E:TypeId}{k:IntKind}{u:Value}{zs:List Int}(h:Got w base E k u zs){p:Addr}(hp:u.ownBlock=some p.block→False)(v:Value):Got (w.setCell p v) base E k u zs:=by
 refine⟨h.1,?_⟩
 rcases h.2 with h3|⟨g,cap,cur,hv,hg,hh,r⟩
 ·exact .inl h3
 ·exact .inr ⟨g,cap,cur,hv,hg,(Below.heap_setCell _ _ _ _ (fun e=>hp (by rw [hv,←e];rfl))).trans hh,r⟩
theorem wp_region_n12 {P:Program}{id:Nat}{o0 o1 o2 o3 o4 o5 o6 o7 o8 o9 o10 o11 t:Oper}{Q:Exit→Act→World→Prop}{a:Act}{w:World}(hm:P.follows .mixedOrders=true)(hB:chainAB a.tmps.size [o0,o1,o2,o3,o4,o5,o6,o7,o8,o9,o10,o11] t=true)
  (h:ChainA P #[o0,o1,o2,o3,o4,o5,o6,o7,o8,o9,o10,o11,t] [o0,o1,o2,o3,o4,o5,o6,o7,o8,o9,o10,o11] t 999 NoBlk a w.drew Q [o0,o1,o2,o3,o4,o5,o6,o7,o8,o9,o10,o11] 0 [] []):(Code.region id #[o0,o1,o2,o3,o4,o5,o6,o7,o8,o9,o10,o11,t] true).wp P Q a w:=
 wp_region_a [o0,o1,o2,o3,o4,o5,o6,o7,o8,o9,o10,o11] t 999 NoBlk rfl hm hB h
theorem canK_pos14 {l:List Nd}(h:∀y∈l,validN y=true):0≤canK l:=by
 induction l with
 | nil=>simp [canK]
 | cons y ys ih=>
  have h3:=(can_size y (h y (List.mem_cons_self ..))).1
  have h4:=ih (fun z hz=>h z (List.mem_cons_of_mem _ hz))
  simp only [canK]
  omega
def HoldF (l:List Int):Fact:=fun v w=>Holds w v l
theorem stable_holdf (l:List Int):stable (HoldF l):=fun v w w' h hb=>Holds.below h hb (Nat.le_refl _)
set_option maxHeartbeats 8000000 in
set_option maxRecDepth 100000 in
theorem RefPlace14:∀(x:Nd) (ws:List Int) (at':Nat) (Aw:Option Addr) (cw:Nat) (A:Option Addr) (c:Nat) (B:Option Addr) (c2:Nat) (w:World),NdR w A c B c2 x→validN x=true→sizeN x≤1048576 →
  Ri w .u64 Aw ws→(Aw=none→cw=0)→ws.length≤cw→cw≤maxLen→at'<ws.length→zat ws at'=0→(ws.length:Int)+canN x≤536870911 →
  Calls Tryd.prog 25 #[.slice Aw ws.length cw,.int .i64 at',.agg #[.int .i64 x.k,.int .i64 x.e,.int .i64 x.n,.slice A x.d.length c,.slice B x.ks.length c2]] w fun r w'=>∃v,r=.returned v∧Holds w' v (placeF ws at' x)∧Below w.heap.size w w':=by
 refine size_ind ?_
 intro x ih ws at' Aw cw A c B c2 w hx hv hs hws hwn hwc hwm hat hz hcan
 have HX:=Lib.hid hx
 have HI:=Lib.hid ih
 have HWS0:=Lib.hid hws
 have HWN:=Lib.hid hwn
 by_cases hk:x.k=0
 ·have HR:Hid (placeF ws at' x=ws):=Lib.hid (place_nul hk hv hat hz)
  have HBA:=Lib.hid (fun o=>(Below.refl w.heap.size w).alloc (Nat.le_refl _) o)
  have t1:(x.k==0)=true:=by simpa using hk
  clear hx ih hv hws hwn hz hk
  go_enter Tryd.func25,Tryd.ntmps25
  go_wp2
  go_ret
  exact⟨_,rfl,by rw [HR.out];exact⟨Aw,cw,rfl,HWS0.out.alloc _,HWN.out,hwc,hwm⟩,HBA.out _⟩
 have hcN:=canN_eq x
 have hcO:=(canO_size hv).1
 have hcK:0≤canK (targN x):=canK_pos14 (valid_targ hv)
 obtain⟨k',d',p',e',c',hsh,hk01,hpw,hvld⟩:=RefShallow14 x A c B c2 hv hs hk (by omega)
 have HSH:=Lib.hid hsh
 obtain⟨pt,hpt⟩:∃pt,ptrW x ((ws.length:Int)-at'-1)=pt:=⟨_,rfl⟩
 have hpw2:=hpw ((ws.length:Int)-at'-1)
 rw [hpt] at hpw2
 have HFL:Hid (((fillW x 0).length:Int)=canO x):=Lib.hid (fillW_length hv 0 (Nat.zero_le _))
 have HO0:Hid ((ws++fillW x 0).set at' pt=outF ws at' x 0):=Lib.hid (by
  rw [set_left _ _ _ _ hat,←hpt]
  simp [outF,objK])
 have HOL:Hid (∀i,i≤(targN x).length→((outF ws at' x i).length:Int)=ws.length+canO x+canK ((targN x).take i)):=Lib.hid (fun i hi=>outF_length hv ws at' i hi)
 have HOS:Hid (∀i (hi:i<(targN x).length),ws.length+(posL x).getD i 0<(outF ws at' x i).length∧zat (outF ws at' x i) (ws.length+(posL x).getD i 0)=0∧placeF (outF ws at' x i) (ws.length+(posL x).getD i 0) (targN x)[i]=outF ws at' x (i+1)):=Lib.hid (fun i hi=>outF_step hv ws at' i hi)
 have HOA:Hid (outF ws at' x (targN x).length=placeF ws at' x):=Lib.hid (outF_all hv ws at')
 have HPL:Hid ((posL x).length=(targN x).length):=Lib.hid (posL_length hv)
 have HTV:Hid (∀t∈targN x,validN t=true∧sizeN t<sizeN x∧sizeN t≤1048576):=Lib.hid (fun t ht=>⟨valid_targ hv t ht,targ_lt ht,by have:=targ_lt ht;omega⟩)
 have HCK:Hid (∀i (hi:i<(targN x).length),canK ((targN x).take i)+canN (targN x)[i]≤canK (targN x)∧0≤canK ((targN x).take i)):=Lib.hid (fun i hi=>by
  have h1:=canK_take (targN x) i hi
  have h2:=canK_append ((targN x).take (i+1)) ((targN x).drop (i+1))
  rw [List.take_append_drop] at h2
  have h3:=canK_pos14 (l:=(targN x).drop (i+1)) (fun y hy=>valid_targ hv y (List.mem_of_mem_drop hy))
  have h4:=canK_pos14 (l:=(targN x).take i) (fun y hy=>valid_targ hv y (List.mem_of_mem_take hy))
  omega)
 have HTG:=Lib.hid (fun w2 (h2:NdR w2 A c B c2 x)=>RefTargets14 x A c B c2 w2 h2 (by omega))
 have HB0:=Lib.hid (fun o=>(Below.refl w.heap.size w).alloc (Nat.le_refl _) o)
 have t1:(x.k==0)=false:=by simpa using hk
 have htl:(targN x).length≤1048576:=by
  have h1:=sizeK_length (targN x)
  have h2:=sizeK_targ x
  omega
 obtain⟨L,hL⟩:∃L,ws.length=L:=⟨_,rfl⟩
 obtain⟨C,hC⟩:∃C,(fillW x 0).length=C:=⟨_,rfl⟩
 have hC2:(C:Int)=canO x:=by rw [←hC];exact HFL.out
 obtain⟨i0,hi,hz0,hz1,hz2⟩:=info_parts int64_info
 have hLC:L+C≤536870911:=by omega
 have HCZ:Hid ((L:Int)+canO x+canK (targN x)≤536870911):=Lib.hid (by omega)
 rw [hL] at hpw2 hat HOL HOS
 have HL:=Lib.hid hL
 have hcase:∃oo:Int,-536870912≤oo∧oo≤536870911∧pt=encW ⟨k',oo,d',p',e',c',false,0,0,0⟩∧((k'=0∧d'=0∧p'=0∧oo=-1)∨(k'≠0∧oo=(L:Int)-at'-1)∨(k'=0∧d'≠0∧oo=(L:Int)-at'-1)∨(k'=0∧d'=0∧p'≠0∧oo=(L:Int)-at'-1)):=by
  by_cases h:k'=0∧d'=0∧p'=0
  ·exact⟨-1,by omega,by omega,by rw [hpw2,if_pos h],.inl ⟨h.1,h.2.1,h.2.2,rfl⟩⟩
  ·refine⟨(L:Int)-at'-1,by omega,by omega,by rw [hpw2,if_neg h],?_⟩
   omega
 obtain⟨oo,ho1,ho2,hpe,hc4⟩:=hcase
 have HEN:Hid (∀w2,Calls Tryd.prog 51 #[.agg #[.int .i64 k',.int .i64 oo,.int .i64 d',.int .i64 p',.int .i64 e',.int .i64 c',.bool false,.int .i64 0,.int .u32 0,.int .u32 0]] w2 fun r w'=>(∃b,r=.returned (.tuple #[.int .u64 pt,.bool b]))∧Below w2.heap.size w2 w'):=Lib.hid (fun w2=>by
  refine(RefEncode_any k' oo d' p' e' c' 0 0 0 false w2 (by decide) (by decide) (by decide)).mono ?_
  rintro r w' ⟨rfl,hb⟩
  have:encE ⟨k',oo,d',p',e',c',false,0,0,0⟩=pt:=by
   unfold encE okE
   rw [if_pos (decide_eq_true (hvld oo ho1 ho2)),hpe]
  exact⟨⟨okE ⟨k',oo,d',p',e',c',false,0,0,0⟩,by rw [this]⟩,hb⟩)
 have HPZ:Hid (∀i,zat (natsI (posL x)) i=((posL x).getD i 0:Nat)):=Lib.hid (fun i=>by simp [natsI,zat,List.getD_eq_getElem?_getD];cases (posL x)[i]?<;>rfl)
 have HNL:Hid ((natsI (posL x)).length=(targN x).length):=Lib.hid (by rw [natsI_length,HPL.out])
 clear hx ih hv hws hwn hz hk hsh hpw hpw2 hvld hpt hcN hcan hpe HPL
 generalize targN x=ts at *
 rw [hL] at hwc
 rw [hL]
 go_enter Tryd.func25,Tryd.ntmps25
 go_wp2_with fail
 refine(HSH.out _ (HX.out.on (HB0.out _) (Nat.le_refl _))).mono ?_
 rintro r w4 ⟨v4,u4,rfl,hg4,hu4,hb4⟩
 have HB4:=Lib.hid ((HB0.out (.cells #[.int .i64 x.k,.int .i64 x.e,.int .i64 x.n,.slice A x.d.length c,.slice B x.ks.length c2] 37)).trans (hb4.mono (by simp)))
 have HX4:=Lib.hid ((Blk.fresh w #[.int .i64 x.k,.int .i64 x.e,.int .i64 x.n,.slice A x.d.length c,.slice B x.ks.length c2] 37).below hb4)
 obtain⟨A4,c4,rfl,hl4,hm4,hr4,hn4⟩:=hg4.full
 have HR4:=Lib.hid hr4
 have HN4:=Lib.hid hn4
 have HU4:Hid (Got w4 (w.heap.size+1) 3 .i64 u4 (natsI (posL x))):=Lib.hid (hu4.mono (by simp))
 have HWS4:=Lib.hid (HWS0.out.below HB4.out (Nat.le_refl _))
 have hz4:w.heap.size+1≤w4.heap.size:=HX4.out.lt
 rw [hC]
 rw [hC] at hl4
 have HC:=Lib.hid hC
 clear hg4 hr4 hn4 hu4 hb4 hC hL
 have HUL:Hid (∀g,u4.ownBlock=some g→g<w4.heap.size):=Lib.hid (fun g hg=>(HU4.out.lt g hg).2)
 rcases hc4 with ⟨h1,h2,h3,h4⟩|⟨h1,h4⟩|⟨h1,h2,h4⟩|⟨h1,h2,h3,h4⟩
 focus
  subst h1 h2 h3 h4
  go_wp2_with (first
   | (at_builtin;refine wpList_appNn L rfl (.tmp 45) (.tmp 46) 22 rfl Tryd.underlying22 hi hz0 hz1 hz2 HL.out.symm rfl (got_empty14 (w:=w4.alloc _) (base:=w4.heap.size+1) (q:=w4.heap.size+1) (by simp) (by simp)) rfl ((HWS4.out.alloc _).alloc _) HWN.out (by unfold maxLen;simp;omega) (by simp;omega) (by simp) ?_;intro v1 w1 hg1 hb1)
   | (at_builtin;refine wpList_appNn C rfl (.tmp 47) (.tmp 48) 22 rfl Tryd.underlying22 hi hz0 hz1 hz2 HC.out.symm rfl hg1 rfl ((HR4.out.alloc _).below (B:=w4.heap.size+1) (((Below.refl (w4.heap.size+1) _).alloc (by simp) _).trans hb1) (by simp)) HN4.out (by simp only [List.nil_append];rw [HL.out];unfold maxLen;omega) (by simp only [List.nil_append];rw [HL.out];omega) (by have:=hb1.size;simp at this;omega) ?_;intro v2 w2 hg2 hb2;have hbb:=((Below.refl (w4.heap.size+1) _).alloc (by simp) _).trans (hb1.trans hb2);obtain⟨xp,yp,zp⟩:=(Blk.fresh w4 _ _).belowN hbb (by omega)))
  have HG2:=Lib.hid hg2
  have HB2:=Lib.hid ((HB4.out.alloc (by omega) _).trans (hbb.mono (by omega)))
  have HX2:=Lib.hid ((HX4.out.alloc _).belowN hbb (by omega))
  have HU2:=Lib.hid ((HU4.out.below ((Below.refl _ _).alloc (Nat.le_refl _) _) (Nat.le_refl _)).below hbb (by simp))
  clear hg1 hg2 hb1 hb2 hbb xp yp zp
 rotate_left
 focus
  have a1:(k'==0)=false:=by simpa using h1
  subst h4
  clear h1
  go_wp2_with (first
   | (at_builtin;refine wpList_appNn L rfl (.tmp 45) (.tmp 46) 22 rfl Tryd.underlying22 hi hz0 hz1 hz2 HL.out.symm rfl (got_empty14 (w:=w4.alloc _) (base:=w4.heap.size+1) (q:=w4.heap.size+1) (by simp) (by simp)) rfl ((HWS4.out.alloc _).alloc _) HWN.out (by unfold maxLen;simp;omega) (by simp;omega) (by simp) ?_;intro v1 w1 hg1 hb1)
   | (at_builtin;refine wpList_appNn C rfl (.tmp 47) (.tmp 48) 22 rfl Tryd.underlying22 hi hz0 hz1 hz2 HC.out.symm rfl hg1 rfl ((HR4.out.alloc _).below (B:=w4.heap.size+1) (((Below.refl (w4.heap.size+1) _).alloc (by simp) _).trans hb1) (by simp)) HN4.out (by simp only [List.nil_append];rw [HL.out];unfold maxLen;omega) (by simp only [List.nil_append];rw [HL.out];omega) (by have:=hb1.size;simp at this;omega) ?_;intro v2 w2 hg2 hb2;have hbb:=((Below.refl (w4.heap.size+1) _).alloc (by simp) _).trans (hb1.trans hb2);obtain⟨xp,yp,zp⟩:=(Blk.fresh w4 _ _).belowN hbb (by omega)))
  have HG2:=Lib.hid hg2
  have HB2:=Lib.hid ((HB4.out.alloc (by omega) _).trans (hbb.mono (by omega)))
  have HX2:=Lib.hid ((HX4.out.alloc _).belowN hbb (by omega))
  have HU2:=Lib.hid ((HU4.out.below ((Below.refl _ _).alloc (Nat.le_refl _) _) (Nat.le_refl _)).below hbb (by simp))
  clear hg1 hg2 hb1 hb2 hbb xp yp zp
 rotate_left
 focus
  have a1:(d'==0)=false:=by simpa using h2
  subst h1 h4
  clear h2
  go_wp2_with (first
   | (at_builtin;refine wpList_appNn L rfl (.tmp 45) (.tmp 46) 22 rfl Tryd.underlying22 hi hz0 hz1 hz2 HL.out.symm rfl (got_empty14 (w:=w4.alloc _) (base:=w4.heap.size+1) (q:=w4.heap.size+1) (by simp) (by simp)) rfl ((HWS4.out.alloc _).alloc _) HWN.out (by unfold maxLen;simp;omega) (by simp;omega) (by simp) ?_;intro v1 w1 hg1 hb1)
   | (at_builtin;refine wpList_appNn C rfl (.tmp 47) (.tmp 48) 22 rfl Tryd.underlying22 hi hz0 hz1 hz2 HC.out.symm rfl hg1 rfl ((HR4.out.alloc _).below (B:=w4.heap.size+1) (((Below.refl (w4.heap.size+1) _).alloc (by simp) _).trans hb1) (by simp)) HN4.out (by simp only [List.nil_append];rw [HL.out];unfold maxLen;omega) (by simp only [List.nil_append];rw [HL.out];omega) (by have:=hb1.size;simp at this;omega) ?_;intro v2 w2 hg2 hb2;have hbb:=((Below.refl (w4.heap.size+1) _).alloc (by simp) _).trans (hb1.trans hb2);obtain⟨xp,yp,zp⟩:=(Blk.fresh w4 _ _).belowN hbb (by omega)))
  have HG2:=Lib.hid hg2
  have HB2:=Lib.hid ((HB4.out.alloc (by omega) _).trans (hbb.mono (by omega)))
  have HX2:=Lib.hid ((HX4.out.alloc _).belowN hbb (by omega))
  have HU2:=Lib.hid ((HU4.out.below ((Below.refl _ _).alloc (Nat.le_refl _) _) (Nat.le_refl _)).below hbb (by simp))
  clear hg1 hg2 hb1 hb2 hbb xp yp zp
 rotate_left
 focus
  have a1:(p'==0)=false:=by simpa using h3
  subst h1 h2 h4
  clear h3
  go_wp2_with (first
   | (at_builtin;refine wpList_appNn L rfl (.tmp 45) (.tmp 46) 22 rfl Tryd.underlying22 hi hz0 hz1 hz2 HL.out.symm rfl (got_empty14 (w:=w4.alloc _) (base:=w4.heap.size+1) (q:=w4.heap.size+1) (by simp) (by simp)) rfl ((HWS4.out.alloc _).alloc _) HWN.out (by unfold maxLen;simp;omega) (by simp;omega) (by simp) ?_;intro v1 w1 hg1 hb1)
   | (at_builtin;refine wpList_appNn C rfl (.tmp 47) (.tmp 48) 22 rfl Tryd.underlying22 hi hz0 hz1 hz2 HC.out.symm rfl hg1 rfl ((HR4.out.alloc _).below (B:=w4.heap.size+1) (((Below.refl (w4.heap.size+1) _).alloc (by simp) _).trans hb1) (by simp)) HN4.out (by simp only [List.nil_append];rw [HL.out];unfold maxLen;omega) (by simp only [List.nil_append];rw [HL.out];omega) (by have:=hb1.size;simp at this;omega) ?_;intro v2 w2 hg2 hb2;have hbb:=((Below.refl (w4.heap.size+1) _).alloc (by simp) _).trans (hb1.trans hb2);obtain⟨xp,yp,zp⟩:=(Blk.fresh w4 _ _).belowN hbb (by omega)))
  have HG2:=Lib.hid hg2
  have HB2:=Lib.hid ((HB4.out.alloc (by omega) _).trans (hbb.mono (by omega)))
  have HX2:=Lib.hid ((HX4.out.alloc _).belowN hbb (by omega))
  have HU2:=Lib.hid ((HU4.out.below ((Below.refl _ _).alloc (Nat.le_refl _) _) (Nat.le_refl _)).below hbb (by simp))
  clear hg1 hg2 hb1 hb2 hbb xp yp zp
 rotate_left
 all_goals
  refine(HEN.out _).mono ?_
  rintro r w5 ⟨⟨bb,rfl⟩,hb5⟩
  have hg5:Got w5 (w4.heap.size+1) 32 .u64 v2 (ws++fillW x 0):=(HG2.out.below hb5 (Nat.le_refl _)).cast rfl (by simp)
  have HX5:=Lib.hid (HX2.out.below hb5)
  have HU5:=Lib.hid (HU2.out.below hb5 (Nat.le_refl _))
  have HB5:=Lib.hid (bel_on HB2.out hb5)
  have hLC2:(ws++fillW x 0).length=L+C:=by rw [List.length_append,HL.out,HC.out]
  obtain⟨A5,c5,rfl,-⟩:=hg5.slice
  obtain⟨g,rfl,hgb,hgl,-⟩:=hg5.addr (by rw [hLC2];omega)
  have hcell:=hg5.cell at' (by rw [hLC2];omega)
  have hfree:=hg5.free at'
  have hput:=hg5.put at' pt
  rw [HO0.out] at hput
  rw [hLC2] at hput ⊢
  have HP:=Lib.hid hput
  have hat2:(at':Int)<(L:Int)+(C:Int):=by omega
  have HX6:=Lib.hid (HX5.out.other (p:=⟨g,at',none⟩) (by show g≠w.heap.size;omega) (.int .u64 pt))
  have HU6:=Lib.hid (got_other14 HU5.out (p:=⟨g,at',none⟩) (fun h=>by have:=HUL.out g h;omega) (.int .u64 pt))
  have HB6:=Lib.hid (HB5.out.setCell (p:=⟨g,at',none⟩) (by show w.heap.size≤g;omega) (.int .u64 pt))
  obtain⟨x1,y1,z1⟩:=HX6.out
  clear hg5 hput hb5 hLC2 HG2 HX2 HU2 HB2 HX5 HU5 HB5
  go_wp2_with fail
  refine abs_world (F:=fun W=>Blk W w.heap.size #[.int .i64 x.k,.int .i64 x.e,.int .i64 x.n,.slice A x.d.length c,.slice B x.ks.length c2]∧Got W (w4.heap.size+1) 32 .u64 (.slice (some ⟨g,0,none⟩) (L+C) c5) (outF ws at' x 0)∧Got W (w.heap.size+1) 3 .i64 u4 (natsI (posL x))∧Below w.heap.size w W) ⟨HX6.out,HP.out,HU6.out,HB6.out⟩ ?_
  clear HX6 HP HU6 HB6 x1 y1 z1 hcell hfree hgl
  rintro W6 ⟨hx6,hp6,hu6,hb6⟩
  refine(HTG.out W6 (HX.out.on hb6 (Nat.le_refl _))).mono ?_
  rintro r w7 ⟨B5,c6,rfl,hks,hkl,hkc,hb7⟩
  have HK:=Lib.hid hks
  have hoo:=hp6.below hb7 (Nat.le_refl _)
  have HU7:=Lib.hid (hu6.below hb7 (Nat.le_refl _))
  have HB7:=Lib.hid (bel_on hb6 hb7)
  have hh7:Holds w7 (.slice (some ⟨g,0,none⟩) (L+C) c5) (outF ws at' x 0):=by
   obtain⟨A9,c9,he,h1,h2,h3,h4⟩:=hoo.full
   exact⟨A9,c9,he,h3,h4,h1,h2⟩
  have HH7:=Lib.hid hh7
  obtain⟨Au,cu,rfl,-,-,hru,-⟩:=HU7.out.full
  have HRU:=Lib.hid hru
  rw [HNL.out]
  clear hx6 hp6 hu6 hb6 hks hb7 hoo hh7 hru HU7
  go_wp2
  go_loopw [11,13] (fun v i wr=>∃j:Nat,j≤ts.length∧i=.int .i64 j∧Holds wr v (outF ws at' x j)∧Below w7.heap.size w7 wr) (fun _ i _=>ts.length-(intOf i).toNat)
  case atStart=>exact⟨0,by omega,rfl,HH7.out,Below.refl _ _⟩
  case round=>
   obtain⟨j,hj,rfl,⟨Ao,co,rfl,hro,hno,hlo,hmo⟩,hbr⟩:=hrel
   have HBR:=Lib.hid hbr
   have HRO:=Lib.hid hro
   have HNO:=Lib.hid hno
   by_cases hlt:j<ts.length
   ·obtain⟨b,off,A',c',B',c2',rfl,k0,k1,k2,k3,k4,hsub⟩:=(HK.out.on hbr (Nat.le_refl _)).at hlt
    have hj1:(j:Int)<(ts.length:Int):=by omega
    obtain⟨ba,oa,rfl,hca⟩:=(HRU.out.below hbr (Nat.le_refl _)).at (i:=j) (by rw [HNL.out];exact hlt)
    have hcj:=hca j (by rw [HNL.out];exact hlt)
    rw [HPZ.out j] at hcj
    obtain⟨s1,s2,s3⟩:=HOS.out j hlt
    have hol:=HOL.out j (by omega)
    obtain⟨q1,q2⟩:=HCK.out j hlt
    have hcz:=HCZ.out
    obtain⟨v1,v2,v3⟩:=HTV.out ts[j] (List.getElem_mem hlt)
    obtain⟨ps,hps⟩:∃ps,(posL x).getD j 0=ps:=⟨_,rfl⟩
    rw [hps] at hcj s1 s2 s3
    have hbl:b<wr.heap.size:=World.block_lt_of_cell? wr ⟨b,off+j*5,none⟩ k0
    have hal:ba<wr.heap.size:=World.block_lt_of_cell? wr ⟨ba,oa+j,none⟩ hcj
    have HAC:Hid (∀wc,Below wr.heap.size wr wc→wc.cell? ⟨ba,oa+j,none⟩=some (.int .i64 ps)):=Lib.hid (fun wc h=>(h.cell (p:=⟨ba,oa+j,none⟩) hal).trans hcj)
    have hK:=fun (o:Nat) wc (h:Below wr.heap.size wr wc)=>h.cell (p:=⟨b,o,none⟩) hbl
    have HKC:Hid (∀wc,Below wr.heap.size wr wc→wc.cell? ⟨b,off+j*5,none⟩=some (.int .i64 (ts[j]).k)∧wc.cell? ⟨b,off+j*5+1,none⟩=some (.int .i64 (ts[j]).e)∧wc.cell? ⟨b,off+j*5+2,none⟩=some (.int .i64 (ts[j]).n) ∧
      wc.cell? ⟨b,off+j*5+3,none⟩=some (.slice A' (ts[j]).d.length c')∧wc.cell? ⟨b,off+j*5+4,none⟩=some (.slice B' (ts[j]).ks.length c2')):=Lib.hid (fun wc h=>⟨(hK _ wc h).trans k0,(hK _ wc h).trans k1,(hK _ wc h).trans k2,(hK _ wc h).trans k3,(hK _ wc h).trans k4⟩)
    have HPC:Hid (∀wc,Below wr.heap.size wr wc→Calls Tryd.prog 25 #[.slice Ao (outF ws at' x j).length co,.int .i64 ((L+ps:Nat):Int),.agg #[.int .i64 ts[j].k,.int .i64 ts[j].e,.int .i64 ts[j].n,.slice A' ts[j].d.length c',.slice B' ts[j].ks.length c2']] wc fun r w'=>∃v,r=.returned v∧Holds w' v (outF ws at' x (j+1))∧Below wc.heap.size wc w'):=Lib.hid (fun wc h=>by
     rw [←s3]
     exact HI.out ts[j] v2 (outF ws at' x j) (L+ps) Ao co A' c' B' c2' wc (hsub.on h (Nat.le_refl _)) v1 v3 (HRO.out.below h (Nat.le_refl _)) HNO.out hlo hmo s1 s2 (by omega))
    have q3:=(can_size ts[j] v1).1
    have HBD:Hid (L+ps≤536870911):=Lib.hid (by omega)
    clear k0 k1 k2 k3 k4 hsub hca hcj s1 s2 s3 hol q1 q2 q3 hcz v1 v2 v3 hK hps hbl hal hbr hro hno
    generalize (outF ws at' x j).length=lo at *
    generalize ts[j]=tj at *
    go_wp2_with fail
    refine wp_region_n12 (by kernel_rfl) (by kernel_rfl) ?_
    refine n_val (u:=?_) [11] (by kernel_rfl) rfl (by kernel_rfl) trivial (fun ρ wc hbc hcn hk=>?_) ?_;rotate_left
    ·obtain⟨hcn,-⟩:=hcn
     simp at hk
     go_simp
     rfl
    refine n_val (u:=?_) [10] (by kernel_rfl) rfl (by kernel_rfl) trivial (fun ρ wc hbc hcn hk=>?_) ?_;rotate_left
    ·obtain⟨hcn,-⟩:=hcn
     simp at hk
     go_simp
     rfl
    refine n_val (u:=?_) [9] (by kernel_rfl) rfl (by kernel_rfl) trivial (fun ρ wc hbc hcn hk=>?_) ?_;rotate_left
    ·obtain⟨hcn,-⟩:=hcn
     simp at hk
     go_simp
     rfl
    refine n_val (u:=?_) [13] (by kernel_rfl) rfl (by kernel_rfl) trivial (fun ρ wc hbc hcn hk=>?_) ?_;rotate_left
    ·obtain⟨hcn,-⟩:=hcn
     simp at hk
     go_simp
     rfl
    refine n_val (u:=?_) [68,69] (by kernel_rfl) rfl (by kernel_rfl) trivial (fun ρ wc hbc hcn hk=>?_) ?_;rotate_left
    ·obtain⟨hcn,-⟩:=hcn
     simp at hk
     go_simp
     rfl
    refine n_val (u:=?_) [70] (by kernel_rfl) rfl (by kernel_rfl) trivial (fun ρ wc hbc hcn hk=>?_) ?_;rotate_left
    ·obtain⟨hcn,-⟩:=hcn
     simp at hk
     have ha:=HAC.out wc ⟨hbc.os,hbc.tape,hbc.output,hbc.size,hbc.block⟩
     go_simp
     rfl
    refine n_val (u:=.int .i64 ((L+ps:Nat):Int)) [67,71] (by kernel_rfl) rfl (by kernel_rfl) trivial (fun ρ wc hbc hcn hk=>?_) ?_
    ·obtain⟨hcn,-⟩:=hcn
     simp at hk
     have hb:=HBD.out
     go_simp
     rw [IntKind.wrap_i64]
     omega
    refine n_val (u:=?_) [12] (by kernel_rfl) rfl (by kernel_rfl) trivial (fun ρ wc hbc hcn hk=>?_) ?_;rotate_left
    ·obtain⟨hcn,-⟩:=hcn
     simp at hk
     go_simp
     rfl
    refine n_val (u:=?_) [13] (by kernel_rfl) rfl (by kernel_rfl) trivial (fun ρ wc hbc hcn hk=>?_) ?_;rotate_left
    ·obtain⟨hcn,-⟩:=hcn
     simp at hk
     go_simp
     rfl
    refine n_val (u:=?_) [73,74] (by kernel_rfl) rfl (by kernel_rfl) trivial (fun ρ wc hbc hcn hk=>?_) ?_;rotate_left
    ·obtain⟨hcn,-⟩:=hcn
     simp at hk
     go_simp
     rfl
    refine n_val (u:=?_) [75] (by kernel_rfl) rfl (by kernel_rfl) trivial (fun ρ wc hbc hcn hk=>?_) ?_;rotate_left
    ·obtain⟨hcn,-⟩:=hcn
     simp at hk
     obtain⟨k0,k1,k2,k3,k4⟩:=HKC.out wc ⟨hbc.os,hbc.tape,hbc.output,hbc.size,hbc.block⟩
     go_simp
     rfl
    refine n_call (T:=HoldF (outF ws at' x (j+1))) 25 [66,72,76] (by kernel_rfl) rfl (by kernel_rfl) trivial (stable_holdf _) (fun ρ wc hbc hcn hk=>?_) ?_
    ·obtain⟨hcn,hfn⟩:=hcn
     simp at hk
     refine⟨_,by go_simp;rfl,?_⟩
     refine(HPC.out wc ⟨hbc.os,hbc.tape,hbc.output,hbc.size,hbc.block⟩).mono ?_
     rintro e w' ⟨v,rfl,hh,hbq⟩
     exact⟨_,rfl,hh,hbq⟩
    refine a_end_lit 79 (by kernel_rfl) (fun ff w9 hb9 hk=>?_)
    have hh9:Holds w9 (ff 77) (outF ws at' x (j+1)):=allN_at10d hk 77 (by decide) (by decide)
    simp [AllN] at hk
    simp only [frameL,hk,Nat.zero_add,Nat.reduceAdd]
    have hb9':Below wr.heap.size wr w9:=by
     have:=keeps_none hb9
     exact⟨this.os,this.tape,this.output,this.size,this.block⟩
    have HB9:=Lib.hid (bel_on HBR.out hb9')
    have HH9:=Lib.hid hh9
    clear hb9 hk hb9' hh9
    generalize ff 77=v77 at *
    go_wp2
    go_roundw
    case rel=>exact⟨j+1,by omega,by go_num,HH9.out,HB9.out⟩
    case measure=>simp [intOf];omega
   ·obtain rfl:j=ts.length:=by omega
    go_wp2
    go_ret
    exact⟨_,rfl,by rw [←HOA.out];exact⟨Ao,co,rfl,HRO.out,HNO.out,hlo,hmo⟩,HB7.out.trans (HBR.out.mono HB7.out.size)⟩
end
end Go.Proofs.YtclpapddejgpnaaDoor
