/- The texts Ref14d (what is wanted of them), one after the other. -/
import Derived.Test.YtfaflahfjgnphaaGreatDoorMg8
import Derived.Test.YtfaflahfjgnphaaGreatDoorMg18
namespace Go.Proofs.YtfaflahfjgnphaaGreatDoor
open Go.ChangeShapes Go.WideShapes Go.ChangeAt Go.RowKit
set_option linter.unusedVariables false
set_option linter.unusedSimpArgs false
set_option maxRecDepth 100000
section
attribute [local simp] AllK KnowsV look Is
def elsO (a b:Nat)(l:List Nd):List Int:=l.flatMap (fun y=>padW y.d a++List.replicate b 0)
theorem elsO_snoc (a b:Nat)(l:List Nd)(y:Nd):elsO a b (l++[y])=elsO a b l++(padW y.d a++List.replicate b 0):=by simp [elsO]
theorem elsO_length {a b:Nat}:∀{l:List Nd},(∀y∈l,y.d.length≤8*a)→(elsO a b l).length=l.length*(a+b)
 | [],_=>by simp [elsO]
 | y::ys,h=>by
  have ih:=elsO_length (a:=a) (b:=b) (l:=ys) (fun z hz=>h z (List.mem_cons_of_mem _ hz))
  have e:elsO a b (y::ys)=(padW y.d a++List.replicate b 0)++elsO a b ys:=by simp [elsO]
  rw [e,List.length_append,List.length_append,padW_length (h y (List.mem_cons_self ..)),List.length_replicate,ih,List.length_cons,Nat.add_mul]
  omega
theorem elsP_zero (a b:Nat):∀(ys:List Nd),(∀y∈ys,y.ks.length≤b)→elsP a b ys (List.replicate (kk ys).length 0)=elsO a b ys
 | [],_=>rfl
 | y::ys,h=>by
  have hk:kk (y::ys)=y.ks++kk ys:=by simp [kk]
  have h1:=h y (List.mem_cons_self ..)
  have ih:=elsP_zero a b ys (fun z hz=>h z (List.mem_cons_of_mem _ hz))
  have e:elsO a b (y::ys)=(padW y.d a++List.replicate b 0)++elsO a b ys:=by simp [elsO]
  have e1:(List.replicate (kk (y::ys)).length (0:Int)).take y.ks.length=List.replicate y.ks.length 0:=by rw [hk,List.take_replicate,List.length_append];congr 1;omega
  have e2:(List.replicate (kk (y::ys)).length (0:Int)).drop y.ks.length=List.replicate (kk ys).length 0:=by rw [hk,List.drop_replicate,List.length_append];congr 1;omega
  have e3:List.replicate b (0:Int)=List.replicate y.ks.length 0++List.replicate (b-y.ks.length) 0:=by rw [List.replicate_append_replicate];congr 1;omega
  simp only [elsP]
  rw [e1,e2,ih,e,e3]
  simp only [List.append_assoc]
theorem posE_snoc (a b:Nat):∀(l:List Nd) (s:Nat) (y:Nd),posE a b s (l++[y])=posE a b s l++posS (s+l.length*(a+b)+a) y.ks.length
 | [],s,y=>by simp [posE,posS]
 | x::xs,s,y=>by
  simp only [List.cons_append,posE,posE_snoc a b xs,List.append_assoc,List.length_cons]
  rw [show s+a+b+xs.length*(a+b)+a=s+(xs.length+1)*(a+b)+a by rw [Nat.add_mul];omega]
theorem fillW_cmp {n:Int}{d:List Int}{ks:List Nd}(hv:validN (.mk 2 7 n d ks)=true):fillW (.mk 2 7 n d ks) 0=tagW n (uniD ks ks.length) (uniP ks ks.length)::elsO (uniD ks ks.length) (uniP ks ks.length) ks:=by
 unfold fillW
 rw [List.take_zero,List.nil_append,Nat.sub_zero,targN_mk,if_pos ⟨rfl,rfl⟩,←elsP_zero _ _ ks (fun y hy=>(comp_fit hv y hy).2)]
 rfl
theorem tag_vld {n:Int}{d:List Int}{ks:List Nd}(hv:validN (.mk 2 7 n d ks)=true):Vld ⟨0,n,(uniD ks ks.length:Nat),(uniP ks ks.length:Nat),0,0,false,0,0,0⟩:=by
 obtain⟨g1,g2,-⟩:=head_lst hv
 obtain⟨h1,h2⟩:=uni_bd hv
 left
 simp only
 refine⟨trivial,by omega,by omega,by omega,by omega,by omega,by omega,?_⟩
 simp
theorem got_one14 (w:World)(y:Int){base:Nat}(hb:base≤w.heap.size):Got (w.alloc (.cells #[.int .u64 y] 39)) base 39 .u64 (.slice (some ⟨w.heap.size,0,none⟩) 1 1) [y]:=
 ⟨rfl,.inr ⟨w.heap.size,1,_,rfl,hb,heap_alloc_new _ _,Nat.le_refl _,by unfold maxLen;omega,rfl,rfl⟩⟩
set_option maxHeartbeats 4000000 in
set_option maxRecDepth 100000 in
theorem Shallow14_cmp (n:Int)(d:List Int)(ks:List Nd)(A:Option Addr)(c:Nat)(B:Option Addr)(c2:Nat)(w:World)(hx:NdR w A c B c2 (.mk 2 7 n d ks))(hv:validN (.mk 2 7 n d ks)=true)(hs:sizeN (.mk 2 7 n d ks)≤1048576)(S:Int)(hS:canO (.mk 2 7 n d ks)=1+S):
  Calls Tryz.prog 67 #[.agg #[.int .i64 2,.int .i64 7,.int .i64 n,.slice A d.length c,.slice B ks.length c2]] w fun r w'=>∃v u,r=.returned (.tuple #[v,.agg #[.int .i64 1,.int .i64 0,.int .i64 0,.int .i64 0,.int .i64 7,.int .i64 S,.bool false,.int .i64 0,.int .u32 0,.int .u32 0],u]) ∧
   Got w' w.heap.size 39 .u64 v (fillW (.mk 2 7 n d ks) 0)∧Got w' w.heap.size 3 .i64 u (natsI (posL (.mk 2 7 n d ks)))∧Below w.heap.size w w':=by
 obtain⟨i0,hi,hz0,hz1,hz2⟩:=info_parts int64_info
 obtain⟨j0,gj,gj0,gj1,gj2⟩:=info_parts int_info14
 obtain⟨g1,g2,-,-,g5,-⟩:=head_lst hv
 obtain⟨-,g8⟩:=g5 (by decide)
 have hfit:=comp_fit hv
 obtain⟨hu1,hu2⟩:=uni_bd hv
 have hvt:=tag_vld hv
 have HX:=Lib.hid hx
 have HKS:=Lib.hid hx.kids
 have HB0:=Lib.hid (fun o1 o2 o3=>(((Below.refl w.heap.size w).alloc (Nat.le_refl _) o1).alloc (by simp) o2).alloc (by simp;omega) o3)
 have hfl:=fillW_cmp hv
 have HUN:=Lib.hid (fun w2 (h2:NdR w2 A c B c2 (.mk 2 7 n d ks))=>RefUniform11_any (.mk 2 7 n d ks) A c B c2 w2 h2 (by omega))
 simp only [Nd.k,Nd.e,Nd.n,Nd.d,Nd.ks] at HUN
 have hkl:ks.length≤1048576:=by
  simp only [sizeN] at hs
  have:=sizeK_length ks
  omega
 have hO:canO (.mk 2 7 n d ks)=1+n*((uniD ks ks.length+uniP ks ks.length:Nat):Int):=by
  show canOf 2 7 n d ks=_
  unfold canOf
  rw [if_neg (show ¬((2:Int)=0) by decide),if_neg (show ¬((2:Int)=1) by decide),if_pos rfl]
 have HPL:Hid (posL (.mk 2 7 n d ks)=posE (uniD ks ks.length) (uniP ks ks.length) 1 ks):=Lib.hid rfl
 have htw:encE ⟨0,n,(uniD ks ks.length:Nat),(uniP ks ks.length:Nat),0,0,false,0,0,0⟩=tagW n (uniD ks ks.length) (uniP ks ks.length):=by
  unfold encE okE
  rw [if_pos (decide_eq_true hvt)]
  rfl
 generalize posL (.mk 2 7 n d ks)=pl at *
 generalize fillW (.mk 2 7 n d ks) 0=fb at *
 generalize uniD ks ks.length=X at *
 generalize uniP ks ks.length=b at *
 obtain⟨tg,htg⟩:∃tg,tagW n X b=tg:=⟨_,rfl⟩
 rw [htg] at hfl htw
 have HW:=Lib.hid hfl
 have HEN:=Lib.hid (fun w2=>RefEncode_any 0 n X b 0 0 0 0 0 false w2 (by decide) (by decide) (by decide))
 rw [htw] at HEN
 have hSn:S=((ks.length*(X+b):Nat):Int):=by
  rw [hO,←g8] at hS
  rw [Int.natCast_mul]
  omega
 have HSN:=Lib.hid hSn
 have HLE:Hid (∀j,j≤ks.length→(elsO X b (ks.take j)).length=j*(X+b)):=Lib.hid (fun j hj=>by
  rw [elsO_length (fun y hy=>(hfit y (List.mem_of_mem_take hy)).1),List.length_take]
  congr 1
  omega)
 have hmb:∀j,j≤ks.length→j*(X+b)≤1048576*131070:=fun j hj=>Nat.mul_le_mul (by omega) (by omega)
 have HMB:=Lib.hid hmb
 have HES:Hid (∀j (hj:j<ks.length),elsO X b (ks.take (j+1))=elsO X b (ks.take j)++(padW (ks[j]).d X++List.replicate b 0)):=Lib.hid (fun j hj=>by rw [List.take_succ_eq_append_getElem hj,elsO_snoc])
 have HPS:Hid (∀j (hj:j<ks.length),posE X b 1 (ks.take (j+1))=posE X b 1 (ks.take j)++posS (1+j*(X+b)+X) (ks[j]).ks.length):=Lib.hid (fun j hj=>by
  rw [List.take_succ_eq_append_getElem hj,posE_snoc,List.length_take]
  rw [show min j ks.length=j by omega])
 have HFIT:=Lib.hid hfit
 have HPSL:Hid (∀j,(posE X b 1 (ks.take j)).length≤1048576):=Lib.hid (fun j=>by
  rw [posE_length]
  have h1:=kk_size (ks.take j)
  have h2:=sizeK_take_le ks j
  simp only [sizeN] at hs
  omega)
 clear hx hv hfl hfit htw hO hS hSn htg g5 hvt hmb hs
 go_enter Tryz.func67,Tryz.ntmps67
 go_wp2_with fail
 refine abs_world (F:=fun W=>Blk W w.heap.size #[.int .i64 2,.int .i64 7,.int .i64 n,.slice A d.length c,.slice B ks.length c2]∧Blk W (w.heap.size+1) #[.int .i64 0,.int .i64 0,.int .i64 0,.int .i64 0,.int .i64 0,.int .i64 0,.bool false,.int .i64 0,.int .u32 0,.int .u32 0]∧Blk W (w.heap.size+1+1) #[.int .i64 1,.int .i64 0,.int .i64 0,.int .i64 0,.int .i64 7,.int .i64 n,.bool false,.int .i64 0,.int .u32 0,.int .u32 0]∧Below w.heap.size w W) ⟨?_,?_,?_,?_⟩ ?_
 ·exact((Blk.fresh _ _ _).alloc _).alloc _
 ·exact(Blk.new (by simp)).alloc _
 ·exact Blk.new (by simp)
 ·exact HB0.out _ _ _
 rintro W ⟨hB1,hB2,hB3,hbw⟩
 have hz3:w.heap.size+1+1+1≤W.heap.size:=hB3.lt
 refine(HUN.out W (HX.out.on hbw (Nat.le_refl _))).mono ?_
 rintro r w4 ⟨rfl,hb4⟩
 have hb4w:=bel_on hbw hb4
 have hB1':=hB1.below hb4
 have hB2':=hB2.below hb4
 have hB3':=hB3.below hb4
 have hz4:=hb4.size
 clear hB1 hB2 hB3 hbw hb4
 obtain⟨x1,y1,z1⟩:=hB1'
 go_wp2_with fail
 refine(HEN.out w4).mono ?_
 rintro r w5 ⟨rfl,hb5⟩
 have H1:=Lib.hid ((show Blk w4 _ _ from ⟨x1,y1,z1⟩).below hb5)
 have H2:=Lib.hid (hB2'.below hb5)
 have H3:=Lib.hid (hB3'.below hb5)
 have HB:=Lib.hid (bel_on hb4w hb5)
 have hz5:=hb5.size
 clear hB2' hB3' hb4w hb5 x1 y1 z1
 have hG0:Got (w5.alloc (.cells #[.int .u64 tg] 39)) (w.heap.size+1+1+1) 39 .u64 (.slice (some ⟨w5.heap.size,0,none⟩) 1 1) (tg::elsO X b (ks.take 0)):=got_one14 w5 tg (by omega)
 have HG0:=Lib.hid hG0
 have HAL:=Lib.hid (fun o=>(Below.refl w5.heap.size w5).alloc (Nat.le_refl _) o)
 clear hG0
 obtain⟨x1,y1,z1⟩:=(H1.out.alloc (.cells #[.int .u64 tg] 39))
 go_wp2
 go_loopw [6,15,16] (fun u v i wr=>∃j:Nat,j≤ks.length∧i=.int .i64 j∧Got wr (w.heap.size+1+1+1) 39 .u64 v (tg::elsO X b (ks.take j))∧Got wr (w.heap.size+1+1+1) 3 .i64 u (natsI (posE X b 1 (ks.take j)))∧Apart v u∧Below (w.heap.size+1+1+1) w5 wr) (fun _ _ i _=>ks.length-(intOf i).toNat)
 case atStart=>exact⟨0,by omega,rfl,HG0.out,by simpa [posE,natsI] using Got.empty _ _ _ _,apart_none _,(HAL.out _).mono (by omega)⟩
 case round=>
  clear x1 y1 z1
  obtain⟨j,hj',rfl,hg,hu,hap,hbr⟩:=hrel
  have HG:=Lib.hid hg
  have HU:=Lib.hid hu
  have HAP:=Lib.hid hap
  have HBR:=Lib.hid hbr
  have hsz:=hbr.size
  have HBW:Hid (Below w.heap.size w wr):=Lib.hid (HB.out.trans (hbr.mono (by omega)))
  have B1:=H1.out.belowN hbr (by omega)
  obtain⟨x1,y1,z1⟩:=B1
  clear hg hu hap hbr
  by_cases hlt:j<ks.length
  ·have hj1:(j:Int)<(ks.length:Int):=by omega
   obtain⟨b',off,A',c',B',c2',rfl,k0w,k1w,k2w,k3w,k4w,hsub⟩:=HKS.out.at hlt
   have hb'lt:b'<w.heap.size:=World.block_lt_of_cell? w ⟨b',off+j*5,none⟩ k0w
   have HES1:=Lib.hid (HES.out j hlt)
   have HPS1:=Lib.hid (HPS.out j hlt)
   have HPL1:=Lib.hid (HPSL.out (j+1))
   rw [HPS1.out,List.length_append,posS_length] at HPL1
   obtain⟨hf1,hf2⟩:=HFIT.out ks[j] (List.getElem_mem hlt)
   generalize ks[j]=y at *
   obtain⟨yk,ye,yn,yd,yks⟩:=y
   simp only [Nd.k,Nd.e,Nd.n,Nd.d,Nd.ks] at k0w k1w k2w k3w k4w HES1 HPS1 HPL1 hf1 hf2
   have HSO:=Lib.hid hsub.open
   have HK3:Hid (∀W',Below w.heap.size w W'→W'.cell? ⟨b',off+j*5+3,none⟩=some (.slice A' yd.length c')):=Lib.hid (fun W' h=>(h.cell (p:=⟨b',off+j*5+3,none⟩) hb'lt).trans k3w)
   have HK4:Hid (∀W',Below w.heap.size w W'→W'.cell? ⟨b',off+j*5+4,none⟩=some (.slice B' yks.length c2')):=Lib.hid (fun W' h=>(h.cell (p:=⟨b',off+j*5+4,none⟩) hb'lt).trans k4w)
   have HPD:=Lib.hid (fun w2 (hb:Below w.heap.size w w2)=>RefPadded14 A' c' yd X w2 (HSO.out.2.2.2.1.below hb (Nat.le_refl _)) HSO.out.2.2.2.2.1 HSO.out.2.2.2.2.2.2.2.1 hf1 (by omega))
   have HPW:Hid ((padW yd X).length=X):=Lib.hid (padW_length hf1)
   generalize padW yd X=pw at *
   clear k0w k1w k2w k3w k4w hsub
   have k3:=HK3.out wr HBW.out
   have hLJ:=HLE.out j (by omega)
   have hMJ:=HMB.out (j+1) (by omega)
   have hMJ2:(j+1)*(X+b)=j*(X+b)+(X+b):=by rw [Nat.add_mul,Nat.one_mul]
   obtain⟨M,hM⟩:∃M,j*(X+b)=M:=⟨_,rfl⟩
   rw [hM] at hLJ hMJ2 HPS1
   have hMb:M+(X+b)≤1048576*131070:=by omega
   have HLJ:=Lib.hid hLJ
   have HM:=Lib.hid hM
   clear hLJ hMJ hMJ2 hM
   have hszz:w.heap.size+1+1+1≤wr.heap.size:=by omega
   go_wp2_with fail
   refine(HPD.out wr HBW.out).mono ?_
   rintro r w8 ⟨v8,rfl,hg8,hb8⟩
   obtain⟨A8,c8,rfl,hl8,hm8,hr8,hn8⟩:=hg8.full
   have hg8':=HG.out.below hb8 (Nat.le_refl _)
   have hu8':=HU.out.below hb8 (Nat.le_refl _)
   have HR8:=Lib.hid hr8
   have HN8:=Lib.hid hn8
   have HBR8:=Lib.hid (HBR.out.trans (hb8.mono hszz))
   have hz8:=hb8.size
   clear hg8 hr8 hn8 hl8 hm8 hb8 k3 x1 y1 z1
   have hne:u15≠.slice none 0 0:=by
    intro h
    obtain⟨A5,c5,h5,-⟩:=hg8'.slice
    rw [h] at h5
    injection h5 with h6 h7
    simp at h7
   go_wp2_with (at_builtin;refine wpList_appT rfl (.tmp 104) (.tmp 112) 25 rfl Tryz.underlying25 hi hz0 hz1 hz2 (v:=u15) rfl hg8' hu8' HAP.out rfl HR8.out HN8.out (.inr hne) (by rw [List.length_cons,HLJ.out,HPW.out];unfold maxLen;omega) (by rw [List.length_cons,HLJ.out,HPW.out];omega) (Nat.le_trans hszz hz8) ?_;intro v9 w9 hg9 hu9 hap9 hb9)
   have HG9:=Lib.hid hg9
   have HU9:=Lib.hid hu9
   have HAP9:=Lib.hid hap9
   have HBR9:=Lib.hid (HBR8.out.trans hb9)
   clear hg9 hu9 hap9 hb9 hg8' hu8' hne
   go_loopw [6,15,17] (fun u v i wi=>∃k:Nat,k≤b∧i=.int .i64 k∧Got wi (w.heap.size+1+1+1) 39 .u64 v (((tg::elsO X b (ks.take j))++pw)++List.replicate k 0)∧Got wi (w.heap.size+1+1+1) 3 .i64 u (natsI (posE X b 1 (ks.take j)++posS (1+M+X) (min k yks.length)))∧Apart v u∧Below (w.heap.size+1+1+1) w5 wi) (fun _ _ i _=>b-(intOf i).toNat)
   case atStart=>exact⟨0,by omega,rfl,by simpa using HG9.out,by simpa [posS] using HU9.out,HAP9.out,HBR9.out⟩
   case round=>
    rename World=>wi
    obtain⟨k,hk,rfl,hg,hu,hap,hbr⟩:=hrel
    have HG:=Lib.hid hg
    have HU:=Lib.hid hu
    have HAP:=Lib.hid hap
    have HBR:=Lib.hid hbr
    have hsz':=hbr.size
    have HBW:Hid (Below w.heap.size w wi):=Lib.hid (HB.out.trans (hbr.mono (by omega)))
    have k4:=HK4.out wi HBW.out
    obtain⟨x1,y1,z1⟩:=H1.out.belowN hbr (by omega)
    obtain⟨A5,c5,rfl,-⟩:=hg.slice
    have hL:(((tg::elsO X b (ks.take j))++pw)++List.replicate k 0).length=1+M+X+k:=by rw [List.length_append,List.length_append,List.length_cons,HLJ.out,HPW.out,List.length_replicate];omega
    have HL:=Lib.hid hL
    have HLU:Hid ((natsI (posE X b 1 (ks.take j)++posS (1+M+X) (min k yks.length))).length≤1048576):=Lib.hid (by rw [natsI_length,List.length_append,posS_length];have:=HPL1.out;omega)
    have hszz':w.heap.size+1+1+1≤wi.heap.size:=by omega
    rw [hL]
    clear hg hu hap hbr hL
    by_cases hkb:k<b
    ·have hk1:(k:Int)<(b:Int):=by omega
     by_cases hkm:k<yks.length
     ·have hk2:(k:Int)<(yks.length:Int):=by omega
      have HPO:Hid (posS (1+M+X) (min (k+1) yks.length)=posS (1+M+X) (min k yks.length)++[1+M+X+k]):=Lib.hid (by rw [show min (k+1) yks.length=k+1 by omega,show min k yks.length=k by omega,posS_succ])
      go_wp2_with (first
       | (at_builtin;refine wpList_appT1 rfl (.tmp 128) (.tmp 131) 116 rfl Tryz.underlying116 gj gj0 gj1 gj2 (v:=u6) rfl HU.out HG.out HAP.out.symm rfl (by have:=HLU.out;unfold maxLen;omega) (by have:=HLU.out;omega) hszz' ?_;intro u5 w10 hu5 hg5 hap5 hb5)
       | (at_builtin;refine wpList_appT1 rfl (.tmp 133) (.tmp 134) 25 rfl Tryz.underlying25 hi hz0 hz1 hz2 (v:=.slice A5 (((tg::elsO X b (ks.take j))++pw)++List.replicate k 0).length c5) (by rw [HL.out];rfl) hg5 hu5 hap5.symm rfl (by rw [HL.out];unfold maxLen;omega) (by rw [HL.out];omega) (Nat.le_trans hszz' hb5.size) ?_;intro v6 w11 hg6 hu6 hap6 hb6))
      go_roundw
      case rel=>
       refine⟨k+1,by omega,by go_num,?_,?_,hap6,(HBR.out.trans hb5).trans hb6⟩
       ·rw [←rep_snoc];exact hg6
       ·rw [HPO.out,←List.append_assoc,natsI_snoc]
        simpa using hu6
      case measure=>simp [intOf];omega
     ·have hk2:¬(k:Int)<(yks.length:Int):=by omega
      have HPO:Hid (min (k+1) yks.length=min k yks.length):=Lib.hid (by omega)
      go_wp2_with (at_builtin;refine wpList_appT1 rfl (.tmp 133) (.tmp 134) 25 rfl Tryz.underlying25 hi hz0 hz1 hz2 (v:=.slice A5 (((tg::elsO X b (ks.take j))++pw)++List.replicate k 0).length c5) (by rw [HL.out];rfl) HG.out HU.out HAP.out rfl (by rw [HL.out];unfold maxLen;omega) (by rw [HL.out];omega) hszz' ?_;intro v6 w11 hg6 hu6 hap6 hb6)
      go_roundw
      case rel=>
       refine⟨k+1,by omega,by go_num,?_,?_,hap6,HBR.out.trans hb6⟩
       ·rw [←rep_snoc];exact hg6
       ·rw [HPO.out];exact hu6
      case measure=>simp [intOf];omega
    ·obtain rfl:k=b:=by omega
     rw [HL.out] at HG HAP
     go_wp2
     go_roundw
     case rel=>
      refine⟨j+1,by omega,by go_num,?_,?_,HAP.out,HBR.out⟩
      ·rw [HES1.out]
       have e:(((tg::elsO X k (ks.take j))++pw)++List.replicate k 0)=tg::(elsO X k (ks.take j)++(pw++List.replicate k 0)):=by simp
       rw [←e]
       exact HG.out
      ·rw [HPS1.out]
       have e:min k yks.length=yks.length:=by omega
       rw [←e]
       exact HU.out
     case measure=>simp [intOf];omega
  ·obtain rfl:j=ks.length:=by omega
   have hLJ:=HLE.out ks.length (Nat.le_refl _)
   have hMJ:=HMB.out ks.length (Nat.le_refl _)
   have hsn:=HSN.out
   obtain⟨A5,c5,rfl,-⟩:=HG.out.slice
   have htk:ks.take ks.length=ks:=List.take_length
   rw [htk] at hLJ HG HU HAP
   obtain⟨L,hL⟩:∃L,(tg::elsO X b ks).length=L:=⟨_,rfl⟩
   have hL2:L=S+1:=by rw [←hL,List.length_cons,hLJ];omega
   have hS0:0≤S∧S≤1099511627776:=by omega
   rw [htk,hL]
   rw [hL] at HG HAP
   have hwr:IntKind.i64.wrap ((L:Int)-1)=S:=by rw [IntKind.wrap_i64];omega
   obtain⟨x3,y3,z3⟩:=H3.out.belowN HBR.out (by omega)
   clear hLJ hMJ hsn hL htk
   have HBF0:Hid (Below w.heap.size w wr):=HBW
   have H3r:=Lib.hid (H3.out.belowN HBR.out (by omega))
   have H2r:=Lib.hid (H2.out.belowN HBR.out (by omega))
   go_wp2_with fail
   refine abs_code10 (F:=fun W=>Blk W (w.heap.size+1) #[.int .i64 0,.int .i64 0,.int .i64 0,.int .i64 0,.int .i64 0,.int .i64 0,.bool false,.int .i64 0,.int .u32 0,.int .u32 0]∧Blk W (w.heap.size+1+1) #[.int .i64 1,.int .i64 0,.int .i64 0,.int .i64 0,.int .i64 7,.int .i64 S,.bool false,.int .i64 0,.int .u32 0,.int .u32 0]∧Got W (w.heap.size+1+1+1) 39 .u64 (.slice A5 L c5) (tg::elsO X b ks)∧Got W (w.heap.size+1+1+1) 3 .i64 u6 (natsI (posE X b 1 ks))∧Below w.heap.size w W) ⟨?_,?_,?_,?_,?_⟩ ?_
   ·exact H2r.out.other (by show w.heap.size+1+1≠w.heap.size+1;omega) _
   ·exact H3r.out.set 5 (by simp) _
   ·exact HG.out.far (p:=⟨w.heap.size+1+1,5,none⟩) (by show w.heap.size+1+1<w.heap.size+1+1+1;omega) _
   ·exact HU.out.far (p:=⟨w.heap.size+1+1,5,none⟩) (by show w.heap.size+1+1<w.heap.size+1+1+1;omega) _
   ·exact HBF0.out.setCell (p:=⟨w.heap.size+1+1,5,none⟩) (by show w.heap.size≤w.heap.size+1+1;omega) _
   clear HG HU HBF0 H3r H2r x1 y1 z1 x3 y3 z3
   rintro wq ⟨h2,h3,hg,hu,hb⟩
   have H2p:=Lib.hid h2
   have H3p:=Lib.hid h3
   have HG:=Lib.hid hg
   have HU:=Lib.hid hu
   have HBF:=Lib.hid hb
   clear h2 h3 hg hu hb
   have h2:=H2p.out
   have H2w:=Lib.hid h2
   obtain⟨x2,y2,z2⟩:=h2
   obtain⟨x3,y3,z3⟩:=H3p.out
   go_region
   go_wp2
   have hq1:w.heap.size+1<w.heap.size+1+1+1:=by omega
   have hq2:w.heap.size≤w.heap.size+1:=by omega
   refine abs_post (F:=fun W=>Blk W (w.heap.size+1) #[.int .i64 1,.int .i64 0,.int .i64 0,.int .i64 0,.int .i64 7,.int .i64 S,.bool false,.int .i64 0,.int .u32 0,.int .u32 0]∧Got W (w.heap.size+1+1+1) 39 .u64 (.slice A5 L c5) (tg::elsO X b ks)∧Got W (w.heap.size+1+1+1) 3 .i64 u6 (natsI (posE X b 1 ks))∧Below w.heap.size w W) ⟨?_,?_,?_,?_⟩ ?_
   rotate_left 2
   ·exact Got.drewT ((((((((((HU.out.far (p:=⟨w.heap.size+1,0,none⟩) hq1 _).far (p:=⟨w.heap.size+1,1,none⟩) hq1 _).far (p:=⟨w.heap.size+1,2,none⟩) hq1 _).far (p:=⟨w.heap.size+1,3,none⟩) hq1 _).far (p:=⟨w.heap.size+1,4,none⟩) hq1 _).far (p:=⟨w.heap.size+1,5,none⟩) hq1 _).far (p:=⟨w.heap.size+1,6,none⟩) hq1 _).far (p:=⟨w.heap.size+1,7,none⟩) hq1 _).far (p:=⟨w.heap.size+1,8,none⟩) hq1 _).far (p:=⟨w.heap.size+1,9,none⟩) hq1 _)
   ·exact bel_drew ((((((((((HBF.out.setCell (p:=⟨w.heap.size+1,0,none⟩) hq2 _).setCell (p:=⟨w.heap.size+1,1,none⟩) hq2 _).setCell (p:=⟨w.heap.size+1,2,none⟩) hq2 _).setCell (p:=⟨w.heap.size+1,3,none⟩) hq2 _).setCell (p:=⟨w.heap.size+1,4,none⟩) hq2 _).setCell (p:=⟨w.heap.size+1,5,none⟩) hq2 _).setCell (p:=⟨w.heap.size+1,6,none⟩) hq2 _).setCell (p:=⟨w.heap.size+1,7,none⟩) hq2 _).setCell (p:=⟨w.heap.size+1,8,none⟩) hq2 _).setCell (p:=⟨w.heap.size+1,9,none⟩) hq2 _)
   ·rintro W9 ⟨B6,hN,hU,hbw⟩
    exact bodyPost_ret (v:=.tuple #[.slice A5 L c5,.agg #[.int .i64 1,.int .i64 0,.int .i64 0,.int .i64 0,.int .i64 7,.int .i64 S,.bool false,.int .i64 0,.int .u32 0,.int .u32 0],u6]) (by simp [results,Tryz.results67,go_sem,B6.cell]) rfl ⟨_,_,rfl,by rw [HW.out];exact hN.mono (by omega),by rw [HPL.out];exact hU.mono (by omega),hbw⟩
   ·exact((((((((((H2w.out.set 0 (by simp) _).set 1 (by simp) _).set 2 (by simp) _).set 3 (by simp) _).set 4 (by simp) _).set 5 (by simp) _).set 6 (by simp) _).set 7 (by simp) _).set 8 (by simp) _).set 9 (by simp) _).drew
   ·exact Got.drewT ((((((((((HG.out.far (p:=⟨w.heap.size+1,0,none⟩) hq1 _).far (p:=⟨w.heap.size+1,1,none⟩) hq1 _).far (p:=⟨w.heap.size+1,2,none⟩) hq1 _).far (p:=⟨w.heap.size+1,3,none⟩) hq1 _).far (p:=⟨w.heap.size+1,4,none⟩) hq1 _).far (p:=⟨w.heap.size+1,5,none⟩) hq1 _).far (p:=⟨w.heap.size+1,6,none⟩) hq1 _).far (p:=⟨w.heap.size+1,7,none⟩) hq1 _).far (p:=⟨w.heap.size+1,8,none⟩) hq1 _).far (p:=⟨w.heap.size+1,9,none⟩) hq1 _)
end
end Go.Proofs.YtfaflahfjgnphaaGreatDoor
