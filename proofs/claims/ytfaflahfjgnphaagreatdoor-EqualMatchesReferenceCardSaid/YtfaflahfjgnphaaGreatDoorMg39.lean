/- The texts Ref14c, Ref14e (what is wanted of them), one after the other. -/
import Derived.Test.YtfaflahfjgnphaaGreatDoorMg19
import Derived.Test.YtfaflahfjgnphaaGreatDoorMg30
namespace Go.Proofs.YtfaflahfjgnphaaGreatDoor
open Go.ChangeShapes Go.WideShapes Go.ChangeAt Go.RowKit
set_option linter.unusedVariables false
set_option linter.unusedSimpArgs false
set_option maxRecDepth 100000
section
attribute [local simp] AllK KnowsV look Is
def GotQ (base:Nat)(l:List Int):Fact:=fun v w=>Got w base 39 .u64 v l
theorem stable_gotq (base:Nat)(l:List Int):stable (GotQ base l):=fun v w w' h hb=>Got.below h hb (Nat.le_refl _)
theorem padW_nil (n:Nat):padW [] n=List.replicate n 0:=by
 apply ext_zat
 ·rw [padW_length (by simp),List.length_replicate]
 ·intro i hi
  rw [padW_length (by simp)] at hi
  have e:padW [] n=wordsOf (bytesOf (List.replicate n 0)):=by
   unfold padW
   congr 1
   apply ext_zat
   ·simp [bytesOf_length]
   ·intro j hj
    simp at hj
    obtain⟨q,r,hr,rfl⟩:∃q r,r<8∧j=8*q+r:=⟨j / 8,j % 8,by omega,by omega⟩
    rw [bytesOf_zat _ _ _ (by simp;omega) hr,List.nil_append,zat_replicate,zat_replicate]
    simp [byteOf]
  rw [e,wordsOf_bytesOf _ (fun z hz=>by rw [List.eq_of_mem_replicate hz];omega)]
theorem fillW_lst {e n:Int}{d:List Int}{ks:List Nd}(hv:validN (.mk 2 e n d ks)=true)(h7:e≠7):fillW (.mk 2 e n d ks) 0=padW d (canO (.mk 2 e n d ks)).toNat:=by
 obtain⟨-,-,-,g4,g5,g6⟩:=head_lst hv
 have hO:canO (.mk 2 e n d ks)=wordsI e n:=by show canOf 2 e n d ks=_;unfold canOf;rw [if_neg (show ¬((2:Int)=0) by decide),if_neg (show ¬((2:Int)=1) by decide),if_neg h7]
 unfold fillW
 rw [List.take_zero,List.nil_append,Nat.sub_zero,targN_mk,if_neg (by omega),hO]
 show bodyPW 2 e n d ks _=_
 rw [bodyPW_2 h7]
 by_cases h6:e=6
 ·subst h6
  obtain⟨h1,h2⟩:=g5 (by decide)
  rw [if_pos rfl,List.eq_nil_of_length_eq_zero h1,padW_nil]
  congr 1
  simp [wordsI,bitsI]
  omega
 ·rw [if_neg h6]
theorem posL_lst {e n:Int}{d:List Int}{ks:List Nd}(h7:e≠7):posL (.mk 2 e n d ks)=posS 0 ks.length:=by
 show (if (2:Int)=1 then _ else if e=7 then _ else _)=_
 rw [if_neg (by decide),if_neg h7]
 rfl
set_option maxHeartbeats 2000000 in
set_option maxRecDepth 100000 in
theorem Shallow14_lst (e n:Int)(d:List Int)(ks:List Nd)(A:Option Addr)(c:Nat)(B:Option Addr)(c2:Nat)(w:World)(hx:NdR w A c B c2 (.mk 2 e n d ks))(hv:validN (.mk 2 e n d ks)=true)(h7:e≠7)(hs:sizeN (.mk 2 e n d ks)≤1099511627776):
  Calls Tryz.prog 67 #[.agg #[.int .i64 2,.int .i64 e,.int .i64 n,.slice A d.length c,.slice B ks.length c2]] w fun r w'=>∃v u,r=.returned (.tuple #[v,.agg #[.int .i64 1,.int .i64 0,.int .i64 0,.int .i64 0,.int .i64 e,.int .i64 n,.bool false,.int .i64 0,.int .u32 0,.int .u32 0],u]) ∧
   Got w' w.heap.size 39 .u64 v (fillW (.mk 2 e n d ks) 0)∧Got w' w.heap.size 3 .i64 u (natsI (posL (.mk 2 e n d ks)))∧Below w.heap.size w w':=by
 obtain⟨i0,hi,hz0,hz1,hz2⟩:=info_parts int64_info
 obtain⟨j0,gj,gj0,gj1,gj2⟩:=info_parts int_info14
 obtain⟨g1,g2,g3,g4,g5,g6⟩:=head_lst hv
 have hlen:=body_length hv
 have hfl:=fillW_lst hv h7
 have hco:=canO_size hv
 have HX:=Lib.hid hx
 have HD:=Lib.hid hx.open.2.2.2.1
 have HBT:=Lib.hid hx.open.2.2.2.2.1
 have HNL:=Lib.hid hx.open.2.2.2.2.2.2.2.1
 have HB0:=Lib.hid (fun o1 o2 o3=>(((Below.refl w.heap.size w).alloc (Nat.le_refl _) o1).alloc (by simp) o2).alloc (by simp;omega) o3)
 have hO:canO (.mk 2 e n d ks)=wordsI e n:=by show canOf 2 e n d ks=_;unfold canOf;rw [if_neg (show ¬((2:Int)=0) by decide),if_neg (show ¬((2:Int)=1) by decide),if_neg h7]
 have hwI:wordsI e n=(bitsI e*n+63) / 64:=by unfold wordsI;rw [if_neg h7]
 have hbi:=bitsI_mul e n g1
 have hdl:d.length≤8*(canO (.mk 2 e n d ks)).toNat:=by
  rw [hO]
  rcases(by omega:e<6∨e=6) with h|h
  ·obtain⟨-,g8,-⟩:=g6 h
   have hBI:bytesI e n=(bitsI e*n+7) / 8:=rfl
   omega
  ·rw [(g5 (by omega)).1];omega
 have hCm:(canO (.mk 2 e n d ks)).toNat≤1099511627776:=by rw [hO];omega
 obtain⟨C,hC⟩:∃C:Nat,canO (.mk 2 e n d ks)=(C:Int):=⟨(canO (.mk 2 e n d ks)).toNat,by omega⟩
 have hkl:ks.length≤1099511627776:=by
  simp only [sizeN] at hs
  have:=sizeK_length ks
  omega
 have HOB:=Lib.hid (fun w2 (h2:NdR w2 A c B c2 (.mk 2 e n d ks))=>RefObject13 (.mk 2 e n d ks) A c B c2 w2 h2 hs hv)
 rw [hC] at HOB hfl hdl hCm
 rw [Int.toNat_natCast] at hfl hdl hCm
 have HPD:=Lib.hid (fun w2 (hr:Ri w2 .u8 A d)=>RefPadded14 A c d C w2 hr HBT.out HNL.out hdl hCm)
 have HW:=Lib.hid hfl
 have HPL:=Lib.hid (posL_lst (n:=n) (d:=d) (ks:=ks) h7)
 have HPO:Hid (∀j,posS 0 (j+1)=posS 0 j++[j]):=Lib.hid (fun j=>by rw [posS_succ,Nat.zero_add])
 have t7:(e != 7)=true:=by simpa using h7
 clear hx hv hlen hfl hco hO hwI hbi hs hC hdl hCm h7
 generalize posL (.mk 2 e n d ks)=pl at *
 generalize fillW (.mk 2 e n d ks) 0=fb at *
 generalize padW d C=pw at *
 simp only [Nd.k,Nd.e,Nd.n,Nd.d,Nd.ks] at HOB
 go_enter Tryz.func67,Tryz.ntmps67
 go_wp2_with fail
 refine abs_code10 (F:=fun W=>Blk W w.heap.size #[.int .i64 2,.int .i64 e,.int .i64 n,.slice A d.length c,.slice B ks.length c2]∧Blk W (w.heap.size+1) #[.int .i64 0,.int .i64 0,.int .i64 0,.int .i64 0,.int .i64 0,.int .i64 0,.bool false,.int .i64 0,.int .u32 0,.int .u32 0]∧Blk W (w.heap.size+1+1) #[.int .i64 1,.int .i64 0,.int .i64 0,.int .i64 0,.int .i64 e,.int .i64 n,.bool false,.int .i64 0,.int .u32 0,.int .u32 0]∧Below w.heap.size w W) ⟨?_,?_,?_,?_⟩ ?_
 ·exact((Blk.fresh _ _ _).alloc _).alloc _
 ·exact(Blk.new (by simp)).alloc _
 ·exact Blk.new (by simp)
 ·exact HB0.out _ _ _
 rintro W ⟨hB1,hB2,hB3,hbw⟩
 have hz3:w.heap.size+1+1+1≤W.heap.size:=hB3.lt
 have H1:=Lib.hid hB1
 have H2:=Lib.hid hB2
 have H3:=Lib.hid hB3
 have HB:=Lib.hid hbw
 clear hB1 hB2 hB3 hbw
 go_wp2_with fail
 rename_i KK hKK
 refine wp_region_chain (by kernel_rfl) (by kernel_rfl) ?_
 refine chain_val (u:=?_) [1] rfl (by kernel_rfl) trivial (fun ρ wc hbc hcn hk=>?_) ?_;rotate_left
 ·obtain⟨hcn,-⟩:=hcn
  simp at hk
  go_simp
  rfl
 refine chain_val (u:=?_) [62] rfl (by kernel_rfl) trivial (fun ρ wc hbc hcn hk=>?_) ?_;rotate_left
 ·obtain⟨hcn,-⟩:=hcn
  simp at hk
  obtain⟨x1,y1,z1⟩:=H1.out.drew.below hbc
  go_simp
  rfl
 refine chain_val (u:=?_) [1] rfl (by kernel_rfl) trivial (fun ρ wc hbc hcn hk=>?_) ?_;rotate_left
 ·obtain⟨hcn,-⟩:=hcn
  simp at hk
  obtain⟨x1,y1,z1⟩:=H1.out.drew.below hbc
  go_simp
  rfl
 refine chain_call (T:=Is ?_) 94 [64] rfl (by kernel_rfl) trivial (stable_is _) (fun ρ wc hbc hcn hk=>?_) ?_;rotate_left
 ·obtain⟨hcn,hfn⟩:=hcn
  simp at hk
  refine⟨_,by go_simp;rfl,?_⟩
  refine(HOB.out wc (HX.out.on (bel_on (bel_drew HB.out) hbc) (Nat.le_refl _))).mono ?_
  rintro e w' ⟨rfl,hbq⟩
  refine⟨_,rfl,?_,hbq⟩
  unfold Is
  rfl
 refine chain_call (T:=GotQ (w.heap.size+1+1+1) pw) 93 [63,65] rfl (by kernel_rfl) trivial (stable_gotq _ _) (fun ρ wc hbc hcn hk=>?_) ?_
 ·obtain⟨hcn,hfn⟩:=hcn
  simp at hk
  refine⟨_,by go_simp;rfl,?_⟩
  refine(HPD.out wc (HD.out.below (bel_on (bel_drew HB.out) hbc) (Nat.le_refl _))).mono ?_
  rintro e w' ⟨v,rfl,hg,hbq⟩
  exact⟨_,rfl,hg.mono (Nat.le_trans hz3 hbc.size),hbq⟩
 refine chain_new (T:=GotQ (w.heap.size+1+1+1) pw) [66] rfl (by kernel_rfl) trivial (stable_gotq _ _) (fun ρ wc hbc hcn hk=>?_) ?_
 ·obtain⟨hcn,hfn⟩:=hcn
  simp at hk
  exact⟨_,wc,by go_simp,hk,Below.refl _ _⟩
 refine chain_end_lit 143 (by kernel_rfl) (fun ff w7 hb7 hk=>?_)
 refine hKK _ _ ?_
 have hG0:Got w7 (w.heap.size+1+1+1) 39 .u64 (ff 9) pw:=allN_at10d hk 9 (by decide) (by decide)
 simp [AllN] at hk
 simp only [frameL,hk,Nat.zero_add,Nat.reduceAdd]
 have hb7':Below W.heap.size W w7:=⟨hb7.os,hb7.tape,hb7.output,hb7.size,hb7.block⟩
 have h1:=H1.out.below hb7'
 have h2:=H2.out.below hb7'
 have h3:=H3.out.below hb7'
 have hbb:=bel_on HB.out hb7'
 have hz7:=hb7'.size
 clear H1 H2 H3 HB hb7 hk hb7'
 have H1:=Lib.hid h1
 have H2:=Lib.hid h2
 have H3:=Lib.hid h3
 have HB:=Lib.hid hbb
 have HG0:=Lib.hid hG0
 clear h1 h2 h3 hbb hG0
 generalize ff 9=v9 at *
 generalize ff 66=v66 at *
 obtain⟨x1,y1,z1⟩:=H1.out
 go_wp2
 go_loopw [6,10] (fun u i wr=>∃j:Nat,j≤ks.length∧i=.int .i64 j∧Got wr (w.heap.size+1+1+1) 39 .u64 v9 pw∧Got wr (w.heap.size+1+1+1) 3 .i64 u (natsI (posS 0 j))∧Apart v9 u∧Below (w.heap.size+1+1+1) w7 wr) (fun _ i _=>ks.length-(intOf i).toNat)
 case atStart=>exact⟨0,by omega,rfl,HG0.out,Got.empty _ _ _ _,apart_none _,Below.refl _ _⟩
 case round=>
  clear x1 y1 z1
  obtain⟨j,hj',rfl,hg,hu,hap,hbr⟩:=hrel
  have HG:=Lib.hid hg
  have HU:=Lib.hid hu
  have HAP:=Lib.hid hap
  have HBR:=Lib.hid hbr
  have hsz:=hbr.size
  have B1:=H1.out.belowN hbr (by omega)
  obtain⟨x1,y1,z1⟩:=B1
  have HLU:Hid ((natsI (posS 0 j)).length=j):=Lib.hid (by rw [natsI_length,posS_length])
  clear hg hu hap hbr
  by_cases hlt:j<ks.length
  ·have hj1:(j:Int)<(ks.length:Int):=by omega
   have hszz:w.heap.size+1+1+1≤wr.heap.size:=by omega
   go_wp2_with (at_builtin;refine wpList_appT1 rfl (.tmp 74) (.tmp 76) 116 rfl Tryz.underlying116 gj gj0 gj1 gj2 (v:=u6) rfl HU.out HG.out HAP.out.symm rfl (by rw [HLU.out];unfold maxLen;omega) (by rw [HLU.out];omega) hszz ?_;intro u5 w5 hu5 hg5 hap5 hb5)
   go_roundw
   case rel=>
    refine⟨j+1,by omega,by go_num,hg5,?_,hap5.symm,HBR.out.trans hb5⟩
    rw [HPO.out,natsI_snoc]
    exact hu5
   case measure=>simp [intOf];omega
  ·obtain rfl:j=ks.length:=by omega
   have HBF:Hid (Below w.heap.size w wr):=Lib.hid (HB.out.trans (HBR.out.mono (by omega)))
   have h2:=H2.out.belowN HBR.out (by omega)
   have H2w:=Lib.hid h2
   obtain⟨x2,y2,z2⟩:=h2
   obtain⟨x3,y3,z3⟩:=H3.out.belowN HBR.out (by omega)
   go_wp2_with fail
   go_region
   go_wp2
   have hq1:w.heap.size+1<w.heap.size+1+1+1:=by omega
   have hq2:w.heap.size≤w.heap.size+1:=by omega
   refine abs_post (F:=fun W=>Blk W (w.heap.size+1) #[.int .i64 1,.int .i64 0,.int .i64 0,.int .i64 0,.int .i64 e,.int .i64 n,.bool false,.int .i64 0,.int .u32 0,.int .u32 0]∧Got W (w.heap.size+1+1+1) 39 .u64 (v9) (pw)∧Got W (w.heap.size+1+1+1) 3 .i64 u6 (natsI (posS 0 ks.length))∧Below w.heap.size w W) ⟨?_,?_,?_,?_⟩ ?_
   rotate_left 2
   ·exact Got.drewT ((((((((((HU.out.far (p:=⟨w.heap.size+1,0,none⟩) hq1 _).far (p:=⟨w.heap.size+1,1,none⟩) hq1 _).far (p:=⟨w.heap.size+1,2,none⟩) hq1 _).far (p:=⟨w.heap.size+1,3,none⟩) hq1 _).far (p:=⟨w.heap.size+1,4,none⟩) hq1 _).far (p:=⟨w.heap.size+1,5,none⟩) hq1 _).far (p:=⟨w.heap.size+1,6,none⟩) hq1 _).far (p:=⟨w.heap.size+1,7,none⟩) hq1 _).far (p:=⟨w.heap.size+1,8,none⟩) hq1 _).far (p:=⟨w.heap.size+1,9,none⟩) hq1 _)
   ·exact bel_drew ((((((((((HBF.out.setCell (p:=⟨w.heap.size+1,0,none⟩) hq2 _).setCell (p:=⟨w.heap.size+1,1,none⟩) hq2 _).setCell (p:=⟨w.heap.size+1,2,none⟩) hq2 _).setCell (p:=⟨w.heap.size+1,3,none⟩) hq2 _).setCell (p:=⟨w.heap.size+1,4,none⟩) hq2 _).setCell (p:=⟨w.heap.size+1,5,none⟩) hq2 _).setCell (p:=⟨w.heap.size+1,6,none⟩) hq2 _).setCell (p:=⟨w.heap.size+1,7,none⟩) hq2 _).setCell (p:=⟨w.heap.size+1,8,none⟩) hq2 _).setCell (p:=⟨w.heap.size+1,9,none⟩) hq2 _)
   ·rintro W9 ⟨B6,hN,hU,hbw⟩
    exact bodyPost_ret (v:=.tuple #[v9,.agg #[.int .i64 1,.int .i64 0,.int .i64 0,.int .i64 0,.int .i64 e,.int .i64 n,.bool false,.int .i64 0,.int .u32 0,.int .u32 0],u6]) (by simp [results,Tryz.results67,go_sem,B6.cell]) rfl ⟨_,_,rfl,by rw [HW.out];exact hN.mono (by omega),by rw [HPL.out];exact hU.mono (by omega),hbw⟩
   ·exact((((((((((H2w.out.set 0 (by simp) _).set 1 (by simp) _).set 2 (by simp) _).set 3 (by simp) _).set 4 (by simp) _).set 5 (by simp) _).set 6 (by simp) _).set 7 (by simp) _).set 8 (by simp) _).set 9 (by simp) _).drew
   ·exact Got.drewT ((((((((((HG.out.far (p:=⟨w.heap.size+1,0,none⟩) hq1 _).far (p:=⟨w.heap.size+1,1,none⟩) hq1 _).far (p:=⟨w.heap.size+1,2,none⟩) hq1 _).far (p:=⟨w.heap.size+1,3,none⟩) hq1 _).far (p:=⟨w.heap.size+1,4,none⟩) hq1 _).far (p:=⟨w.heap.size+1,5,none⟩) hq1 _).far (p:=⟨w.heap.size+1,6,none⟩) hq1 _).far (p:=⟨w.heap.size+1,7,none⟩) hq1 _).far (p:=⟨w.heap.size+1,8,none⟩) hq1 _).far (p:=⟨w.heap.size+1,9,none⟩) hq1 _)
end
section
attribute [local simp] AllK KnowsV look Is
set_option maxRecDepth 100000 in
theorem RefTargets14 (x:Nd)(A:Option Addr)(c:Nat)(B:Option Addr)(c2:Nat)(w:World)(hx:NdR w A c B c2 x)(hs:sizeN x≤1099511627776):
  Calls Tryz.prog 69 #[.agg #[.int .i64 x.k,.int .i64 x.e,.int .i64 x.n,.slice A x.d.length c,.slice B x.ks.length c2]] w fun r w'=>∃B' c',r=.returned (.slice B' (targN x).length c')∧KsR w' B' (targN x)∧(targN x).length≤c'∧c'≤9223372036854775807∧Below w.heap.size w w':=by
 obtain⟨k,e,n,d,ks⟩:=x
 simp only [Nd.k,Nd.e,Nd.n,Nd.d,Nd.ks]
 have HX:=Lib.hid hx
 have HO:=Lib.hid hx.open
 clear hx
 by_cases hke:k=2∧e=7
 ·have HT:Hid (targN (.mk k e n d ks)=kk ks):=Lib.hid (by rw [targN_def,if_pos hke])
  obtain⟨rfl,rfl⟩:=hke
  have hs2:sizeN (.mk 2 7 n d ks)=1+d.length+sizeK ks:=by simp only [sizeN]
  rw [hs2] at hs
  have HKK:Hid (∀j,(kk (ks.take j)).length≤sizeK ks):=Lib.hid (fun j=>Nat.le_trans (kk_size _) (sizeK_take_le ks j))
  have hkl:=sizeK_length ks
  rw [HT.out]
  clear hs2
  go_enter Tryz.func69,Tryz.ntmps69
  go_wp2
  go_loopw [3,4] (fun s i wr=>∃j:Nat,j≤ks.length∧i=.int .i64 j∧OwnK w wr (w.heap.size+1) s (kk (ks.take j))∧Blk wr w.heap.size #[.int .i64 2,.int .i64 7,.int .i64 n,.slice A d.length c,.slice B ks.length c2]∧Below w.heap.size w wr) (fun _ i _=>ks.length-(intOf i).toNat)
  case atStart=>exact⟨0,by omega,rfl,by simpa [kk] using OwnK.empty _ _ _,Blk.fresh _ _ _,(Below.refl _ _).alloc (Nat.le_refl _) _⟩
  case round=>
   obtain⟨j,hj,rfl,hown,hB,hbr⟩:=hrel
   have HB:=Lib.hid hB
   have HR:=Lib.hid hbr
   have HOWN:=Lib.hid hown
   obtain⟨x1,y1,z1⟩:=hB
   clear hbr hown
   by_cases hlt:j<ks.length
   ·obtain⟨b,off,A',c',B',c2',rfl,k0,k1,k2,k3,k4,hsub⟩:=HX.out.kids.atIn HR.out (Nat.le_refl _) hlt
    have HKS:=Lib.hid hsub.kidsX
    have HKT:=Lib.hid (kk_take ks j hlt)
    have HN:Hid ((kk (ks.take j)).length+(ks[j]).ks.length≤1099511627776):=Lib.hid (by
     have h:=HKK.out (j+1)
     rw [HKT.out,List.length_append] at h
     omega)
    clear hsub k0 k1 k2 k3
    go_wp2_with (at_builtin;refine wpList_appK (W0:=w) rfl (.tmp 22) (.tmp 28) 51 rfl Tryz.underlying51 rfl HOWN.out rfl HKS.out.1 HKS.out.2.1 HKS.out.2.2 (Nat.le_refl _) HR.out HN.out z1 ?_;intro v1 w1 hg1 hb1)
    have HB1:=Lib.hid (HR.out.trans (hb1.mono (Nat.le_succ _)))
    have B1:=Lib.hid (HB.out.belowN hb1 (Nat.lt_succ_self _))
    go_roundw
    case rel=>exact⟨j+1,by omega,by go_num,by rw [HKT.out];exact hg1,B1.out,HB1.out⟩
    case measure=>simp [intOf];omega
   ·obtain rfl:j=ks.length:=by omega
    go_wp2
    obtain⟨B1,c1,rfl,s1,s2,s3,s4⟩:=HOWN.out.slice (Nat.le_refl _) HR.out
    go_ret
    rw [List.take_length] at *
    exact⟨B1,c1,rfl,s1,s2,s3,HR.out⟩
 ·have HT:Hid (targN (.mk k e n d ks)=ks):=Lib.hid (by rw [targN_def,if_neg hke])
  have hor:((k != 2)=true)∨((k != 2)=false∧(e != 7)=true):=by
   by_cases h1:k=2
   ·right;exact⟨by simpa using h1,by simpa using fun h=>hke ⟨h1,h⟩⟩
   ·left;simpa using h1
  clear hke
  rcases hor with t1|⟨t1,t2⟩ <;>
  (go_enter Tryz.func69,Tryz.ntmps69
   go_wp2
   go_ret
   refine⟨B,c2,by rw [HT.out];rfl,?_,by rw [HT.out];exact HO.out.2.2.2.2.2.2.2.2.1,HO.out.2.2.2.2.2.2.2.2.2.1,(Below.refl _ _).alloc (Nat.le_refl _) _⟩
   rw [HT.out]
   exact HX.out.kids.on ((Below.refl _ _).alloc (Nat.le_refl _) _) (Nat.le_refl _))
theorem ptrW_str14 (e n:Int)(d:List Int)(ks:List Nd)(o:Int):ptrW (.mk 1 e n d ks) o=encW ⟨0,if canO (.mk 1 e n d ks)=0 then -1 else o,((d.length / 8:Nat):Int),ks.length,0,0,false,0,0,0⟩:=by
 unfold ptrW ptrP
 simp only [Nd.k,Nd.d,Nd.ks]
 rw [if_neg (by decide),if_pos trivial]
theorem ptrW_lst14 (e n:Int)(d:List Int)(ks:List Nd)(o:Int):ptrW (.mk 2 e n d ks) o=encW ⟨1,o,0,0,e,if e=7 then canO (.mk 2 e n d ks)-1 else n,false,0,0,0⟩:=by
 unfold ptrW ptrP
 exact(if_neg (show ¬((2:Int)=0) by decide)).trans (congrArg encW (if_neg (show ¬((2:Int)=1) by decide)))
theorem RefShallow14 (x:Nd)(A:Option Addr)(c:Nat)(B:Option Addr)(c2:Nat)(hv:validN x=true)(hs:sizeN x≤1048576)(hk:x.k≠0)(hC:canO x≤536870911):∃k' d' p' e' c':Int,
  (∀w,NdR w A c B c2 x→Calls Tryz.prog 67 #[.agg #[.int .i64 x.k,.int .i64 x.e,.int .i64 x.n,.slice A x.d.length c,.slice B x.ks.length c2]] w fun r w'=>∃v u,r=.returned (.tuple #[v,.agg #[.int .i64 k',.int .i64 0,.int .i64 d',.int .i64 p',.int .i64 e',.int .i64 c',.bool false,.int .i64 0,.int .u32 0,.int .u32 0],u]) ∧
   Got w' w.heap.size 39 .u64 v (fillW x 0)∧Got w' w.heap.size 3 .i64 u (natsI (posL x))∧Below w.heap.size w w') ∧
  (k'=0∨k'=1)∧(∀o,ptrW x o=encW ⟨k',if k'=0∧d'=0∧p'=0 then -1 else o,d',p',e',c',false,0,0,0⟩)∧(∀o,-536870912≤o→o≤536870911→Vld ⟨k',o,d',p',e',c',false,0,0,0⟩):=by
 obtain⟨k,e,n,d,ks⟩:=x
 have hkk:=valid_k hv
 simp only [Nd.k,Nd.e,Nd.n,Nd.d,Nd.ks] at hkk hk ⊢
 rcases hkk with rfl|rfl|rfl
 ·exact absurd rfl hk
 ·obtain⟨rfl,rfl,h8,hd5,hk5⟩:=head_str hv
  refine⟨0,((d.length / 8:Nat):Int),(ks.length:Int),0,0,fun w hx=>Shallow14_str d ks A c B c2 w hx hv,.inl rfl,fun o=>?_,fun o h1 h2=>?_⟩
  ·rw [ptrW_str14]
   congr 2
   have hO:canO (.mk 1 0 0 d ks)=((d.length / 8+ks.length:Nat):Int):=rfl
   rw [hO]
   by_cases h:d.length / 8+ks.length=0
   ·rw [if_pos (by omega),if_pos ⟨rfl,by omega,by omega⟩]
   ·rw [if_neg (by omega),if_neg (by omega)]
  ·left
   simp only
   refine⟨trivial,by omega,by omega,by omega,by omega,by omega,by omega,?_⟩
   simp
 ·obtain⟨g1,g2,g3,g4,-,-⟩:=head_lst hv
  by_cases h7:e=7
  ·subst h7
   have hO:canO (.mk 2 7 n d ks)=1+(canO (.mk 2 7 n d ks)-1):=by omega
   have hn0:=(canO_size hv).1
   have hO1:1≤canO (.mk 2 7 n d ks):=by
    have h:canO (.mk 2 7 n d ks)=1+n*((uniD ks ks.length+uniP ks ks.length:Nat):Int):=by
     show canOf 2 7 n d ks=_
     unfold canOf
     rw [if_neg (show ¬((2:Int)=0) by decide),if_neg (show ¬((2:Int)=1) by decide),if_pos rfl]
    have:0≤n*((uniD ks ks.length+uniP ks ks.length:Nat):Int):=Int.mul_nonneg g1 (by omega)
    omega
   refine⟨1,0,0,7,canO (.mk 2 7 n d ks)-1,fun w hx=>Shallow14_cmp n d ks A c B c2 w hx hv hs _ hO,.inr rfl,fun o=>?_,fun o h1 h2=>?_⟩
   ·rw [ptrW_lst14,if_pos rfl,if_neg (by omega)]
   ·right;left
    simp only
    refine⟨trivial,by omega,by omega,trivial,trivial,by omega,by omega,by omega,by omega,?_⟩
    simp
  ·refine⟨1,0,0,e,n,fun w hx=>Shallow14_lst e n d ks A c B c2 w hx hv h7 (by omega),.inr rfl,fun o=>?_,fun o h1 h2=>?_⟩
   ·rw [ptrW_lst14,if_neg h7,if_neg (by omega)]
   ·right;left
    simp only
    refine⟨trivial,by omega,by omega,trivial,trivial,by omega,by omega,by omega,by omega,?_⟩
    simp
def placeF (ws:List Int)(a:Nat)(x:Nd):List Int:=ws.set a (ptrW x ((ws.length:Int)-a-1))++objW x
theorem place_nul {ws:List Int}{a:Nat}{x:Nd}(hk:x.k=0)(hv:validN x=true)(ha:a<ws.length)(hz:zat ws a=0):placeF ws a x=ws:=by
 obtain⟨k,e,n,d,ks⟩:=x
 simp only [Nd.k] at hk
 subst hk
 rw [head_nul hv]
 have h1:ptrW nd0 ((ws.length:Int)-a-1)=0:=rfl
 have h2:objW nd0=[]:=rfl
 rw [placeF,h1,h2,List.append_nil]
 apply ext_zat (by simp)
 intro i hi
 rw [zat_set _ _ _ _ ha]
 split
 ·rename_i h;rw [←h,hz]
 ·rfl
def outF (ws:List Int)(a:Nat)(x:Nd)(i:Nat):List Int:=(ws.set a (ptrW x ((ws.length:Int)-a-1))++fillW x i)++objK ((targN x).take i)
theorem fillW_length {x:Nd}(hv:validN x=true)(i:Nat)(hi:i≤(targN x).length):((fillW x i).length:Int)=canO x:=by
 have hl:∀i,i≤(targN x).length→(fillW x i).length=(fillW x 0).length:=by
  intro i
  induction i with
  | zero=>intro _;rfl
  | succ i ih=>
   intro h
   rw [←(fillW_step hv i (by omega)).2.2,List.length_set,ih (by omega)]
 rw [hl i hi,←hl (targN x).length (Nat.le_refl _),fillW_all hv,body_length hv]
theorem outF_length {x:Nd}(hv:validN x=true)(ws:List Int)(a i:Nat)(hi:i≤(targN x).length):((outF ws a x i).length:Int)=ws.length+canO x+canK ((targN x).take i):=by
 have h1:=fillW_length hv i hi
 have h2:=objK_length (l:=(targN x).take i) (fun y hy=>objW_length y (valid_targ hv y (List.mem_of_mem_take hy)))
 unfold outF
 rw [List.length_append,List.length_append,List.length_set]
 omega
theorem outF_step {x:Nd}(hv:validN x=true)(ws:List Int)(a i:Nat)(hi:i<(targN x).length):
  ws.length+(posL x).getD i 0<(outF ws a x i).length∧zat (outF ws a x i) (ws.length+(posL x).getD i 0)=0∧placeF (outF ws a x i) (ws.length+(posL x).getD i 0) (targN x)[i]=outF ws a x (i+1):=by
 obtain⟨h1,h2,h3⟩:=fillW_step hv i hi
 have hl:=outF_length hv ws a i (by omega)
 have hfl:=fillW_length hv i (by omega)
 have hsl:(ws.set a (ptrW x ((ws.length:Int)-a-1))).length=ws.length:=List.length_set
 refine⟨?_,?_,?_⟩
 ·unfold outF
  rw [List.length_append,List.length_append,hsl]
  omega
 ·unfold outF
  rw [zat_append_left _ _ _ (by rw [List.length_append,hsl];omega),zat_append_right _ _ _ (by omega),hsl,Nat.add_sub_cancel_left,h2]
 ·unfold placeF
  rw [hl]
  have e:(ws.length:Int)+canO x+canK ((targN x).take i)-((ws.length+(posL x).getD i 0:Nat):Int)-1=canO x+canK ((targN x).take i)-((posL x).getD i 0:Nat)-1:=by omega
  rw [e]
  unfold outF
  rw [set_left _ _ _ _ (by rw [List.length_append,hsl];omega),set_right _ _ _ _ (by omega),hsl,Nat.add_sub_cancel_left,h3,objK_take _ _ hi]
  simp only [List.append_assoc]
theorem outF_all {x:Nd}(hv:validN x=true)(ws:List Int)(a:Nat):outF ws a x (targN x).length=placeF ws a x:=by
 unfold outF placeF
 rw [fillW_all hv,List.take_length,objW_eq,List.append_assoc]
end
end Go.Proofs.YtfaflahfjgnphaaGreatDoor
