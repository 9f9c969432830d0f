/- The texts Ref14c (what is wanted of them), one after the other. -/
import Derived.Test.YtclpapddejgpnaaDoorMg18
namespace Go.Proofs.YtclpapddejgpnaaDoor
open Go.ChangeShapes Go.WideShapes Go.ChangeAt Go.RowKit
set_option linter.unusedVariables false
set_option linter.unusedSimpArgs false
set_option maxRecDepth 100000
section
attribute [local simp] AllK KnowsV look Is
def GotQ (base:Nat)(l:List Int):Fact:=fun v w=>Got w base 32 .u64 v l
theorem stable_gotq (base:Nat)(l:List Int):stable (GotQ base l):=fun v w w' h hb=>Got.below h hb (Nat.le_refl _)
theorem padW_nil (n:Nat):padW [] n=List.replicate n 0:=by
 apply ext_zat
 ·rw [padW_length (by simp),List.length_replicate]
 ·intro i hi
  rw [padW_length (by simp)] at hi
  have e:padW [] n=wordsOf (bytesOf (List.replicate n 0)):=by
   unfold padW
   congr 1
   apply ext_zat
   ·simp [bytesOf_length]
   ·intro j hj
    simp at hj
    obtain⟨q,r,hr,rfl⟩:∃q r,r<8∧j=8*q+r:=⟨j / 8,j % 8,by omega,by omega⟩
    rw [bytesOf_zat _ _ _ (by simp;omega) hr,List.nil_append,zat_replicate,zat_replicate]
    simp [byteOf]
  rw [e,wordsOf_bytesOf _ (fun z hz=>by rw [List.eq_of_mem_replicate hz];omega)]
theorem fillW_lst {e n:Int}{d:List Int}{ks:List Nd}(hv:validN (.mk 2 e n d ks)=true)(h7:e≠7):fillW (.mk 2 e n d ks) 0=padW d (canO (.mk 2 e n d ks)).toNat:=by
 obtain⟨-,-,-,g4,g5,g6⟩:=head_lst hv
 have hO:canO (.mk 2 e n d ks)=wordsI e n:=by show canOf 2 e n d ks=_;unfold canOf;rw [if_neg (show ¬((2:Int)=0) by decide),if_neg (show ¬((2:Int)=1) by decide),if_neg h7]
 unfold fillW
 rw [List.take_zero,List.nil_append,Nat.sub_zero,targN_mk,if_neg (by omega),hO]
 show bodyPW 2 e n d ks _=_
 rw [bodyPW_2 h7]
 by_cases h6:e=6
 ·subst h6
  obtain⟨h1,h2⟩:=g5 (by decide)
  rw [if_pos rfl,List.eq_nil_of_length_eq_zero h1,padW_nil]
  congr 1
  simp [wordsI,bitsI]
  omega
 ·rw [if_neg h6]
theorem posL_lst {e n:Int}{d:List Int}{ks:List Nd}(h7:e≠7):posL (.mk 2 e n d ks)=posS 0 ks.length:=by
 show (if (2:Int)=1 then _ else if e=7 then _ else _)=_
 rw [if_neg (by decide),if_neg h7]
 rfl
set_option maxHeartbeats 2000000 in
set_option maxRecDepth 100000 in
theorem Shallow14_lst (e n:Int)(d:List Int)(ks:List Nd)(A:Option Addr)(c:Nat)(B:Option Addr)(c2:Nat)(w:World)(hx:NdR w A c B c2 (.mk 2 e n d ks))(hv:validN (.mk 2 e n d ks)=true)(h7:e≠7)(hs:sizeN (.mk 2 e n d ks)≤1099511627776):
  Calls Tryd.prog 50 #[.agg #[.int .i64 2,.int .i64 e,.int .i64 n,.slice A d.length c,.slice B ks.length c2]] w fun r w'=>∃v u,r=.returned (.tuple #[v,.agg #[.int .i64 1,.int .i64 0,.int .i64 0,.int .i64 0,.int .i64 e,.int .i64 n,.bool false,.int .i64 0,.int .u32 0,.int .u32 0],u]) ∧
   Got w' w.heap.size 32 .u64 v (fillW (.mk 2 e n d ks) 0)∧Got w' w.heap.size 3 .i64 u (natsI (posL (.mk 2 e n d ks)))∧Below w.heap.size w w':=by
 obtain⟨i0,hi,hz0,hz1,hz2⟩:=info_parts int64_info
 obtain⟨j0,gj,gj0,gj1,gj2⟩:=info_parts int_info14
 obtain⟨g1,g2,g3,g4,g5,g6⟩:=head_lst hv
 have hlen:=body_length hv
 have hfl:=fillW_lst hv h7
 have hco:=canO_size hv
 have HX:=Lib.hid hx
 have HD:=Lib.hid hx.open.2.2.2.1
 have HBT:=Lib.hid hx.open.2.2.2.2.1
 have HNL:=Lib.hid hx.open.2.2.2.2.2.2.2.1
 have HB0:=Lib.hid (fun o1 o2 o3=>(((Below.refl w.heap.size w).alloc (Nat.le_refl _) o1).alloc (by simp) o2).alloc (by simp;omega) o3)
 have hO:canO (.mk 2 e n d ks)=wordsI e n:=by show canOf 2 e n d ks=_;unfold canOf;rw [if_neg (show ¬((2:Int)=0) by decide),if_neg (show ¬((2:Int)=1) by decide),if_neg h7]
 have hwI:wordsI e n=(bitsI e*n+63) / 64:=by unfold wordsI;rw [if_neg h7]
 have hbi:=bitsI_mul e n g1
 have hdl:d.length≤8*(canO (.mk 2 e n d ks)).toNat:=by
  rw [hO]
  rcases(by omega:e<6∨e=6) with h|h
  ·obtain⟨-,g8,-⟩:=g6 h
   have hBI:bytesI e n=(bitsI e*n+7) / 8:=rfl
   omega
  ·rw [(g5 (by omega)).1];omega
 have hCm:(canO (.mk 2 e n d ks)).toNat≤1099511627776:=by rw [hO];omega
 obtain⟨C,hC⟩:∃C:Nat,canO (.mk 2 e n d ks)=(C:Int):=⟨(canO (.mk 2 e n d ks)).toNat,by omega⟩
 have hkl:ks.length≤1099511627776:=by
  simp only [sizeN] at hs
  have:=sizeK_length ks
  omega
 have HOB:=Lib.hid (fun w2 (h2:NdR w2 A c B c2 (.mk 2 e n d ks))=>RefObject13 (.mk 2 e n d ks) A c B c2 w2 h2 hs hv)
 rw [hC] at HOB hfl hdl hCm
 rw [Int.toNat_natCast] at hfl hdl hCm
 have HPD:=Lib.hid (fun w2 (hr:Ri w2 .u8 A d)=>RefPadded14 A c d C w2 hr HBT.out HNL.out hdl hCm)
 have HW:=Lib.hid hfl
 have HPL:=Lib.hid (posL_lst (n:=n) (d:=d) (ks:=ks) h7)
 have HPO:Hid (∀j,posS 0 (j+1)=posS 0 j++[j]):=Lib.hid (fun j=>by rw [posS_succ,Nat.zero_add])
 have t7:(e != 7)=true:=by simpa using h7
 clear hx hv hlen hfl hco hO hwI hbi hs hC hdl hCm h7
 generalize posL (.mk 2 e n d ks)=pl at *
 generalize fillW (.mk 2 e n d ks) 0=fb at *
 generalize padW d C=pw at *
 simp only [Nd.k,Nd.e,Nd.n,Nd.d,Nd.ks] at HOB
 go_enter Tryd.func50,Tryd.ntmps50
 go_wp2_with fail
 refine abs_code10 (F:=fun W=>Blk W w.heap.size #[.int .i64 2,.int .i64 e,.int .i64 n,.slice A d.length c,.slice B ks.length c2]∧Blk W (w.heap.size+1) #[.int .i64 0,.int .i64 0,.int .i64 0,.int .i64 0,.int .i64 0,.int .i64 0,.bool false,.int .i64 0,.int .u32 0,.int .u32 0]∧Blk W (w.heap.size+1+1) #[.int .i64 1,.int .i64 0,.int .i64 0,.int .i64 0,.int .i64 e,.int .i64 n,.bool false,.int .i64 0,.int .u32 0,.int .u32 0]∧Below w.heap.size w W) ⟨?_,?_,?_,?_⟩ ?_
 ·exact((Blk.fresh _ _ _).alloc _).alloc _
 ·exact(Blk.new (by simp)).alloc _
 ·exact Blk.new (by simp)
 ·exact HB0.out _ _ _
 rintro W ⟨hB1,hB2,hB3,hbw⟩
 have hz3:w.heap.size+1+1+1≤W.heap.size:=hB3.lt
 have H1:=Lib.hid hB1
 have H2:=Lib.hid hB2
 have H3:=Lib.hid hB3
 have HB:=Lib.hid hbw
 clear hB1 hB2 hB3 hbw
 go_wp2_with fail
 rename_i KK hKK
 refine wp_region_chain (by kernel_rfl) (by kernel_rfl) ?_
 refine chain_val (u:=?_) [1] rfl (by kernel_rfl) trivial (fun ρ wc hbc hcn hk=>?_) ?_;rotate_left
 ·obtain⟨hcn,-⟩:=hcn
  simp at hk
  go_simp
  rfl
 refine chain_val (u:=?_) [62] rfl (by kernel_rfl) trivial (fun ρ wc hbc hcn hk=>?_) ?_;rotate_left
 ·obtain⟨hcn,-⟩:=hcn
  simp at hk
  obtain⟨x1,y1,z1⟩:=H1.out.drew.below hbc
  go_simp
  rfl
 refine chain_val (u:=?_) [1] rfl (by kernel_rfl) trivial (fun ρ wc hbc hcn hk=>?_) ?_;rotate_left
 ·obtain⟨hcn,-⟩:=hcn
  simp at hk
  obtain⟨x1,y1,z1⟩:=H1.out.drew.below hbc
  go_simp
  rfl
 refine chain_call (T:=Is ?_) 72 [64] rfl (by kernel_rfl) trivial (stable_is _) (fun ρ wc hbc hcn hk=>?_) ?_;rotate_left
 ·obtain⟨hcn,hfn⟩:=hcn
  simp at hk
  refine⟨_,by go_simp;rfl,?_⟩
  refine(HOB.out wc (HX.out.on (bel_on (bel_drew HB.out) hbc) (Nat.le_refl _))).mono ?_
  rintro e w' ⟨rfl,hbq⟩
  refine⟨_,rfl,?_,hbq⟩
  unfold Is
  rfl
 refine chain_call (T:=GotQ (w.heap.size+1+1+1) pw) 71 [63,65] rfl (by kernel_rfl) trivial (stable_gotq _ _) (fun ρ wc hbc hcn hk=>?_) ?_
 ·obtain⟨hcn,hfn⟩:=hcn
  simp at hk
  refine⟨_,by go_simp;rfl,?_⟩
  refine(HPD.out wc (HD.out.below (bel_on (bel_drew HB.out) hbc) (Nat.le_refl _))).mono ?_
  rintro e w' ⟨v,rfl,hg,hbq⟩
  exact⟨_,rfl,hg.mono (Nat.le_trans hz3 hbc.size),hbq⟩
 refine chain_new (T:=GotQ (w.heap.size+1+1+1) pw) [66] rfl (by kernel_rfl) trivial (stable_gotq _ _) (fun ρ wc hbc hcn hk=>?_) ?_
 ·obtain⟨hcn,hfn⟩:=hcn
  simp at hk
  exact⟨_,wc,by go_simp,hk,Below.refl _ _⟩
 refine chain_end_lit 143 (by kernel_rfl) (fun ff w7 hb7 hk=>?_)
 refine hKK _ _ ?_
 have hG0:Got w7 (w.heap.size+1+1+1) 32 .u64 (ff 9) pw:=allN_at10d hk 9 (by decide) (by decide)
 simp [AllN] at hk
 simp only [frameL,hk,Nat.zero_add,Nat.reduceAdd]
 have hb7':Below W.heap.size W w7:=⟨hb7.os,hb7.tape,hb7.output,hb7.size,hb7.block⟩
 have h1:=H1.out.below hb7'
 have h2:=H2.out.below hb7'
 have h3:=H3.out.below hb7'
 have hbb:=bel_on HB.out hb7'
 have hz7:=hb7'.size
 clear H1 H2 H3 HB hb7 hk hb7'
 have H1:=Lib.hid h1
 have H2:=Lib.hid h2
 have H3:=Lib.hid h3
 have HB:=Lib.hid hbb
 have HG0:=Lib.hid hG0
 clear h1 h2 h3 hbb hG0
 generalize ff 9=v9 at *
 generalize ff 66=v66 at *
 obtain⟨x1,y1,z1⟩:=H1.out
 go_wp2
 go_loopw [6,10] (fun u i wr=>∃j:Nat,j≤ks.length∧i=.int .i64 j∧Got wr (w.heap.size+1+1+1) 32 .u64 v9 pw∧Got wr (w.heap.size+1+1+1) 3 .i64 u (natsI (posS 0 j))∧Apart v9 u∧Below (w.heap.size+1+1+1) w7 wr) (fun _ i _=>ks.length-(intOf i).toNat)
 case atStart=>exact⟨0,by omega,rfl,HG0.out,Got.empty _ _ _ _,apart_none _,Below.refl _ _⟩
 case round=>
  clear x1 y1 z1
  obtain⟨j,hj',rfl,hg,hu,hap,hbr⟩:=hrel
  have HG:=Lib.hid hg
  have HU:=Lib.hid hu
  have HAP:=Lib.hid hap
  have HBR:=Lib.hid hbr
  have hsz:=hbr.size
  have B1:=H1.out.belowN hbr (by omega)
  obtain⟨x1,y1,z1⟩:=B1
  have HLU:Hid ((natsI (posS 0 j)).length=j):=Lib.hid (by rw [natsI_length,posS_length])
  clear hg hu hap hbr
  by_cases hlt:j<ks.length
  ·have hj1:(j:Int)<(ks.length:Int):=by omega
   have hszz:w.heap.size+1+1+1≤wr.heap.size:=by omega
   go_wp2_with (at_builtin;refine wpList_appT1 rfl (.tmp 74) (.tmp 76) 84 rfl Tryd.underlying84 gj gj0 gj1 gj2 (v:=u6) rfl HU.out HG.out HAP.out.symm rfl (by rw [HLU.out];unfold maxLen;omega) (by rw [HLU.out];omega) hszz ?_;intro u5 w5 hu5 hg5 hap5 hb5)
   go_roundw
   case rel=>
    refine⟨j+1,by omega,by go_num,hg5,?_,hap5.symm,HBR.out.trans hb5⟩
    rw [HPO.out,natsI_snoc]
    exact hu5
   case measure=>simp [intOf];omega
  ·obtain rfl:j=ks.length:=by omega
   have HBF:Hid (Below w.heap.size w wr):=Lib.hid (HB.out.trans (HBR.out.mono (by omega)))
   have h2:=H2.out.belowN HBR.out (by omega)
   have H2w:=Lib.hid h2
   obtain⟨x2,y2,z2⟩:=h2
   obtain⟨x3,y3,z3⟩:=H3.out.belowN HBR.out (by omega)
   go_wp2_with fail
   go_region
   go_wp2
   have hq1:w.heap.size+1<w.heap.size+1+1+1:=by omega
   have hq2:w.heap.size≤w.heap.size+1:=by omega
   refine abs_post (F:=fun W=>Blk W (w.heap.size+1) #[.int .i64 1,.int .i64 0,.int .i64 0,.int .i64 0,.int .i64 e,.int .i64 n,.bool false,.int .i64 0,.int .u32 0,.int .u32 0]∧Got W (w.heap.size+1+1+1) 32 .u64 (v9) (pw)∧Got W (w.heap.size+1+1+1) 3 .i64 u6 (natsI (posS 0 ks.length))∧Below w.heap.size w W) ⟨?_,?_,?_,?_⟩ ?_
   rotate_left 2
   ·exact Got.drewT ((((((((((HU.out.far (p:=⟨w.heap.size+1,0,none⟩) hq1 _).far (p:=⟨w.heap.size+1,1,none⟩) hq1 _).far (p:=⟨w.heap.size+1,2,none⟩) hq1 _).far (p:=⟨w.heap.size+1,3,none⟩) hq1 _).far (p:=⟨w.heap.size+1,4,none⟩) hq1 _).far (p:=⟨w.heap.size+1,5,none⟩) hq1 _).far (p:=⟨w.heap.size+1,6,none⟩) hq1 _).far (p:=⟨w.heap.size+1,7,none⟩) hq1 _).far (p:=⟨w.heap.size+1,8,none⟩) hq1 _).far (p:=⟨w.heap.size+1,9,none⟩) hq1 _)
   ·exact bel_drew ((((((((((HBF.out.setCell (p:=⟨w.heap.size+1,0,none⟩) hq2 _).setCell (p:=⟨w.heap.size+1,1,none⟩) hq2 _).setCell (p:=⟨w.heap.size+1,2,none⟩) hq2 _).setCell (p:=⟨w.heap.size+1,3,none⟩) hq2 _).setCell (p:=⟨w.heap.size+1,4,none⟩) hq2 _).setCell (p:=⟨w.heap.size+1,5,none⟩) hq2 _).setCell (p:=⟨w.heap.size+1,6,none⟩) hq2 _).setCell (p:=⟨w.heap.size+1,7,none⟩) hq2 _).setCell (p:=⟨w.heap.size+1,8,none⟩) hq2 _).setCell (p:=⟨w.heap.size+1,9,none⟩) hq2 _)
   ·rintro W9 ⟨B6,hN,hU,hbw⟩
    exact bodyPost_ret (v:=.tuple #[v9,.agg #[.int .i64 1,.int .i64 0,.int .i64 0,.int .i64 0,.int .i64 e,.int .i64 n,.bool false,.int .i64 0,.int .u32 0,.int .u32 0],u6]) (by simp [results,Tryd.results50,go_sem,B6.cell]) rfl ⟨_,_,rfl,by rw [HW.out];exact hN.mono (by omega),by rw [HPL.out];exact hU.mono (by omega),hbw⟩
   ·exact((((((((((H2w.out.set 0 (by simp) _).set 1 (by simp) _).set 2 (by simp) _).set 3 (by simp) _).set 4 (by simp) _).set 5 (by simp) _).set 6 (by simp) _).set 7 (by simp) _).set 8 (by simp) _).set 9 (by simp) _).drew
   ·exact Got.drewT ((((((((((HG.out.far (p:=⟨w.heap.size+1,0,none⟩) hq1 _).far (p:=⟨w.heap.size+1,1,none⟩) hq1 _).far (p:=⟨w.heap.size+1,2,none⟩) hq1 _).far (p:=⟨w.heap.size+1,3,none⟩) hq1 _).far (p:=⟨w.heap.size+1,4,none⟩) hq1 _).far (p:=⟨w.heap.size+1,5,none⟩) hq1 _).far (p:=⟨w.heap.size+1,6,none⟩) hq1 _).far (p:=⟨w.heap.size+1,7,none⟩) hq1 _).far (p:=⟨w.heap.size+1,8,none⟩) hq1 _).far (p:=⟨w.heap.size+1,9,none⟩) hq1 _)
end
end Go.Proofs.YtclpapddejgpnaaDoor
