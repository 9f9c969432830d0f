/- The texts Ref11b, List, TrimC (what is wanted of them), one after the other. -/
import Derived.Test.YtbpmeppdjicmhaaGreatDoorMg30
namespace Go.Proofs.YtbpmeppdjicmhaaGreatDoor
open Go.ChangeShapes Go.WideShapes Go.ChangeAt Go.RowKit
set_option linter.unusedVariables false
set_option linter.unusedSimpArgs false
set_option maxRecDepth 100000
section
attribute [local simp] AllK KnowsV look Is
def GotU (base:Nat)(l:List Int):Fact:=fun v w=>Got w base 5 .u8 v l
theorem stable_gotu (base:Nat)(l:List Int):stable (GotU base l):=fun v w w' h hb=>Got.below h hb (Nat.le_refl _)
theorem valid_kids11 {k e n:Int}{d:List Int}{ks:List Nd}(h:validN (.mk k e n d ks)=true):(∀y∈ks,validN y=true)∧(k=1→d.length % 8=0):=by
 simp only [validN,Bool.and_eq_true] at h
 obtain⟨h1,h2⟩:=h
 refine⟨fun y hy=>?_,fun hk=>?_⟩
 ·obtain⟨j,hj,rfl⟩:=List.getElem_of_mem hy
  rcases Bool.eq_false_or_eq_true (validN ks[j]) with h3|h3
  ·exact h3
  ·have:=validK_no k e ks j hj (by rw [h3];rfl)
   rw [h1] at this
   cases this
 ·unfold headB at h2
  rw [if_neg (by omega),if_pos hk,decide_eq_true_iff] at h2
  exact h2.2.2.1
theorem trim_eq (k e n:Int)(d:List Int)(ks:List Nd):trimN (.mk k e n d ks)=.mk k e n (d.take (if k=1 then 8*wordsT d else d.length)) ((trimK ks).take (if k=1 then ptrsT ks else ks.length)):=by
 simp only [trimN]
 split
 ·rfl
 ·rw [List.take_length,←trimK_length,List.take_length]
set_option maxHeartbeats 8000000 in
set_option maxRecDepth 100000 in
theorem RefTrim11_node:∀(x:Nd) (A:Option Addr) (c:Nat) (B:Option Addr) (c2:Nat) (w:World),NdR w A c B c2 x→sizeN x≤1099511627776→validN x=true →
  Calls Tryz.prog 28 #[.agg #[.int .i64 x.k,.int .i64 x.e,.int .i64 x.n,.slice A x.d.length c,.slice B x.ks.length c2]] w fun r w'=>∃v,r=.returned v∧NodF w.heap.size (trimN x) v w'∧Below w.heap.size w w':=by
 refine Nd.ind ?_
 intro k e n d ks ih A c B c2 w hx hs hv
 simp only [Nd.k,Nd.e,Nd.n,Nd.d,Nd.ks]
 obtain⟨i8,hi8,hy0,hy1,hy2⟩:=info_parts int8_info
 have HX:=Lib.hid hx
 have HI:=Lib.hid ih
 have HO:=Lib.hid hx.open
 have HVK:=Lib.hid (valid_kids11 hv).1
 have hso:sizeN (.mk k e n d ks)=1+d.length+sizeK ks:=by simp only [sizeN]
 rw [hso] at hs
 have hkl:=sizeK_length ks
 have hdl:d.length≤1099511627776:=by omega
 have HD:=Lib.hid hx.open.2.2.2.1
 have HBT:=Lib.hid hx.open.2.2.2.2.1
 have HAN:=Lib.hid hx.open.2.2.2.2.2.2.2.1
 have HWD:=Lib.hid (fun w' (hb:Below w.heap.size w w')=>RefWords11_any A c d w' (HD.out.below hb (Nat.le_refl _)) HBT.out hdl)
 have HPT:=Lib.hid (fun w' (hb:Below w.heap.size w w')=>RefPointers11_any B c2 ks w' (HX.out.kids.on hb (Nat.le_refl _)) (by omega))
 have hDK:∃D K:Nat,D≤d.length∧K≤ks.length∧trimN (.mk k e n d ks)=.mk k e n (d.take D) ((trimK ks).take K)∧((k=1∧8*wordsT d=D∧ptrsT ks=K)∨(k≠1∧D=d.length∧K=ks.length)):=by
  by_cases h1:k=1
  ·exact⟨8*wordsT d,ptrsT ks,wordsT_le d ((valid_kids11 hv).2 h1),ptrsT_le ks,by rw [trim_eq,if_pos h1,if_pos h1],.inl ⟨h1,rfl,rfl⟩⟩
  ·exact⟨d.length,ks.length,Nat.le_refl _,Nat.le_refl _,by rw [trim_eq,if_neg h1,if_neg h1],.inr ⟨h1,rfl,rfl⟩⟩
 obtain⟨D,K,hDl,hKl,hT,hcase⟩:=hDK
 have HT:=Lib.hid hT
 have HDL:Hid ((d.take D).length=D):=Lib.hid (by rw [List.length_take];omega)
 have HKL:Hid (((trimK ks).take K).length=K):=Lib.hid (by rw [List.length_take,trimK_length];omega)
 have hwb:(8*wordsT d=D→wordsT d≤1099511627776):=by omega
 clear hx ih hso hv hT
 generalize trimN (.mk k e n d ks)=tx at *
 go_enter Tryz.func28,Tryz.ntmps28
 have hb0:∀o1 o2,Below w.heap.size w ((w.alloc o1).alloc o2):=fun o1 o2=>((Below.refl _ _).alloc (Nat.le_refl _) _).alloc (by simp) _
 have HB0:=Lib.hid hb0
 clear hb0
 rcases hcase with ⟨h1,hDD,hPP⟩|⟨h1,hDD,hPP⟩
 have t1:(k==1)=true:=by simpa using h1
 have hwb':=hwb hDD
 have EDD:Hid (8*((wordsT d:Nat):Int)=((D:Nat):Int)):=Lib.hid (by omega)
 have EPP:Hid (((ptrsT ks:Nat):Int)=((K:Nat):Int)):=Lib.hid (by omega)
 have H1:=Lib.hid h1
 clear h1 hDD hPP hwb
 go_wp2_with fail
 refine(HWD.out _ (HB0.out _ _)).mono ?_
 rintro r w' ⟨rfl,rfl⟩
 go_wp2_with fail
 refine(HPT.out _ (HB0.out _ _)).mono ?_
 rintro r w' ⟨rfl,rfl⟩
 go_wp2
 simp only [EDD.out,EPP.out]
 rotate_left
 have t1:(k==1)=false:=by simpa using h1
 have EDD:Hid (((d.length:Nat):Int)=((D:Nat):Int)):=Lib.hid (by omega)
 have EPP:Hid (((ks.length:Nat):Int)=((K:Nat):Int)):=Lib.hid (by omega)
 have H1:=Lib.hid h1
 clear h1 hDD hPP hwb
 go_wp2
 simp only [EDD.out,EPP.out]
 all_goals
  refine abs_code10 (F:=fun W=>Blk W w.heap.size #[.int .i64 k,.int .i64 e,.int .i64 n,.slice A d.length c,.slice B ks.length c2]∧Blk W (w.heap.size+1) #[.int .i64 0,.int .i64 0,.int .i64 0,.slice none 0 0,.slice none 0 0]∧Blk W (w.heap.size+1+1) #[.int .i64 k,.int .i64 e,.int .i64 n,.slice none 0 0,.slice none 0 0]∧Below w.heap.size w W∧w.heap.size+1+1+1≤W.heap.size) ⟨?_,?_,?_,?_,?_⟩ ?_
  ·exact((Blk.fresh _ _ _).alloc _).alloc _
  ·exact(Blk.new (by simp)).alloc _
  ·exact Blk.new (by simp)
  ·exact(HB0.out _ _).alloc (by simp;omega) _
  ·simp
  rintro W ⟨hB1,hB2,hB3,hbw,hszW⟩
  have HW1:=Lib.hid hB1
  have HW2:=Lib.hid hB2
  have HW3:=Lib.hid hB3
  have HWB:=Lib.hid hbw
  clear hB1 hB2 hB3 hbw
  go_loopw [6] (fun i wr=>∃(j:Nat) (v:Value),j≤D∧i=.int .i64 j∧Blk wr w.heap.size #[.int .i64 k,.int .i64 e,.int .i64 n,.slice A d.length c,.slice B ks.length c2]∧Blk wr (w.heap.size+1) #[.int .i64 0,.int .i64 0,.int .i64 0,.slice none 0 0,.slice none 0 0]∧Blk wr (w.heap.size+1+1) #[.int .i64 k,.int .i64 e,.int .i64 n,v,.slice none 0 0]∧Got wr (w.heap.size+1+1+1) 5 .u8 v (d.take j)∧Below w.heap.size w wr∧w.heap.size+1+1+1≤wr.heap.size) (fun i _=>D-(intOf i).toNat)
  case atStart=>exact⟨0,.slice none 0 0,by omega,rfl,HW1.out,HW2.out,HW3.out,Got.empty _ _ _ _,HWB.out,hszW⟩
  case round=>
   obtain⟨j,v,hj,rfl,hB1,hB2,hB3,hg,hbr,hszr⟩:=hrel
   have HR:=Lib.hid hbr
   have HC1:=Lib.hid hB1
   have HC2:=Lib.hid hB2
   have HC3:=Lib.hid hB3
   have HG:=Lib.hid hg
   clear hbr hg hB2
   obtain⟨x1,y1,z1⟩:=hB1
   obtain⟨x3,y3,z3⟩:=hB3
   by_cases hlt:j<D
   ·obtain⟨b,off,rfl,hcd⟩:=(HD.out.below HR.out (Nat.le_refl _)).at (i:=j) (by omega)
    have hcj:=hcd j (by omega)
    have hblt:b<w.heap.size:=by
     obtain⟨b',off',hBe,hcd'⟩:=HD.out.at (i:=j) (by omega)
     injection hBe with hBe
     injection hBe with hBe
     subst hBe
     exact World.block_lt_of_cell? w ⟨b,off'+j,none⟩ (hcd' j (by omega))
    have hzj:=HBT.out.at j
    have hTK:d.take (j+1)=d.take j++[zat d j]:=take_succ_zat d j (by omega)
    have HTK:=Lib.hid hTK
    have hln:(d.take j).length=j:=by rw [List.length_take];omega
    have HLN:=Lib.hid hln
    have hkn:∀wc,Keeps (fun q=>w.heap.size+1+1+1≤q) wr.drew wc→wc.cell? ⟨b,off+j,none⟩=some (.int .u8 (zat d j)):=by
     intro wc hk
     have hb:=hk.below (B:=w.heap.size) (by show w.heap.size≤wr.heap.size;omega) (fun q hq=>by omega)
     exact(hb.cell (p:=⟨b,_,none⟩) hblt).trans hcj
    have HKN:=Lib.hid hkn
    have hD1:∀wc,Keeps (fun q=>w.heap.size+1+1+1≤q) wr.drew wc→Blk wc w.heap.size #[.int .i64 k,.int .i64 e,.int .i64 n,.slice (some ⟨b,off,none⟩) d.length c,.slice B ks.length c2]:=fun wc hk=>HC1.out.drew.keeps hk (by omega)
    have hD2:∀wc,Keeps (fun q=>w.heap.size+1+1+1≤q) wr.drew wc→Blk wc (w.heap.size+1) #[.int .i64 0,.int .i64 0,.int .i64 0,.slice none 0 0,.slice none 0 0]:=fun wc hk=>HC2.out.drew.keeps hk (by omega)
    have hD3:∀wc,Keeps (fun q=>w.heap.size+1+1+1≤q) wr.drew wc→Blk wc (w.heap.size+1+1) #[.int .i64 k,.int .i64 e,.int .i64 n,v,.slice none 0 0]:=fun wc hk=>HC3.out.drew.keeps hk (by omega)
    have HD1:=Lib.hid hD1
    have HD2:=Lib.hid hD2
    have HD3:=Lib.hid hD3
    clear hcd hcj hkn hD1 hD2 hD3 hTK hln
    generalize zat d j=z at *
    have hltD:(j:Int)<(D:Int):=by omega
    have hltL:(j:Int)<(d.length:Int):=by omega
    go_wp2_with fail
    clear x1 y1 z1 x3 y3 z3
    refine wp_region_a10 8 (fun q=>w.heap.size+1+1+1≤q) (by kernel_rfl) (by kernel_rfl) ?_
    refine a_val_l (u:=?_) [5] (by kernel_rfl) rfl (by kernel_rfl) trivial (fun ρ wc hbc hcn hk=>?_) ?_;rotate_left
    ·obtain⟨hcn,-⟩:=hcn
     simp at hk
     go_simp
     rfl
    refine a_val (u:=?_) [38] (by kernel_rfl) rfl rfl (by kernel_rfl) trivial (fun ρ wc hbc hcn hk=>?_) ?_;rotate_left
    ·obtain⟨hcn,-⟩:=hcn
     simp at hk
     obtain⟨x3,y3,z3⟩:=HD3.out wc (keeps_of hbc)
     go_simp
     rfl
    refine a_val_l (u:=?_) [1] (by kernel_rfl) rfl (by kernel_rfl) trivial (fun ρ wc hbc hcn hk=>?_) ?_;rotate_left
    ·obtain⟨hcn,-⟩:=hcn
     simp at hk
     go_simp
     rfl
    refine a_val_l (u:=?_) [40] (by kernel_rfl) rfl (by kernel_rfl) trivial (fun ρ wc hbc hcn hk=>?_) ?_;rotate_left
    ·obtain⟨hcn,-⟩:=hcn
     simp at hk
     obtain⟨x1,y1,z1⟩:=HD1.out wc hbc
     go_simp
     rfl
    refine a_val_l (u:=?_) [6] (by kernel_rfl) rfl (by kernel_rfl) trivial (fun ρ wc hbc hcn hk=>?_) ?_;rotate_left
    ·obtain⟨hcn,-⟩:=hcn
     simp at hk
     go_simp
     rfl
    refine a_val_l (u:=?_) [41,42] (by kernel_rfl) rfl (by kernel_rfl) trivial (fun ρ wc hbc hcn hk=>?_) ?_;rotate_left
    ·obtain⟨hcn,-⟩:=hcn
     simp at hk
     go_simp
     rfl
    refine a_val_l (u:=?_) [43] (by kernel_rfl) rfl (by kernel_rfl) trivial (fun ρ wc hbc hcn hk=>?_) ?_;rotate_left
    ·obtain⟨hcn,-⟩:=hcn
     simp at hk
     have hc0:=HKN.out wc hbc
     go_simp
     rfl
    refine a_new (T:=DatF [z]) [44] (by kernel_rfl) rfl rfl (by kernel_rfl) trivial (stable_datf _) (fun ρ wc hbc hcn hk=>?_) ?_
    ·obtain⟨hcn,-⟩:=hcn
     simp at hk
     exact⟨.slice (some ⟨wc.heap.size,0,none⟩) 1 1,wc.alloc (.cells #[.int .u8 z] 5),by go_simp,⟨_,_,rfl,Ri.lit wc .u8 [z] _,by simp,by unfold maxLen;simp,fun h=>by cases h⟩,(Below.refl _ _).alloc (Nat.le_refl _) _⟩
    refine a_sp (T:=GotU (w.heap.size+1+1+1) (d.take j++[z])) [39,45] rfl rfl (by kernel_rfl) trivial (stable_gotu _ _) (fun a wc hbc hcn hk=>?_) ?_
    ·obtain⟨h39,⟨A5,c5,h45,hr5,hl5,hm5,hn5⟩,-⟩:=hk
     refine wpList_appN rfl (.tmp 39) (.tmp 45) 36 rfl Tryz.underlying36 hi8 hy0 hy1 hy2 h39 (HG.out.below (B:=wr.heap.size) ⟨hbc.os,hbc.tape,hbc.output,hbc.size,hbc.block⟩ (Nat.le_refl _)) h45 hr5 hn5 (by rw [HLN.out];unfold maxLen;simp;omega) (by rw [HLN.out];simp;omega) (Nat.le_trans hszr hbc.size) ?_
     intro v' w' hg' hb'
     refine⟨rfl,v',rfl,hg',?_⟩
     rw [if_pos rfl]
     exact⟨hb'.os,hb'.tape,hb'.output,hb'.size,fun q1 h1 h2=>hb'.block q1 (by omega)⟩
    refine a_val_l (u:=?_) [5] (by kernel_rfl) rfl (by kernel_rfl) trivial (fun ρ wc hbc hcn hk=>?_) ?_;rotate_left
    ·obtain⟨hcn,-⟩:=hcn
     simp at hk
     go_simp
     rfl
    refine a_end_lit 65 rfl (fun ff w7 hb7 hk=>?_)
    have hO2:Got w7 (w.heap.size+1+1+1) 5 .u8 (ff 46) (d.take j++[z]):=allN_at10d hk 46 (by decide) (by decide)
    simp [AllN] at hk
    simp only [frameL,hk,Nat.zero_add,Nat.reduceAdd]
    obtain⟨B8,c8,hv8,-⟩:=hO2.slice
    rw [show (d.take j++[z]).length=j+1 by rw [List.length_append,HLN.out];rfl] at hv8
    have HO2:=Lib.hid hO2
    have HB7:=Lib.hid hb7
    have hs7:wr.heap.size≤w7.heap.size:=hb7.size
    clear hO2 hb7 hk
    rw [hv8] at HO2
    rw [hv8]
    clear hv8
    generalize ff 45=v45
    obtain⟨x3,y3,z3⟩:=HD3.out w7 HB7.out
    go_wp2
    go_roundw
    case rel=>
     refine⟨j+1,_,by omega,by go_num,(HD1.out w7 HB7.out).other (by show w.heap.size+1+1≠w.heap.size;omega) _,(HD2.out w7 HB7.out).other (by show w.heap.size+1+1≠w.heap.size+1;omega) _,(HD3.out w7 HB7.out).set 3 (by simp) _,?_,?_,by simp;omega⟩
     ·rw [HTK.out]
      exact Got.far (p:=⟨w.heap.size+1+1,3,none⟩) HO2.out (by show w.heap.size+1+1<w.heap.size+1+1+1;omega) _
     ·refine Below.setCell ?_ (by show w.heap.size≤w.heap.size+1+1;omega) _
      exact(bel_drew HR.out).trans (HB7.out.below (B:=w.heap.size) (by show w.heap.size≤wr.heap.size;omega) (fun q hq=>by omega))
    case measure=>simp [intOf];omega
   ·obtain rfl:j=D:=by omega
    rename World=>wo
    obtain⟨A2,c3,he2,-⟩:=HG.out.slice
    rw [HDL.out] at he2
    subst he2
    go_wp2
    clear x1 y1 z1 x3 y3 z3
    go_loopw [7] (fun i wr=>∃(q:Nat) (v:Value),q≤K∧i=.int .i64 q∧Blk wr w.heap.size #[.int .i64 k,.int .i64 e,.int .i64 n,.slice A d.length c,.slice B ks.length c2]∧Blk wr (w.heap.size+1) #[.int .i64 0,.int .i64 0,.int .i64 0,.slice none 0 0,.slice none 0 0]∧Blk wr (w.heap.size+1+1) #[.int .i64 k,.int .i64 e,.int .i64 n,.slice A2 j c3,v]∧OwnN wo.heap.size wr v ((trimK ks).take q)∧(∀g,w.heap.size+1+1+1≤g→g<wo.heap.size→wr.heap[g]?=wo.heap[g]?)∧wo.heap.size≤wr.heap.size∧Below w.heap.size w wr) (fun i _=>K-(intOf i).toNat)
    case atStart=>exact⟨0,.slice none 0 0,by omega,rfl,HC1.out,HC2.out,HC3.out,OwnN.empty _ _,fun _ _ _=>rfl,Nat.le_refl _,HR.out⟩
    case round=>
     obtain⟨q,v,hq,rfl,hB1,hB2,hB3,hown,hdat,hszr5,hbr⟩:=hrel
     have HR5:=Lib.hid hbr
     have HE1:=Lib.hid hB1
     have HE2:=Lib.hid hB2
     have HE3:=Lib.hid hB3
     have HOW:=Lib.hid hown
     have HDA:=Lib.hid hdat
     clear hbr hown hdat hB2
     obtain⟨x1,y1,z1⟩:=hB1
     obtain⟨x3,y3,z3⟩:=hB3
     by_cases hlt:q<K
     ·have hltk:q<ks.length:=by omega
      obtain⟨b,off,Aa,ca,Ba,cb,rfl,k0,k1,k2,k3,k4,hsub⟩:=HX.out.kids.atIn HR5.out (Nat.le_refl _) hltk
      have hz:=sizeN_kid (List.getElem_mem hltk)
      have HC:=Lib.hid (fun w' (hb:Below wr.heap.size wr w')=>HI.out ks[q] (List.getElem_mem hltk) Aa ca Ba cb w' (hsub.on (bel_on HR5.out hb) (Nat.le_refl _)) (by omega) (HVK.out _ (List.getElem_mem hltk)))
      have hblt:b<w.heap.size:=by
       obtain⟨b',off',_,_,_,_,hBe,h0,_⟩:=HX.out.kids.at hltk
       injection hBe with hBe
       injection hBe with hBe
       subst hBe
       exact World.block_lt_of_cell? w ⟨b,off'+q*5,none⟩ h0
      have hkn:∀wc,Keeps (fun g=>wo.heap.size≤g) wr.drew wc→wc.cell? ⟨b,off+q*5,none⟩=some (.int .i64 ks[q].k)∧wc.cell? ⟨b,off+q*5+1,none⟩=some (.int .i64 ks[q].e)∧wc.cell? ⟨b,off+q*5+2,none⟩=some (.int .i64 ks[q].n)∧wc.cell? ⟨b,off+q*5+3,none⟩=some (.slice Aa ks[q].d.length ca)∧wc.cell? ⟨b,off+q*5+4,none⟩=some (.slice Ba ks[q].ks.length cb):=by
       intro wc hk
       have hb:=hk.below (B:=w.heap.size) (by show w.heap.size≤wr.heap.size;omega) (fun g hg=>by omega)
       exact⟨(hb.cell (p:=⟨b,_,none⟩) hblt).trans k0,(hb.cell (p:=⟨b,_,none⟩) hblt).trans k1,(hb.cell (p:=⟨b,_,none⟩) hblt).trans k2,(hb.cell (p:=⟨b,_,none⟩) hblt).trans k3,(hb.cell (p:=⟨b,_,none⟩) hblt).trans k4⟩
      have HKN:=Lib.hid hkn
      have hD1:∀wc,Keeps (fun g=>wo.heap.size≤g) wr.drew wc→Blk wc w.heap.size #[.int .i64 k,.int .i64 e,.int .i64 n,.slice A d.length c,.slice (some ⟨b,off,none⟩) ks.length c2]:=fun wc hk=>HE1.out.drew.keeps hk (by omega)
      have hD2:∀wc,Keeps (fun g=>wo.heap.size≤g) wr.drew wc→Blk wc (w.heap.size+1) #[.int .i64 0,.int .i64 0,.int .i64 0,.slice none 0 0,.slice none 0 0]:=fun wc hk=>HE2.out.drew.keeps hk (by omega)
      have hD3:∀wc,Keeps (fun g=>wo.heap.size≤g) wr.drew wc→Blk wc (w.heap.size+1+1) #[.int .i64 k,.int .i64 e,.int .i64 n,.slice A2 j c3,v]:=fun wc hk=>HE3.out.drew.keeps hk (by omega)
      have HD1:=Lib.hid hD1
      have HD2:=Lib.hid hD2
      have HD3:=Lib.hid hD3
      have hTK:(trimK ks).take (q+1)=(trimK ks).take q++[trimN ks[q]]:=by
       rw [List.take_succ_eq_append_getElem (by rw [trimK_length];exact hltk),trimK_get ks q hltk]
      have HTK:=Lib.hid hTK
      have hln:((trimK ks).take q).length=q:=by rw [List.length_take,trimK_length];omega
      have HLN:=Lib.hid hln
      have hltK:(q:Int)<(K:Int):=by omega
      have hltL:(q:Int)<(ks.length:Int):=by omega
      clear hkn hD1 hD2 hD3 hsub k0 k1 k2 k3 k4 hTK hln
      generalize trimN ks[q]=ky at *
      generalize ks[q]=kx at *
      go_wp2_with fail
      clear x1 y1 z1 x3 y3 z3
      refine wp_region_a11 9 (fun g=>wo.heap.size≤g) (by kernel_rfl) (by kernel_rfl) ?_
      refine a_val_l (u:=?_) [5] (by kernel_rfl) rfl (by kernel_rfl) trivial (fun ρ wc hbc hcn hk=>?_) ?_;rotate_left
      ·obtain⟨hcn,-⟩:=hcn
       simp at hk
       go_simp
       rfl
      refine a_val (u:=?_) [53] (by kernel_rfl) rfl rfl (by kernel_rfl) trivial (fun ρ wc hbc hcn hk=>?_) ?_;rotate_left
      ·obtain⟨hcn,-⟩:=hcn
       simp at hk
       obtain⟨x3,y3,z3⟩:=HD3.out wc (keeps_of hbc)
       go_simp
       rfl
      refine a_val_l (u:=?_) [1] (by kernel_rfl) rfl (by kernel_rfl) trivial (fun ρ wc hbc hcn hk=>?_) ?_;rotate_left
      ·obtain⟨hcn,-⟩:=hcn
       simp at hk
       go_simp
       rfl
      refine a_val_l (u:=?_) [55] (by kernel_rfl) rfl (by kernel_rfl) trivial (fun ρ wc hbc hcn hk=>?_) ?_;rotate_left
      ·obtain⟨hcn,-⟩:=hcn
       simp at hk
       obtain⟨x1,y1,z1⟩:=HD1.out wc hbc
       go_simp
       rfl
      refine a_val_l (u:=?_) [7] (by kernel_rfl) rfl (by kernel_rfl) trivial (fun ρ wc hbc hcn hk=>?_) ?_;rotate_left
      ·obtain⟨hcn,-⟩:=hcn
       simp at hk
       go_simp
       rfl
      refine a_val_l (u:=?_) [56,57] (by kernel_rfl) rfl (by kernel_rfl) trivial (fun ρ wc hbc hcn hk=>?_) ?_;rotate_left
      ·obtain⟨hcn,-⟩:=hcn
       simp at hk
       go_simp
       rfl
      refine a_val_l (u:=?_) [58] (by kernel_rfl) rfl (by kernel_rfl) trivial (fun ρ wc hbc hcn hk=>?_) ?_;rotate_left
      ·obtain⟨hcn,-⟩:=hcn
       simp at hk
       obtain⟨k0,k1,k2,k3,k4⟩:=HKN.out wc hbc
       go_simp
       rfl
      refine a_call (T:=NodF wr.heap.size ky) 28 [59] (by kernel_rfl) rfl rfl (by kernel_rfl) trivial (stable_nod _ _) (fun ρ wc hbc hcn hk=>?_) ?_
      ·obtain⟨hcn,hfn⟩:=hcn
       simp at hk
       refine⟨_,by go_simp;rfl,?_⟩
       refine(HC.out wc ⟨hbc.os,hbc.tape,hbc.output,hbc.size,hbc.block⟩).mono ?_
       rintro r w' ⟨v5,rfl,⟨A5,c5,B5,c6,hi5,rfl,h5,h6⟩,hb5⟩
       exact⟨_,rfl,⟨A5,c5,B5,c6,hi5,rfl,h5,h6.wide hbc.size (Nat.le_refl _)⟩,hb5⟩
      refine a_new (T:=OneF wr.heap.size ky) [60] (by kernel_rfl) rfl rfl (by kernel_rfl) trivial (stable_one _ _) (fun ρ wc hbc hcn hk=>?_) ?_
      ·obtain⟨hcn,hfn⟩:=hcn
       simp at hk
       obtain⟨A5,c5,B5,c6,hi5,h4,h5,h6⟩:=hk
       refine⟨.slice (some ⟨wc.heap.size,0,none⟩) 1 1,wc.alloc (.cells (fiveC ky A5 c5 B5 c6).toArray 39),?_,⟨wc.heap.size,A5,c5,B5,c6,hi5,rfl,fun o ho=>?_,?_,h6.below ((Below.refl _ _).alloc (Nat.le_refl _) _) h5⟩,(Below.refl _ _).alloc (Nat.le_refl _) _⟩
       ·go_simp
        rfl
       ·rw [blk_new]
        simp
       ·simp;omega
      refine a_sp (T:=OwnF wo.heap.size ((trimK ks).take q++[ky])) [54,61] rfl rfl (by kernel_rfl) trivial (stable_ownF _ _) (fun a wc hbc hcn hk=>?_) ?_
      ·obtain⟨h20,h27,-⟩:=hk
       obtain⟨qq,A5,c5,B5,c6,hi5,h4,h5,h6,h7⟩:=h27
       refine wpList_appO rfl (.tmp 54) (.tmp 61) 37 rfl Tryz.underlying37 h20 (HOW.out.below (N:=wr.heap.size) ⟨hbc.os,hbc.tape,hbc.output,hbc.size,hbc.block⟩ (Nat.le_refl _)) h4 h5 hszr5 h6 (fun g hg=>?_) h7 (by rw [HLN.out];omega) (Nat.le_trans hszr5 hbc.size) ?_
       ·obtain⟨vs,hv1,_⟩:=HOW.out
        exact(hv1.lt g hg).2
       ·intro v' w' hown' hgr
        refine⟨rfl,v',rfl,hown',?_⟩
        rw [if_pos rfl]
        refine⟨hgr.os,hgr.tape,hgr.output,hgr.size,fun q1 h1 h2=>hgr.block q1 h1 fun e=>h2 ?_⟩
        obtain⟨vs,hv1,_⟩:=HOW.out
        exact(hv1.lt q1 e.symm).1
      refine a_val_l (u:=?_) [5] (by kernel_rfl) rfl (by kernel_rfl) trivial (fun ρ wc hbc hcn hk=>?_) ?_;rotate_left
      ·obtain⟨hcn,-⟩:=hcn
       simp at hk
       go_simp
       rfl
      refine a_end_lit 65 rfl (fun ff w7 hb7 hk=>?_)
      have hO2:OwnN wo.heap.size w7 (ff 62) ((trimK ks).take q++[ky]):=allN_at10d hk 62 (by decide) (by decide)
      simp [AllN] at hk
      simp only [frameL,hk,Nat.zero_add,Nat.reduceAdd]
      obtain⟨B8,c8,hv8,-⟩:=hO2.slice
      rw [show ((trimK ks).take q++[ky]).length=q+1 by rw [List.length_append,HLN.out];rfl] at hv8
      have HO2:=Lib.hid hO2
      have HB7:=Lib.hid hb7
      have hs7:wr.heap.size≤w7.heap.size:=hb7.size
      clear hO2 hb7 hk
      rw [hv8] at HO2
      rw [hv8]
      clear hv8
      generalize ff 60=v60
      generalize ff 61=v61
      obtain⟨x3,y3,z3⟩:=HD3.out w7 HB7.out
      go_wp2
      go_roundw
      case rel=>
       refine⟨q+1,_,by omega,by go_num,(HD1.out w7 HB7.out).other (by show w.heap.size+1+1≠w.heap.size;omega) _,(HD2.out w7 HB7.out).other (by show w.heap.size+1+1≠w.heap.size+1;omega) _,(HD3.out w7 HB7.out).set 4 (by simp) _,?_,fun g h1 h2=>?_,by simp;omega,?_⟩
       ·refine OwnN.cast ?_ HTK.out.symm
        exact OwnN.far (p:=⟨w.heap.size+1+1,4,none⟩) HO2.out (by show w.heap.size+1+1<wo.heap.size;omega) _
       ·rw [Below.heap_setCell _ _ _ _ (by show g≠w.heap.size+1+1;omega),HB7.out.block g (by show g<wr.heap.size;omega) (by omega)]
        exact HDA.out g h1 h2
       ·refine Below.setCell ?_ (by show w.heap.size≤w.heap.size+1+1;omega) _
        exact(bel_drew HR5.out).trans (HB7.out.below (B:=w.heap.size) (by show w.heap.size≤wr.heap.size;omega) (fun g hg=>by omega))
      case measure=>simp [intOf];omega
     ·obtain rfl:q=K:=by omega
      obtain⟨B9,c9,he9,-⟩:=HOW.out.slice
      have hlK:((trimK ks).take q).length=q:=HKL.out
      rw [hlK] at he9
      subst he9
      have hgd:Got wr (w.heap.size+1+1+1) 5 .u8 (.slice A2 (d.take j).length c3) (d.take j):=got_agree (HG.out.cast (by rw [HDL.out]) rfl) fun g h1 h2=>HDA.out g h1 h2
      have hO:=HO.out
      have HN:=Lib.hid ((HOW.out.mono (base':=w.heap.size+1+1+1) (by omega)).node hO.1 hO.2.1 hO.2.2.1 hgd (fun z hz=>HBT.out z (List.mem_of_mem_take hz)))
      rw [←HT.out] at HN
      clear hgd hO
      obtain⟨x2,y2,z2⟩:=HE2.out
      go_wp2
      refine abs_post (F:=fun W=>Blk W (w.heap.size+1) #[.int .i64 k,.int .i64 e,.int .i64 n,.slice A2 j c3,.slice B9 q c9]∧NdO (w.heap.size+1+1+1) W.heap.size W A2 c3 B9 c9 tx∧Below w.heap.size w W) ⟨?_,?_,?_⟩ ?_
      ·exact((((HE2.out.set 0 (by simp) _).set 1 (by simp) _).set 2 (by simp) _).set 3 (by simp) _).set 4 (by simp) _
      ·have e5:∀g,g≠w.heap.size+1→(((((wr.setCell ⟨w.heap.size+1,0,none⟩ (.int .i64 k)).setCell ⟨w.heap.size+1,1,none⟩ (.int .i64 e)).setCell ⟨w.heap.size+1,2,none⟩ (.int .i64 n)).setCell ⟨w.heap.size+1,3,none⟩ (.slice A2 j c3)).setCell ⟨w.heap.size+1,4,none⟩ (.slice B9 q c9)).heap[g]?=wr.heap[g]?:=by
        intro g hg
        rw [Below.heap_setCell _ _ _ _ hg,Below.heap_setCell _ _ _ _ hg,Below.heap_setCell _ _ _ _ hg,Below.heap_setCell _ _ _ _ hg,Below.heap_setCell _ _ _ _ hg]
       simpa using HN.out.to fun g g1 _=>e5 g (by omega)
      ·refine Below.setCell (Below.setCell (Below.setCell (Below.setCell (Below.setCell HR5.out ?_ _) ?_ _) ?_ _) ?_ _) ?_ _<;>(show w.heap.size≤w.heap.size+1;omega)
      rintro W5 ⟨B6,hN,hbw⟩
      have hve:Value.agg #[.int .i64 k,.int .i64 e,.int .i64 n,.slice A2 j c3,.slice B9 q c9]=.agg #[.int .i64 tx.k,.int .i64 tx.e,.int .i64 tx.n,.slice A2 tx.d.length c3,.slice B9 tx.ks.length c9]:=by
       rw [HT.out]
       simp only [Nd.k,Nd.e,Nd.n,Nd.d,Nd.ks,HDL.out,HKL.out]
      exact bodyPost_ret (v:=.agg #[.int .i64 k,.int .i64 e,.int .i64 n,.slice A2 j c3,.slice B9 q c9]) (by simp [results,Tryz.results28,go_sem,B6.cell]) rfl ⟨_,rfl,⟨A2,c3,B9,c9,_,hve,Nat.le_refl _,hN.wide (by omega) (Nat.le_refl _)⟩,hbw⟩
end
section
theorem elemZ_bits (k:Nat)(h:k≤7):elemZ.getD k 0=bitsI k:=by
 rcases(by omega:k=0∨k=1∨k=2∨k=3∨k=4∨k=5∨k=6∨k=7) with h|h|h|h|h|h|h|h<;>subst h<;>rfl
theorem LBits_any (e:Int)(w:World)(hT:TabOK w)(h0:0≤e)(h7:e≤7):Calls Tryz.prog 144 #[.int .i64 e] w fun r w'=>r=.returned (.int .i64 (bitsI e))∧w=w':=by
 obtain⟨k,rfl⟩:=Int.eq_ofNat_of_zero_le h0
 have hk:k≤7:=by omega
 have hc:=hT k (by omega)
 rw [elemZ_bits k hk] at hc
 have HT:=Lib.hid hT
 generalize bitsI k=x at *
 clear hT
 go_enter Tryz.func144,Tryz.ntmps144
 go_wp2
 go_ret
 exact⟨rfl,rfl⟩
theorem totalBits_any (e c:Int)(w:World)(hT:TabOK w)(h0:0≤e)(h7:e≤7)(hc:0≤c)(h1:c≤536870911):Calls Tryz.prog 134 #[.int .i64 e,.int .i64 c] w fun r w'=>r=.returned (.int .i64 (bitsI e*c))∧w=w':=by
 have HB:=Lib.hid (LBits_any e w hT h0 h7)
 obtain⟨m0,m1⟩:=bitsI_mul e c hc
 clear hT
 generalize bitsI e=x at *
 go_enter Tryz.func134,Tryz.ntmps134
 go_wp2_with fail
 refine HB.out.mono ?_
 rintro e w' ⟨rfl,rfl⟩
 go_wp2
 go_ret
 exact⟨rfl,rfl⟩
theorem units_any (e c s:Int)(w:World)(hT:TabOK w)(h0:0≤e)(h7:e≤7)(hc:0≤c)(h1:c≤536870911)(hs:s=8∨s=64):Calls Tryz.prog 116 #[.int .i64 e,.int .i64 c,.int .i64 s] w fun r w'=>r=.returned (.int .i64 ((bitsI e*c+s-1) / s))∧w=w':=by
 have HB:=Lib.hid (totalBits_any e c w hT h0 h7 hc h1)
 obtain⟨m0,m1⟩:=bitsI_mul e c hc
 clear hT
 generalize bitsI e*c=x at *
 rcases hs with rfl|rfl
 all_goals
  go_enter Tryz.func116,Tryz.ntmps116
  go_wp2_with fail
  refine HB.out.mono ?_
  rintro e w' ⟨rfl,rfl⟩
  go_wp2
  go_ret
  exact⟨rfl,rfl⟩
theorem LWords_any (e c:Int)(w:World)(hT:TabOK w)(h0:0≤e)(h7:e≤7)(hc:0≤c)(h1:c≤536870911):Calls Tryz.prog 101 #[.int .i64 e,.int .i64 c] w fun r w'=>r=.returned (.int .i64 (wordsI e c))∧w=w':=by
 by_cases he:e=7
 ·subst he
  have HW:Hid (wordsI 7 c=1+c):=Lib.hid (by unfold wordsI;rw [if_pos rfl];omega)
  clear hT
  go_enter Tryz.func101,Tryz.ntmps101
  go_wp2
  go_ret
  exact⟨by rw [HW.out];rfl,rfl⟩
 ·have HW:Hid (wordsI e c=(bitsI e*c+64-1) / 64):=Lib.hid (by unfold wordsI;rw [if_neg he];omega)
  have HB:=Lib.hid (units_any e c 64 w hT h0 h7 hc h1 (.inr rfl))
  have he2:(e==7)=false:=beq_eq_false_iff_ne.2 he
  clear hT he
  rw [←HW.out] at HB
  generalize wordsI e c=x at *
  go_enter Tryz.func101,Tryz.ntmps101
  go_wp2_with fail
  refine HB.out.mono ?_
  rintro e w' ⟨rfl,rfl⟩
  go_wp2
  go_ret
  exact⟨rfl,rfl⟩
theorem LBytes_any (e c:Int)(w:World)(hT:TabOK w)(h0:0≤e)(h5:e≤5)(hc:0≤c)(h1:c≤536870911):Calls Tryz.prog 133 #[.int .i64 e,.int .i64 c] w fun r w'=>r=.returned (.int .i64 (bytesI e c))∧w=w':=by
 have HW:Hid (bytesI e c=(bitsI e*c+8-1) / 8):=Lib.hid (by unfold bytesI;omega)
 have HB:=Lib.hid (units_any e c 8 w hT h0 (by omega) hc h1 (.inl rfl))
 clear hT
 rw [←HW.out] at HB
 generalize bytesI e c=x at *
 go_enter Tryz.func133,Tryz.ntmps133
 go_wp2_with fail
 refine HB.out.mono ?_
 rintro e w' ⟨rfl,rfl⟩
 go_wp2
 go_ret
 exact⟨rfl,rfl⟩
set_option maxRecDepth 100000 in
theorem mask8_fin:∀q:Fin 8,∀z:Fin 256,bits .and .u8 (z.val:Int) ((2 ^ q.val-1) % 256)=(z.val:Int) % p2 q.val:=by decide +kernel
theorem mask8 (q:Nat)(h:q<8)(z:Int)(h0:0≤z)(h1:z<256):bits .and .u8 z ((2 ^ q-1) % 256)=z % p2 q:=by
 have:=mask8_fin ⟨q,h⟩ ⟨z.toNat,by omega⟩
 simpa [Int.toNat_of_nonneg h0] using this
theorem trimL_plain {b:List Int}{e c:Int}{n:Nat}(hn:bytesI e c=n)(hnb:n≤b.length)(he:0≤e)(he5:e≤5)(hc:0≤c)(hu:bitsI e*c % 8=0):trimL b e c=b.take n:=by
 apply ext_zat
 ·rw [trimL_length,hn,List.length_take];omega
 ·intro i hi
  rw [trimL_length,hn] at hi
  have hi2:i<n:=by omega
  rw [trimL_zat _ _ _ _ (by rw [hn];omega),zat_take _ _ _ hi2]
  unfold trimAt
  rw [if_neg]
  rintro⟨rfl,h⟩
  unfold bytesI at hn
  have h4:bitsI 1=1:=rfl
  rw [h4] at hn hu
  omega
theorem trimL_last {b:List Int}{e c:Int}{n:Nat}{q:Nat}(hn:bytesI e c=n)(hnb:n≤b.length)(he:0≤e)(he5:e≤5)(hc:0≤c)(hu:bitsI e*c % 8=q)(hq:0<q):
  1≤n∧q<8∧trimL b e c=(b.take n).set (n-1) (zat b (n-1) % p2 q):=by
 have h1:e=1:=by
  rcases(by omega:e=0∨e=1∨e=2∨e=3∨e=4∨e=5) with h|h|h|h|h|h<;>subst h
  ·rw [show bitsI 0=0 from rfl] at hu;omega
  ·rfl
  ·rw [show bitsI 2=8 from rfl] at hu;omega
  ·rw [show bitsI 3=16 from rfl] at hu;omega
  ·rw [show bitsI 4=32 from rfl] at hu;omega
  ·rw [show bitsI 5=64 from rfl] at hu;omega
 subst h1
 have hn':=hn
 unfold bytesI at hn'
 have h4:bitsI 1=1:=rfl
 rw [h4] at hn' hu
 refine⟨by omega,by omega,?_⟩
 apply ext_zat
 ·rw [trimL_length,hn,List.length_set,List.length_take];omega
 ·intro i hi
  rw [trimL_length,hn] at hi
  have hi2:i<n:=by omega
  rw [trimL_zat _ _ _ _ (by rw [hn];omega)]
  unfold trimAt
  by_cases hl:i=n-1
  ·subst hl
   rw [if_pos ⟨rfl,by omega⟩,show c-8*((n-1:Nat):Int)=q by omega]
   simp [zat,List.getD_eq_getElem?_getD,List.getElem?_set,show n-1<n by omega,show n-1<b.length by omega,show n-1<min n b.length by omega]
  ·rw [if_neg (by rintro⟨-,h⟩;omega)]
   simp [zat,List.getD_eq_getElem?_getD,List.getElem?_set,show n-1≠i by omega,hi2]
attribute [local irreducible] p2
set_option maxRecDepth 100000 in
theorem LTrim_any (A:Option Addr)(cp:Nat)(b:List Int)(e c:Int)(w:World)(hT:TabOK w)(hr:Ri w .u8 A b)(hb:Bts b)(hnil:A=none→cp=0)(hm:b.length≤1099511627776)(hc:b.length≤cp)(hcm:cp≤9223372036854775807)(he0:0≤e)(he5:e≤5)(h0:0≤c)(h1:c≤536870911)(hl:bytesI e c≤b.length):
  Calls Tryz.prog 114 #[.int .i64 e,.int .i64 c,.slice A b.length cp] w fun r w'=>∃v,r=.returned v∧Got w' w.heap.size 5 .u8 v (trimL b e c)∧Below w.heap.size w w':=by
 obtain⟨m0,m1⟩:=bitsI_mul e c h0
 have hB:0≤bytesI e c:=by unfold bytesI;omega
 obtain⟨n,hn⟩:=Int.eq_ofNat_of_zero_le hB
 have hnb:n≤b.length:=by omega
 have hnb2:(n:Int)≤(b.length:Int):=by omega
 have HB:=Lib.hid (LBytes_any e c w hT he0 he5 h0 h1)
 have HTB:=Lib.hid (fun w' (h:TabOK w')=>totalBits_any e c w' h he0 (by omega) h0 h1)
 rw [hn] at HB
 have HT:=Lib.hid hT
 have HTK:Hid (n=(b.take n).length):=Lib.hid (by rw [List.length_take];omega)
 have HCL:=Lib.hid (bytesClone_any A cp (b.take n) w (hr.take n) (by rw [List.length_take];omega) hnil (by rw [List.length_take];omega) n HTK.out)
 obtain⟨q,hq⟩:∃q:Nat,bitsI e*c % 8=q:=⟨(bitsI e*c % 8).toNat,by omega⟩
 have HQ:=Lib.hid hq
 have HP:=Lib.hid (fun h:q=0=>trimL_plain hn hnb he0 he5 h0 (by rw [hq,h];rfl))
 have HLAST:=Lib.hid (fun h:0<q=>trimL_last hn hnb he0 he5 h0 hq h)
 have Hb:=Lib.hid hb
 have hcase:(∃g,A=some g)∨(A=none∧cp=0∧n=0):=by
  cases A with
  | none=>have:=hnil rfl;exact .inr ⟨rfl,this,by omega⟩
  | some g=>exact .inl ⟨g,rfl⟩
 have hq8:q<8:=by omega
 clear hT hr hb hl hn hB hq hnil
 generalize trimL b e c=T at *
 generalize bitsI e*c=x at *
 rcases hcase with ⟨g,rfl⟩|⟨rfl,rfl,rfl⟩
 ·have hz:q=0∨0<q:=by omega
  rcases hz with hz|hz
  ·have HR:=Lib.hid (HP.out hz)
   have tq:(0:Int)<x % 8↔False:=by rw [HQ.out];simp;omega
   clear hz HP HLAST
   go_enter Tryz.func114,Tryz.ntmps114
   go_wp2_with fail
   refine HB.out.mono ?_
   rintro e w' ⟨rfl,rfl⟩
   go_wp2_with fail
   refine HCL.out.mono ?_
   rintro e w1 ⟨v,rfl,hg,hb1⟩
   have HW1:=Lib.hid hb1
   clear hb1
   go_wp2_with fail
   refine(HTB.out _ (HT.out.on HW1.out)).mono ?_
   rintro e w' ⟨rfl,rfl⟩
   go_wp2
   go_ret
   exact⟨_,rfl,hg.cast rfl HR.out.symm,HW1.out⟩
  ·obtain⟨hn1,-,hR⟩:=HLAST.out hz
   obtain⟨m,rfl⟩:∃m,n=m+1:=⟨n-1,by omega⟩
   rw [Nat.add_sub_cancel] at hR
   have HR:=Lib.hid hR
   have tq:0<x % 8:=by rw [HQ.out];omega
   have tq0:0≤x % 8:=by omega
   have tq1:x % 8<8:=by omega
   have HZ:=Lib.hid hz
   clear hz HP HLAST hR
   go_enter Tryz.func114,Tryz.ntmps114
   go_wp2_with fail
   refine HB.out.mono ?_
   rintro e w' ⟨rfl,rfl⟩
   go_wp2_with fail
   refine HCL.out.mono ?_
   rintro e w1 ⟨v,rfl,hg,hb1⟩
   have HW1:=Lib.hid hb1
   clear hb1
   have hlen:(b.take (m+1)).length=m+1:=HTK.out.symm
   obtain⟨A2,c2,rfl,hc2,hm2,_⟩:=hg.slice
   obtain⟨g2,rfl,hg0,hg1,_⟩:=hg.addr (by omega)
   have hcell:=hg.cell m (by omega)
   have hfree:=hg.free m
   rw [zat_take _ _ _ (by omega)] at hcell
   have hzm:=Hb.out.at m
   have hzm0:=hzm.1
   have hzm1:=hzm.2
   have HG:=Lib.hid (fun y=>hg.put m y)
   clear hg hzm
   rw [hlen] at hc2 ⊢
   clear hlen
   go_wp2_with fail
   refine(HTB.out _ (HT.out.on HW1.out)).mono ?_
   rintro e w' ⟨rfl,rfl⟩
   go_wp2
   go_ret
   refine⟨_,rfl,?_,HW1.out.setCell hg0 _⟩
   rw [HR.out,HQ.out,Int.toNat_natCast,mask8 q hq8 _ hzm0 hzm1]
   exact(HG.out _).cast (by rw [←HTK.out];rfl) rfl
 ·have hz:q=0:=by
   rcases(by omega:q=0∨0<q) with h|h
   ·exact h
   ·have:=(HLAST.out h).1;omega
  have HR:=Lib.hid (HP.out hz)
  have tq:(0:Int)<x % 8↔False:=by rw [HQ.out];simp;omega
  clear hz HP HLAST
  go_enter Tryz.func114,Tryz.ntmps114
  go_wp2_with fail
  refine HB.out.mono ?_
  rintro e w' ⟨rfl,rfl⟩
  go_wp2_with fail
  refine HCL.out.mono ?_
  rintro e w1 ⟨v,rfl,hg,hb1⟩
  have HW1:=Lib.hid hb1
  clear hb1
  go_wp2_with fail
  refine(HTB.out _ (HT.out.on HW1.out)).mono ?_
  rintro e w' ⟨rfl,rfl⟩
  go_wp2
  go_ret
  exact⟨_,rfl,hg.cast rfl HR.out.symm,HW1.out⟩
end
set_option maxHeartbeats 4000000 in
set_option maxRecDepth 100000 in
theorem trimmed_any (ls:List Nd)(B:Option Addr)(c2:Nat)(w:World)(hk:KsR w B ls)(hm:ls.length≤1099511627776)
  (HC:Hid (∀j (hj:j<ls.length) A' c' B' c2' wc,NdR wc A' c' B' c2' ls[j]→Calls Tryz.prog 53 #[.agg #[.int .i64 (ls[j]).k,.int .i64 (ls[j]).e,.int .i64 (ls[j]).n,.slice A' (ls[j]).d.length c',.slice B' (ls[j]).ks.length c2']] wc fun r w'=>∃v,r=.returned v∧NodV wc.heap.size (trimN ls[j]) v w'∧Below wc.heap.size wc w')) :
  Calls Tryz.prog 73 #[.slice B ls.length c2] w fun r w'=>r=.returned (.slice (some ⟨w.heap.size,0,none⟩) ls.length ls.length)∧RowT w.heap.size ls.length ls.length (trimK ls) w'∧Below w.heap.size w w':=by
 obtain⟨i0,hi,hz0,hz1,hz2⟩:=info_parts node_info
 have HK:=Lib.hid hk
 obtain⟨n,hn⟩:∃n,n=ls.length:=⟨_,rfl⟩
 have HN:=Lib.hid hn
 have hb0:n≤1099511627776:=by omega
 rw [←hn]
 clear hk hm hn
 go_enter Tryz.func73,Tryz.ntmps73
 go_wp2_with (at_make;refine wpList_make_full _ rfl _ _ 37 rfl w.heap.size 39 i0 _ 5 Tryz.underlying37 hi hz0 hz1 .i64 .i64 _ _ n rfl rfl (by omega) (by omega) (by rw [hz2];omega) (by unfold maxLen;omega) (Nat.le_refl _) ?_;intro w0 hown0 hgrow0)
 have hR0:RowT w.heap.size n 0 (trimK ls) w0:=RowT.made hown0
 have hB0:Below w.heap.size w w0:=(Below.refl _ _).grown hgrow0 (Nat.le_refl _) (fun g hg=>by cases hg)
 clear hown0 hgrow0
 go_loopw [11] (fun i wr=>∃j:Nat,j≤n∧i=.int .i64 j∧RowT w.heap.size n j (trimK ls) wr∧Below w.heap.size w wr) (fun i _=>n-(intOf i).toNat)
 case atStart=>exact⟨0,by omega,rfl,hR0,hB0⟩
 case round=>
  clear hR0 hB0
  obtain⟨j,hj,rfl,hrow,hbr⟩:=hrel
  have HR:=Lib.hid hbr
  have HW:=Lib.hid hrow
  clear hbr hrow
  by_cases hlt:j<n
  ·have hj1:(j:Int)<(n:Int):=by omega
   have hlt2:j<ls.length:=by rw [←HN.out];exact hlt
   have hltT:j<(trimK ls).length:=by rw [trimK_length];exact hlt2
   obtain⟨b,off,A',c',B',c2',rfl,k0,k1,k2,k3,k4,hsub⟩:=HK.out.atIn HR.out (Nat.le_refl _) hlt2
   have HCJ:=Lib.hid (fun wc hb=>HC.out j hlt2 A' c' B' c2' wc (hsub.on (N:=w.heap.size) hb (Nat.le_refl _)))
   have HT:Hid ((trimK ls)[j]=trimN ls[j]):=Lib.hid (trimK_get ls j hlt2)
   clear hsub
   generalize trimN ls[j]=ty at *
   generalize ls[j]=kx at *
   have HB1:=Lib.hid (fun o=>HR.out.alloc HR.out.size o)
   go_wp2_with fail
   refine(HCJ.out _ (HB1.out _)).mono ?_
   rintro r w2 ⟨v,rfl,hnv,hb2⟩
   have HB2:Hid (Below w.heap.size w w2):=Lib.hid (bel_on (HB1.out _) hb2)
   have hlo:w.heap.size<wr.heap.size:=HW.out.lt
   have HW2:=Lib.hid ((HW.out.below ((Below.refl _ _).alloc (Nat.le_refl _) (.cells #[.int .i64 kx.k,.int .i64 kx.e,.int .i64 kx.n,.slice A' kx.d.length c',.slice B' kx.ks.length c2'] 39)) (Nat.le_refl _)).below hb2 (Nat.le_refl _))
   obtain⟨A5,c5,B5,e5,hi5,rfl,hh5,ho5,hu5,-,-⟩:=hnv
   have HO:=Lib.hid ho5
   have HU:=Lib.hid hu5
   clear ho5 hu5 hb2 k0 k1 k2 k3 k4
   obtain⟨u0,y0⟩:=HW2.out.cell (j*5) (by omega)
   obtain⟨u1,y1⟩:=HW2.out.cell (j*5+1) (by omega)
   obtain⟨u2,y2⟩:=HW2.out.cell (j*5+2) (by omega)
   obtain⟨u3,y3⟩:=HW2.out.cell (j*5+3) (by omega)
   obtain⟨u4,y4⟩:=HW2.out.cell (j*5+4) (by omega)
   have z:=HW2.out.free
   go_wp2
   go_roundw
   case rel=>
    refine⟨j+1,by omega,by go_num,?_,?_⟩
    ·have:=HW2.out.next hlt hltT (A':=A5) (c':=c5) (B':=B5) (c2':=e5) (lo:=_) (hi:=hi5) ?_ hh5 (by rw [HT.out];exact HO.out) HU.out
     ·rw [HT.out] at this
      exact this
     ·simp;omega
    ·refine Below.setCell (Below.setCell (Below.setCell (Below.setCell (Below.setCell HB2.out ?_ _) ?_ _) ?_ _) ?_ _) ?_ _<;>(show w.heap.size≤w.heap.size;omega)
   case measure=>simp [intOf];omega
  ·obtain rfl:j=n:=by omega
   go_wp2
   go_ret
   exact⟨rfl,HW.out,HR.out⟩
set_option maxHeartbeats 8000000 in
set_option maxRecDepth 100000 in
theorem Trim_node:∀(x:Nd) (A:Option Addr) (c:Nat) (B:Option Addr) (c2:Nat) (w:World),NdR w A c B c2 x→sizeN x≤1099511627776→validN x=true →
  Calls Tryz.prog 53 #[.agg #[.int .i64 x.k,.int .i64 x.e,.int .i64 x.n,.slice A x.d.length c,.slice B x.ks.length c2]] w fun r w'=>∃v,r=.returned v∧NodV w.heap.size (trimN x) v w'∧Below w.heap.size w w':=by
 refine Nd.ind ?_
 intro k e n d ks ih A c B c2 w hx hs hv
 simp only [Nd.k,Nd.e,Nd.n,Nd.d,Nd.ks]
 have HX:=Lib.hid hx
 have HI:=Lib.hid ih
 have HVK:=Lib.hid (valid_kids11 hv).1
 have hso:sizeN (.mk k e n d ks)=1+d.length+sizeK ks:=by simp only [sizeN]
 rw [hso] at hs
 have hkl:=sizeK_length ks
 have hdl:d.length≤1099511627776:=by omega
 have hkl2:ks.length≤1099511627776:=by omega
 obtain⟨h1,h2,h3,hd,hbt,hdc,hcm,hA,hkc,hc2m,hB⟩:=hx.open
 have HD:=Lib.hid hd
 have HBT:=Lib.hid hbt
 have HO:=Lib.hid (And.intro h1 (And.intro h2 h3))
 have HA:=Lib.hid hA
 have HSZ:Hid (∀(j:Nat) (hj:j<ks.length),sizeN ks[j]≤1099511627776):=Lib.hid (fun j hj=>by
  have:=sizeN_kid (List.getElem_mem hj)
  omega)
 have HWD:=Lib.hid (fun w' (hb:Below w.heap.size w w')=>trimWords_any A c d w' (HD.out.below hb (Nat.le_refl _)) HBT.out hdl hdc)
 have HPT:=Lib.hid (fun w' (hb:Below w.heap.size w w')=>cutK_any B c2 ks w' (HX.out.kids.on hb (Nat.le_refl _)) hkl2 hkc)
 have hDK:∃D K:Nat,D≤d.length∧K≤ks.length∧trimN (.mk k e n d ks)=.mk k e n (d.take D) (trimK (ks.take K))∧((k=1∧8*wordsT d=D∧ptrsT ks=K)∨(k≠1∧D=d.length∧K=ks.length)):=by
  by_cases h1:k=1
  ·exact⟨8*wordsT d,ptrsT ks,wordsT_le d ((valid_kids11 hv).2 h1),ptrsT_le ks,by rw [trim_eq,if_pos h1,if_pos h1,trimK_take],.inl ⟨h1,rfl,rfl⟩⟩
  ·exact⟨d.length,ks.length,Nat.le_refl _,Nat.le_refl _,by rw [trim_eq,if_neg h1,if_neg h1,trimK_take],.inr ⟨h1,rfl,rfl⟩⟩
 obtain⟨D,K,hDl,hKl,hT,hcase⟩:=hDK
 have HT:=Lib.hid hT
 have HDL:Hid (D=(d.take D).length):=Lib.hid (by rw [List.length_take];omega)
 have HKL:Hid ((ks.take K).length=K):=Lib.hid (by rw [List.length_take];omega)
 have HCL:=Lib.hid (fun w' (hb:Below w.heap.size w w')=>bytesClone_any A c (d.take D) w' ((HD.out.take D).below hb (Nat.le_refl _)) (by rw [←HDL.out];omega) HA.out (by rw [←HDL.out];omega) D HDL.out)
 have HTM:=Lib.hid (fun w' (hb:Below w.heap.size w w')=>trimmed_any (ks.take K) B c2 w' ((HX.out.kids.take K).on hb (Nat.le_refl _)) (by rw [HKL.out];omega) (Lib.hid (fun j hj A' c' B' c2' wc hn=>by
  rw [List.length_take] at hj
  have hj2:j<ks.length:=by omega
  have e:(ks.take K)[j]'(by rw [List.length_take];exact hj)=ks[j]:=List.getElem_take
  rw [e] at hn ⊢
  exact HI.out ks[j] (List.getElem_mem hj2) A' c' B' c2' wc hn (HSZ.out j hj2) (HVK.out _ (List.getElem_mem hj2)))))
 simp only [HKL.out] at HTM
 have HFIN:Hid (∀(q base:Nat) (W:World) (A5:Option Addr) (c5:Nat),RowT q K K (trimK (ks.take K)) W→w.heap.size≤base→base≤q→Got W base 5 .u8 (.slice A5 (d.take D).length c5) (d.take D)→NodV w.heap.size (trimN (.mk k e n d ks)) (.agg #[.int .i64 k,.int .i64 e,.int .i64 n,.slice A5 D c5,.slice (some ⟨q,0,none⟩) K K]) W):=Lib.hid (fun q base W A5 c5 hr h1 h2 hg=>
  hr.nodV h1 h2 (by rw [trimK_length,HKL.out]) (by unfold maxLen;omega) HO.out.1 HO.out.2.1 HO.out.2.2 hg (fun z hz=>HBT.out z (List.mem_of_mem_take hz)) HT.out HDL.out)
 have hwb:(8*wordsT d=D→wordsT d≤1099511627776):=by omega
 clear hx ih hso hv hT h1 h2 h3 hd hbt hA hB HD HBT HO HA HX HI HVK HSZ hs hkl
 generalize trimN (.mk k e n d ks)=tx at *
 have HB0:=Lib.hid (fun o1 o2=>((Below.refl w.heap.size w).alloc (Nat.le_refl _) o1).alloc (by simp) o2)
 go_enter Tryz.func53,Tryz.ntmps53
 go_wp2_with fail
 refine abs_code10 (F:=fun W=>Blk W w.heap.size #[.int .i64 k,.int .i64 e,.int .i64 n,.slice A d.length c,.slice B ks.length c2]∧Blk W (w.heap.size+1) #[.int .i64 0,.int .i64 0,.int .i64 0,.slice none 0 0,.slice none 0 0]∧Below w.heap.size w W) ⟨(Blk.fresh _ _ _).alloc _,Blk.new (by simp),HB0.out _ _⟩ ?_
 rintro W ⟨hB1,hB2,hbw⟩
 have HW1:=Lib.hid hB1
 have HW2:=Lib.hid hB2
 have HWB:=Lib.hid hbw
 obtain⟨x1,y1,z1⟩:=hB1
 clear hB2 hbw
 go_region
 have HW1n:=Lib.hid HW1.out.drew
 have HW2n:=Lib.hid HW2.out.drew
 have HWBn:=Lib.hid (bel_drew HWB.out)
 clear HW1 HW2 HWB y1 z1
 have HW1:=HW1n
 have HW2:=HW2n
 have HWB:=HWBn
 clear HW1n HW2n HWBn
 have hc3:(k=1∧8*wordsT d=D∧ptrsT ks=K∧8*wordsT d<d.length)∨(k=1∧d.length=D∧ptrsT ks=K∧8*wordsT d=d.length)∨(k≠1∧d.length=D∧ks.length=K):=by omega
 clear hcase
 rcases hc3 with ⟨h1,hDD,hPP,hD8⟩|⟨h1,hDD,hPP,hD8⟩|⟨h1,hDD,hPP⟩
 focus
  have t1:(k==1)=true:=by simpa using h1
  have hwb':=hwb hDD
  have m1:¬((d.length:Int)≤8*((wordsT d:Nat):Int)):=by omega
  have EDN:Hid ((8*((wordsT d:Nat):Int)).toNat=D):=Lib.hid (by omega)
  have EDM:Hid (8*wordsT d=D):=Lib.hid hDD
  have EPP:Hid (ptrsT ks=K):=Lib.hid hPP
  clear h1 hDD hPP hwb
  go_wp2_with fail
  refine(HWD.out _ HWB.out).mono ?_
  rintro r w' ⟨rfl,rfl⟩
  go_wp2_with fail
  refine(HPT.out _ HWB.out).mono ?_
  rintro r w' ⟨rfl,hb2⟩
  have HW1n:=Lib.hid (HW1.out.below hb2)
  have HW2n:=Lib.hid (HW2.out.below hb2)
  have HWBn:=Lib.hid (bel_on HWB.out hb2)
  clear HW1 HW2 HWB x1 hb2
  have HW1:=HW1n
  have HW2:=HW2n
  have HWB:=HWBn
  clear HW1n HW2n HWBn
  have x1:=HW1.out.cell
  go_wp2_with fail
  simp only [EDN.out,EDM.out,EPP.out]
  clear EDN EDM EPP
 rotate_left
 focus
  have t1:(k==1)=true:=by simpa using h1
  have hwb':=hwb (hD8.trans hDD)
  have m1:(d.length:Int)≤8*((wordsT d:Nat):Int):=by omega
  have EDM:Hid (d.length=D):=Lib.hid hDD
  clear hD8
  have EPP:Hid (ptrsT ks=K):=Lib.hid hPP
  clear h1 hDD hPP hwb
  go_wp2_with fail
  refine(HWD.out _ HWB.out).mono ?_
  rintro r w' ⟨rfl,rfl⟩
  go_wp2_with fail
  refine(HPT.out _ HWB.out).mono ?_
  rintro r w' ⟨rfl,hb2⟩
  have HW1n:=Lib.hid (HW1.out.below hb2)
  have HW2n:=Lib.hid (HW2.out.below hb2)
  have HWBn:=Lib.hid (bel_on HWB.out hb2)
  clear HW1 HW2 HWB x1 hb2
  have HW1:=HW1n
  have HW2:=HW2n
  have HWB:=HWBn
  clear HW1n HW2n HWBn
  have x1:=HW1.out.cell
  go_wp2_with fail
  simp only [EDM.out,EPP.out]
  clear EDM EPP
 rotate_left
 focus
  have t1:(k==1)=false:=by simpa using h1
  have EDM:Hid (d.length=D):=Lib.hid hDD
  have EPP:Hid (ks.length=K):=Lib.hid hPP
  clear h1 hDD hPP hwb
  go_wp2_with fail
  simp only [EDM.out,EPP.out]
  clear EDM EPP
 all_goals
  refine abs_world (F:=fun W=>Blk W w.heap.size #[.int .i64 k,.int .i64 e,.int .i64 n,.slice A d.length c,.slice B ks.length c2]∧Blk W (w.heap.size+1) #[.int .i64 0,.int .i64 0,.int .i64 0,.slice none 0 0,.slice none 0 0]∧Below w.heap.size w W) ⟨HW1.out,HW2.out,HWB.out⟩ ?_
  clear HW1 HW2 HWB x1
  rintro W5 ⟨h1,h2,hb⟩
  have HW1:=Lib.hid h1
  have HW2:=Lib.hid h2
  have HWB:=Lib.hid hb
  clear h1 h2 hb
  refine(HCL.out _ HWB.out).mono ?_
  rintro r w6 ⟨v,rfl,hg,hb6⟩
  obtain⟨A5,c5,rfl,-⟩:=hg.slice
  have hz6:w.heap.size+1<W5.heap.size:=HW2.out.lt
  have HG:=Lib.hid hg
  have HW1n:=Lib.hid (HW1.out.below hb6)
  have HW2n:=Lib.hid (HW2.out.below hb6)
  have HWBn:=Lib.hid (bel_on HWB.out hb6)
  have hz56:=hb6.size
  clear HW1 HW2 HWB hg hb6
  have x1:=HW1n.out.cell
  have y1:=HW1n.out.free
  rw [←HDL.out] at HG
  rw [←HDL.out]
  go_wp2_with fail
  refine abs_world (F:=fun W=>Blk W w.heap.size #[.int .i64 k,.int .i64 e,.int .i64 n,.slice A5 D c5,.slice B ks.length c2]∧Blk W (w.heap.size+1) #[.int .i64 0,.int .i64 0,.int .i64 0,.slice none 0 0,.slice none 0 0]∧Below w.heap.size w W∧Got W W5.heap.size 5 .u8 (.slice A5 D c5) (d.take D)∧w6.heap.size≤W.heap.size) ⟨?_,?_,?_,?_,?_⟩ ?_
  ·exact HW1n.out.set 3 (by simp) _
  ·exact HW2n.out.other (by show w.heap.size≠w.heap.size+1;omega) _
  ·exact HWBn.out.setCell (by show w.heap.size≤w.heap.size;omega) _
  ·exact HG.out.far (by show w.heap.size<W5.heap.size;omega) _
  ·simp
  clear HW1n HW2n HWBn HG x1 y1
  rintro W7 ⟨h1,h2,hb,hg,hz7⟩
  have HW1:=Lib.hid h1
  have HW2:=Lib.hid h2
  have HWB:=Lib.hid hb
  have HG:=Lib.hid hg
  clear h1 h2 hb hg
  refine(HTM.out _ HWB.out).mono ?_
  rintro r w8 ⟨rfl,hrow,hb8⟩
  have HRW:=Lib.hid hrow
  have HW1n:=Lib.hid (HW1.out.below hb8)
  have HW2n:=Lib.hid (HW2.out.below hb8)
  have HWBn:=Lib.hid (bel_on HWB.out hb8)
  have HGn:=Lib.hid (HG.out.below hb8 (Nat.le_refl _))
  clear HW1 HW2 HWB HG hb8 hrow
  obtain⟨q,hq⟩:∃q,q=W7.heap.size:=⟨_,rfl⟩
  rw [←hq] at HRW hz7
  rw [←hq]
  clear hq
  have x1:=HW1n.out.cell
  have y1:=HW1n.out.free
  have x2:=HW2n.out.cell
  have y2:=HW2n.out.free
  go_wp2
  have hq1:w.heap.size+1<q:=by omega
  refine abs_post (F:=fun W=>Blk W (w.heap.size+1) #[.int .i64 k,.int .i64 e,.int .i64 n,.slice A5 D c5,.slice (some ⟨q,0,none⟩) K K]∧NodV w.heap.size tx (.agg #[.int .i64 k,.int .i64 e,.int .i64 n,.slice A5 D c5,.slice (some ⟨q,0,none⟩) K K]) W∧Below w.heap.size w W) ⟨?_,?_,?_⟩ ?_
  ·exact(((((HW2n.out.other (p:=⟨w.heap.size,4,none⟩) (by show w.heap.size≠w.heap.size+1;omega) _).set 0 (by simp) _).set 1 (by simp) _).set 2 (by simp) _).set 3 (by simp) _).set 4 (by simp) _
  ·have hf:w.heap.size<W5.heap.size:=by omega
   refine HFIN.out q W5.heap.size _ A5 c5 ?_ (by omega) (by omega) ?_
   ·exact(((((HRW.out.other (p:=⟨w.heap.size,4,none⟩) (by show w.heap.size<q;omega) _).other (p:=⟨w.heap.size+1,0,none⟩) hq1 _).other (p:=⟨w.heap.size+1,1,none⟩) hq1 _).other (p:=⟨w.heap.size+1,2,none⟩) hq1 _).other (p:=⟨w.heap.size+1,3,none⟩) hq1 _).other (p:=⟨w.heap.size+1,4,none⟩) hq1 _
   ·rw [←HDL.out]
    exact(((((HGn.out.far (p:=⟨w.heap.size,4,none⟩) hf _).far (p:=⟨w.heap.size+1,0,none⟩) hz6 _).far (p:=⟨w.heap.size+1,1,none⟩) hz6 _).far (p:=⟨w.heap.size+1,2,none⟩) hz6 _).far (p:=⟨w.heap.size+1,3,none⟩) hz6 _).far (p:=⟨w.heap.size+1,4,none⟩) hz6 _
  ·refine Below.setCell (Below.setCell (Below.setCell (Below.setCell (Below.setCell (Below.setCell HWBn.out ?_ _) ?_ _) ?_ _) ?_ _) ?_ _) ?_ _<;>(first|(show w.heap.size≤w.heap.size;omega)|(show w.heap.size≤w.heap.size+1;omega))
  rintro W9 ⟨B6,hN,hbw⟩
  exact bodyPost_ret (v:=.agg #[.int .i64 k,.int .i64 e,.int .i64 n,.slice A5 D c5,.slice (some ⟨q,0,none⟩) K K]) (by simp [results,Tryz.results53,go_sem,B6.cell]) rfl ⟨_,rfl,hN,hbw⟩
end Go.Proofs.YtbpmeppdjicmhaaGreatDoor
