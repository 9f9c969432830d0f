/- The texts Ref11b, WriC, WriE (what is wanted of them), one after the other. -/
import Derived.Test.YtclpapddejgpnaaDoorMg10
import Derived.Test.YtclpapddejgpnaaDoorMg29
namespace Go.Proofs.YtclpapddejgpnaaDoor
open Go.ChangeShapes Go.WideShapes Go.ChangeAt Go.RowKit
set_option linter.unusedVariables false
set_option linter.unusedSimpArgs false
set_option maxRecDepth 100000
section
attribute [local simp] AllK KnowsV look Is
def GotU (base:Nat)(l:List Int):Fact:=fun v w=>Got w base 5 .u8 v l
theorem stable_gotu (base:Nat)(l:List Int):stable (GotU base l):=fun v w w' h hb=>Got.below h hb (Nat.le_refl _)
theorem valid_kids11 {k e n:Int}{d:List Int}{ks:List Nd}(h:validN (.mk k e n d ks)=true):(∀y∈ks,validN y=true)∧(k=1→d.length % 8=0):=by
 simp only [validN,Bool.and_eq_true] at h
 obtain⟨h1,h2⟩:=h
 refine⟨fun y hy=>?_,fun hk=>?_⟩
 ·obtain⟨j,hj,rfl⟩:=List.getElem_of_mem hy
  rcases Bool.eq_false_or_eq_true (validN ks[j]) with h3|h3
  ·exact h3
  ·have:=validK_no k e ks j hj (by rw [h3];rfl)
   rw [h1] at this
   cases this
 ·unfold headB at h2
  rw [if_neg (by omega),if_pos hk,decide_eq_true_iff] at h2
  exact h2.2.2.1
theorem trim_eq (k e n:Int)(d:List Int)(ks:List Nd):trimN (.mk k e n d ks)=.mk k e n (d.take (if k=1 then 8*wordsT d else d.length)) ((trimK ks).take (if k=1 then ptrsT ks else ks.length)):=by
 simp only [trimN]
 split
 ·rfl
 ·rw [List.take_length,←trimK_length,List.take_length]
set_option maxHeartbeats 8000000 in
set_option maxRecDepth 100000 in
theorem RefTrim11_node:∀(x:Nd) (A:Option Addr) (c:Nat) (B:Option Addr) (c2:Nat) (w:World),NdR w A c B c2 x→sizeN x≤1099511627776→validN x=true →
  Calls Tryd.prog 28 #[.agg #[.int .i64 x.k,.int .i64 x.e,.int .i64 x.n,.slice A x.d.length c,.slice B x.ks.length c2]] w fun r w'=>∃v,r=.returned v∧NodF w.heap.size (trimN x) v w'∧Below w.heap.size w w':=by
 refine Nd.ind ?_
 intro k e n d ks ih A c B c2 w hx hs hv
 simp only [Nd.k,Nd.e,Nd.n,Nd.d,Nd.ks]
 obtain⟨i8,hi8,hy0,hy1,hy2⟩:=info_parts int8_info
 have HX:=Lib.hid hx
 have HI:=Lib.hid ih
 have HO:=Lib.hid hx.open
 have HVK:=Lib.hid (valid_kids11 hv).1
 have hso:sizeN (.mk k e n d ks)=1+d.length+sizeK ks:=by simp only [sizeN]
 rw [hso] at hs
 have hkl:=sizeK_length ks
 have hdl:d.length≤1099511627776:=by omega
 have HD:=Lib.hid hx.open.2.2.2.1
 have HBT:=Lib.hid hx.open.2.2.2.2.1
 have HAN:=Lib.hid hx.open.2.2.2.2.2.2.2.1
 have HWD:=Lib.hid (fun w' (hb:Below w.heap.size w w')=>RefWords11_any A c d w' (HD.out.below hb (Nat.le_refl _)) HBT.out hdl)
 have HPT:=Lib.hid (fun w' (hb:Below w.heap.size w w')=>RefPointers11_any B c2 ks w' (HX.out.kids.on hb (Nat.le_refl _)) (by omega))
 have hDK:∃D K:Nat,D≤d.length∧K≤ks.length∧trimN (.mk k e n d ks)=.mk k e n (d.take D) ((trimK ks).take K)∧((k=1∧8*wordsT d=D∧ptrsT ks=K)∨(k≠1∧D=d.length∧K=ks.length)):=by
  by_cases h1:k=1
  ·exact⟨8*wordsT d,ptrsT ks,wordsT_le d ((valid_kids11 hv).2 h1),ptrsT_le ks,by rw [trim_eq,if_pos h1,if_pos h1],.inl ⟨h1,rfl,rfl⟩⟩
  ·exact⟨d.length,ks.length,Nat.le_refl _,Nat.le_refl _,by rw [trim_eq,if_neg h1,if_neg h1],.inr ⟨h1,rfl,rfl⟩⟩
 obtain⟨D,K,hDl,hKl,hT,hcase⟩:=hDK
 have HT:=Lib.hid hT
 have HDL:Hid ((d.take D).length=D):=Lib.hid (by rw [List.length_take];omega)
 have HKL:Hid (((trimK ks).take K).length=K):=Lib.hid (by rw [List.length_take,trimK_length];omega)
 have hwb:(8*wordsT d=D→wordsT d≤1099511627776):=by omega
 clear hx ih hso hv hT
 generalize trimN (.mk k e n d ks)=tx at *
 go_enter Tryd.func28,Tryd.ntmps28
 have hb0:∀o1 o2,Below w.heap.size w ((w.alloc o1).alloc o2):=fun o1 o2=>((Below.refl _ _).alloc (Nat.le_refl _) _).alloc (by simp) _
 have HB0:=Lib.hid hb0
 clear hb0
 rcases hcase with ⟨h1,hDD,hPP⟩|⟨h1,hDD,hPP⟩
 have t1:(k==1)=true:=by simpa using h1
 have hwb':=hwb hDD
 have EDD:Hid (8*((wordsT d:Nat):Int)=((D:Nat):Int)):=Lib.hid (by omega)
 have EPP:Hid (((ptrsT ks:Nat):Int)=((K:Nat):Int)):=Lib.hid (by omega)
 have H1:=Lib.hid h1
 clear h1 hDD hPP hwb
 go_wp2_with fail
 refine(HWD.out _ (HB0.out _ _)).mono ?_
 rintro r w' ⟨rfl,rfl⟩
 go_wp2_with fail
 refine(HPT.out _ (HB0.out _ _)).mono ?_
 rintro r w' ⟨rfl,rfl⟩
 go_wp2
 simp only [EDD.out,EPP.out]
 rotate_left
 have t1:(k==1)=false:=by simpa using h1
 have EDD:Hid (((d.length:Nat):Int)=((D:Nat):Int)):=Lib.hid (by omega)
 have EPP:Hid (((ks.length:Nat):Int)=((K:Nat):Int)):=Lib.hid (by omega)
 have H1:=Lib.hid h1
 clear h1 hDD hPP hwb
 go_wp2
 simp only [EDD.out,EPP.out]
 all_goals
  refine abs_code10 (F:=fun W=>Blk W w.heap.size #[.int .i64 k,.int .i64 e,.int .i64 n,.slice A d.length c,.slice B ks.length c2]∧Blk W (w.heap.size+1) #[.int .i64 0,.int .i64 0,.int .i64 0,.slice none 0 0,.slice none 0 0]∧Blk W (w.heap.size+1+1) #[.int .i64 k,.int .i64 e,.int .i64 n,.slice none 0 0,.slice none 0 0]∧Below w.heap.size w W∧w.heap.size+1+1+1≤W.heap.size) ⟨?_,?_,?_,?_,?_⟩ ?_
  ·exact((Blk.fresh _ _ _).alloc _).alloc _
  ·exact(Blk.new (by simp)).alloc _
  ·exact Blk.new (by simp)
  ·exact(HB0.out _ _).alloc (by simp;omega) _
  ·simp
  rintro W ⟨hB1,hB2,hB3,hbw,hszW⟩
  have HW1:=Lib.hid hB1
  have HW2:=Lib.hid hB2
  have HW3:=Lib.hid hB3
  have HWB:=Lib.hid hbw
  clear hB1 hB2 hB3 hbw
  go_loopw [6] (fun i wr=>∃(j:Nat) (v:Value),j≤D∧i=.int .i64 j∧Blk wr w.heap.size #[.int .i64 k,.int .i64 e,.int .i64 n,.slice A d.length c,.slice B ks.length c2]∧Blk wr (w.heap.size+1) #[.int .i64 0,.int .i64 0,.int .i64 0,.slice none 0 0,.slice none 0 0]∧Blk wr (w.heap.size+1+1) #[.int .i64 k,.int .i64 e,.int .i64 n,v,.slice none 0 0]∧Got wr (w.heap.size+1+1+1) 5 .u8 v (d.take j)∧Below w.heap.size w wr∧w.heap.size+1+1+1≤wr.heap.size) (fun i _=>D-(intOf i).toNat)
  case atStart=>exact⟨0,.slice none 0 0,by omega,rfl,HW1.out,HW2.out,HW3.out,Got.empty _ _ _ _,HWB.out,hszW⟩
  case round=>
   obtain⟨j,v,hj,rfl,hB1,hB2,hB3,hg,hbr,hszr⟩:=hrel
   have HR:=Lib.hid hbr
   have HC1:=Lib.hid hB1
   have HC2:=Lib.hid hB2
   have HC3:=Lib.hid hB3
   have HG:=Lib.hid hg
   clear hbr hg hB2
   obtain⟨x1,y1,z1⟩:=hB1
   obtain⟨x3,y3,z3⟩:=hB3
   by_cases hlt:j<D
   ·obtain⟨b,off,rfl,hcd⟩:=(HD.out.below HR.out (Nat.le_refl _)).at (i:=j) (by omega)
    have hcj:=hcd j (by omega)
    have hblt:b<w.heap.size:=by
     obtain⟨b',off',hBe,hcd'⟩:=HD.out.at (i:=j) (by omega)
     injection hBe with hBe
     injection hBe with hBe
     subst hBe
     exact World.block_lt_of_cell? w ⟨b,off'+j,none⟩ (hcd' j (by omega))
    have hzj:=HBT.out.at j
    have hTK:d.take (j+1)=d.take j++[zat d j]:=take_succ_zat d j (by omega)
    have HTK:=Lib.hid hTK
    have hln:(d.take j).length=j:=by rw [List.length_take];omega
    have HLN:=Lib.hid hln
    have hkn:∀wc,Keeps (fun q=>w.heap.size+1+1+1≤q) wr.drew wc→wc.cell? ⟨b,off+j,none⟩=some (.int .u8 (zat d j)):=by
     intro wc hk
     have hb:=hk.below (B:=w.heap.size) (by show w.heap.size≤wr.heap.size;omega) (fun q hq=>by omega)
     exact(hb.cell (p:=⟨b,_,none⟩) hblt).trans hcj
    have HKN:=Lib.hid hkn
    have hD1:∀wc,Keeps (fun q=>w.heap.size+1+1+1≤q) wr.drew wc→Blk wc w.heap.size #[.int .i64 k,.int .i64 e,.int .i64 n,.slice (some ⟨b,off,none⟩) d.length c,.slice B ks.length c2]:=fun wc hk=>HC1.out.drew.keeps hk (by omega)
    have hD2:∀wc,Keeps (fun q=>w.heap.size+1+1+1≤q) wr.drew wc→Blk wc (w.heap.size+1) #[.int .i64 0,.int .i64 0,.int .i64 0,.slice none 0 0,.slice none 0 0]:=fun wc hk=>HC2.out.drew.keeps hk (by omega)
    have hD3:∀wc,Keeps (fun q=>w.heap.size+1+1+1≤q) wr.drew wc→Blk wc (w.heap.size+1+1) #[.int .i64 k,.int .i64 e,.int .i64 n,v,.slice none 0 0]:=fun wc hk=>HC3.out.drew.keeps hk (by omega)
    have HD1:=Lib.hid hD1
    have HD2:=Lib.hid hD2
    have HD3:=Lib.hid hD3
    clear hcd hcj hkn hD1 hD2 hD3 hTK hln
    generalize zat d j=z at *
    have hltD:(j:Int)<(D:Int):=by omega
    have hltL:(j:Int)<(d.length:Int):=by omega
    go_wp2_with fail
    clear x1 y1 z1 x3 y3 z3
    refine wp_region_a10 8 (fun q=>w.heap.size+1+1+1≤q) (by kernel_rfl) (by kernel_rfl) ?_
    refine a_val_l (u:=?_) [5] (by kernel_rfl) rfl (by kernel_rfl) trivial (fun ρ wc hbc hcn hk=>?_) ?_;rotate_left
    ·obtain⟨hcn,-⟩:=hcn
     simp at hk
     go_simp
     rfl
    refine a_val (u:=?_) [38] (by kernel_rfl) rfl rfl (by kernel_rfl) trivial (fun ρ wc hbc hcn hk=>?_) ?_;rotate_left
    ·obtain⟨hcn,-⟩:=hcn
     simp at hk
     obtain⟨x3,y3,z3⟩:=HD3.out wc (keeps_of hbc)
     go_simp
     rfl
    refine a_val_l (u:=?_) [1] (by kernel_rfl) rfl (by kernel_rfl) trivial (fun ρ wc hbc hcn hk=>?_) ?_;rotate_left
    ·obtain⟨hcn,-⟩:=hcn
     simp at hk
     go_simp
     rfl
    refine a_val_l (u:=?_) [40] (by kernel_rfl) rfl (by kernel_rfl) trivial (fun ρ wc hbc hcn hk=>?_) ?_;rotate_left
    ·obtain⟨hcn,-⟩:=hcn
     simp at hk
     obtain⟨x1,y1,z1⟩:=HD1.out wc hbc
     go_simp
     rfl
    refine a_val_l (u:=?_) [6] (by kernel_rfl) rfl (by kernel_rfl) trivial (fun ρ wc hbc hcn hk=>?_) ?_;rotate_left
    ·obtain⟨hcn,-⟩:=hcn
     simp at hk
     go_simp
     rfl
    refine a_val_l (u:=?_) [41,42] (by kernel_rfl) rfl (by kernel_rfl) trivial (fun ρ wc hbc hcn hk=>?_) ?_;rotate_left
    ·obtain⟨hcn,-⟩:=hcn
     simp at hk
     go_simp
     rfl
    refine a_val_l (u:=?_) [43] (by kernel_rfl) rfl (by kernel_rfl) trivial (fun ρ wc hbc hcn hk=>?_) ?_;rotate_left
    ·obtain⟨hcn,-⟩:=hcn
     simp at hk
     have hc0:=HKN.out wc hbc
     go_simp
     rfl
    refine a_new (T:=DatF [z]) [44] (by kernel_rfl) rfl rfl (by kernel_rfl) trivial (stable_datf _) (fun ρ wc hbc hcn hk=>?_) ?_
    ·obtain⟨hcn,-⟩:=hcn
     simp at hk
     exact⟨.slice (some ⟨wc.heap.size,0,none⟩) 1 1,wc.alloc (.cells #[.int .u8 z] 5),by go_simp,⟨_,_,rfl,Ri.lit wc .u8 [z] _,by simp,by unfold maxLen;simp,fun h=>by cases h⟩,(Below.refl _ _).alloc (Nat.le_refl _) _⟩
    refine a_sp (T:=GotU (w.heap.size+1+1+1) (d.take j++[z])) [39,45] rfl rfl (by kernel_rfl) trivial (stable_gotu _ _) (fun a wc hbc hcn hk=>?_) ?_
    ·obtain⟨h39,⟨A5,c5,h45,hr5,hl5,hm5,hn5⟩,-⟩:=hk
     refine wpList_appN rfl (.tmp 39) (.tmp 45) 34 rfl Tryd.underlying34 hi8 hy0 hy1 hy2 h39 (HG.out.below (B:=wr.heap.size) ⟨hbc.os,hbc.tape,hbc.output,hbc.size,hbc.block⟩ (Nat.le_refl _)) h45 hr5 hn5 (by rw [HLN.out];unfold maxLen;simp;omega) (by rw [HLN.out];simp;omega) (Nat.le_trans hszr hbc.size) ?_
     intro v' w' hg' hb'
     refine⟨rfl,v',rfl,hg',?_⟩
     rw [if_pos rfl]
     exact⟨hb'.os,hb'.tape,hb'.output,hb'.size,fun q1 h1 h2=>hb'.block q1 (by omega)⟩
    refine a_val_l (u:=?_) [5] (by kernel_rfl) rfl (by kernel_rfl) trivial (fun ρ wc hbc hcn hk=>?_) ?_;rotate_left
    ·obtain⟨hcn,-⟩:=hcn
     simp at hk
     go_simp
     rfl
    refine a_end_lit 65 rfl (fun ff w7 hb7 hk=>?_)
    have hO2:Got w7 (w.heap.size+1+1+1) 5 .u8 (ff 46) (d.take j++[z]):=allN_at10d hk 46 (by decide) (by decide)
    simp [AllN] at hk
    simp only [frameL,hk,Nat.zero_add,Nat.reduceAdd]
    obtain⟨B8,c8,hv8,-⟩:=hO2.slice
    rw [show (d.take j++[z]).length=j+1 by rw [List.length_append,HLN.out];rfl] at hv8
    have HO2:=Lib.hid hO2
    have HB7:=Lib.hid hb7
    have hs7:wr.heap.size≤w7.heap.size:=hb7.size
    clear hO2 hb7 hk
    rw [hv8] at HO2
    rw [hv8]
    clear hv8
    generalize ff 45=v45
    obtain⟨x3,y3,z3⟩:=HD3.out w7 HB7.out
    go_wp2
    go_roundw
    case rel=>
     refine⟨j+1,_,by omega,by go_num,(HD1.out w7 HB7.out).other (by show w.heap.size+1+1≠w.heap.size;omega) _,(HD2.out w7 HB7.out).other (by show w.heap.size+1+1≠w.heap.size+1;omega) _,(HD3.out w7 HB7.out).set 3 (by simp) _,?_,?_,by simp;omega⟩
     ·rw [HTK.out]
      exact Got.far (p:=⟨w.heap.size+1+1,3,none⟩) HO2.out (by show w.heap.size+1+1<w.heap.size+1+1+1;omega) _
     ·refine Below.setCell ?_ (by show w.heap.size≤w.heap.size+1+1;omega) _
      exact(bel_drew HR.out).trans (HB7.out.below (B:=w.heap.size) (by show w.heap.size≤wr.heap.size;omega) (fun q hq=>by omega))
    case measure=>simp [intOf];omega
   ·obtain rfl:j=D:=by omega
    rename World=>wo
    obtain⟨A2,c3,he2,-⟩:=HG.out.slice
    rw [HDL.out] at he2
    subst he2
    go_wp2
    clear x1 y1 z1 x3 y3 z3
    go_loopw [7] (fun i wr=>∃(q:Nat) (v:Value),q≤K∧i=.int .i64 q∧Blk wr w.heap.size #[.int .i64 k,.int .i64 e,.int .i64 n,.slice A d.length c,.slice B ks.length c2]∧Blk wr (w.heap.size+1) #[.int .i64 0,.int .i64 0,.int .i64 0,.slice none 0 0,.slice none 0 0]∧Blk wr (w.heap.size+1+1) #[.int .i64 k,.int .i64 e,.int .i64 n,.slice A2 j c3,v]∧OwnN wo.heap.size wr v ((trimK ks).take q)∧(∀g,w.heap.size+1+1+1≤g→g<wo.heap.size→wr.heap[g]?=wo.heap[g]?)∧wo.heap.size≤wr.heap.size∧Below w.heap.size w wr) (fun i _=>K-(intOf i).toNat)
    case atStart=>exact⟨0,.slice none 0 0,by omega,rfl,HC1.out,HC2.out,HC3.out,OwnN.empty _ _,fun _ _ _=>rfl,Nat.le_refl _,HR.out⟩
    case round=>
     obtain⟨q,v,hq,rfl,hB1,hB2,hB3,hown,hdat,hszr5,hbr⟩:=hrel
     have HR5:=Lib.hid hbr
     have HE1:=Lib.hid hB1
     have HE2:=Lib.hid hB2
     have HE3:=Lib.hid hB3
     have HOW:=Lib.hid hown
     have HDA:=Lib.hid hdat
     clear hbr hown hdat hB2
     obtain⟨x1,y1,z1⟩:=hB1
     obtain⟨x3,y3,z3⟩:=hB3
     by_cases hlt:q<K
     ·have hltk:q<ks.length:=by omega
      obtain⟨b,off,Aa,ca,Ba,cb,rfl,k0,k1,k2,k3,k4,hsub⟩:=HX.out.kids.atIn HR5.out (Nat.le_refl _) hltk
      have hz:=sizeN_kid (List.getElem_mem hltk)
      have HC:=Lib.hid (fun w' (hb:Below wr.heap.size wr w')=>HI.out ks[q] (List.getElem_mem hltk) Aa ca Ba cb w' (hsub.on (bel_on HR5.out hb) (Nat.le_refl _)) (by omega) (HVK.out _ (List.getElem_mem hltk)))
      have hblt:b<w.heap.size:=by
       obtain⟨b',off',_,_,_,_,hBe,h0,_⟩:=HX.out.kids.at hltk
       injection hBe with hBe
       injection hBe with hBe
       subst hBe
       exact World.block_lt_of_cell? w ⟨b,off'+q*5,none⟩ h0
      have hkn:∀wc,Keeps (fun g=>wo.heap.size≤g) wr.drew wc→wc.cell? ⟨b,off+q*5,none⟩=some (.int .i64 ks[q].k)∧wc.cell? ⟨b,off+q*5+1,none⟩=some (.int .i64 ks[q].e)∧wc.cell? ⟨b,off+q*5+2,none⟩=some (.int .i64 ks[q].n)∧wc.cell? ⟨b,off+q*5+3,none⟩=some (.slice Aa ks[q].d.length ca)∧wc.cell? ⟨b,off+q*5+4,none⟩=some (.slice Ba ks[q].ks.length cb):=by
       intro wc hk
       have hb:=hk.below (B:=w.heap.size) (by show w.heap.size≤wr.heap.size;omega) (fun g hg=>by omega)
       exact⟨(hb.cell (p:=⟨b,_,none⟩) hblt).trans k0,(hb.cell (p:=⟨b,_,none⟩) hblt).trans k1,(hb.cell (p:=⟨b,_,none⟩) hblt).trans k2,(hb.cell (p:=⟨b,_,none⟩) hblt).trans k3,(hb.cell (p:=⟨b,_,none⟩) hblt).trans k4⟩
      have HKN:=Lib.hid hkn
      have hD1:∀wc,Keeps (fun g=>wo.heap.size≤g) wr.drew wc→Blk wc w.heap.size #[.int .i64 k,.int .i64 e,.int .i64 n,.slice A d.length c,.slice (some ⟨b,off,none⟩) ks.length c2]:=fun wc hk=>HE1.out.drew.keeps hk (by omega)
      have hD2:∀wc,Keeps (fun g=>wo.heap.size≤g) wr.drew wc→Blk wc (w.heap.size+1) #[.int .i64 0,.int .i64 0,.int .i64 0,.slice none 0 0,.slice none 0 0]:=fun wc hk=>HE2.out.drew.keeps hk (by omega)
      have hD3:∀wc,Keeps (fun g=>wo.heap.size≤g) wr.drew wc→Blk wc (w.heap.size+1+1) #[.int .i64 k,.int .i64 e,.int .i64 n,.slice A2 j c3,v]:=fun wc hk=>HE3.out.drew.keeps hk (by omega)
      have HD1:=Lib.hid hD1
      have HD2:=Lib.hid hD2
      have HD3:=Lib.hid hD3
      have hTK:(trimK ks).take (q+1)=(trimK ks).take q++[trimN ks[q]]:=by
       rw [List.take_succ_eq_append_getElem (by rw [trimK_length];exact hltk),trimK_get ks q hltk]
      have HTK:=Lib.hid hTK
      have hln:((trimK ks).take q).length=q:=by rw [List.length_take,trimK_length];omega
      have HLN:=Lib.hid hln
      have hltK:(q:Int)<(K:Int):=by omega
      have hltL:(q:Int)<(ks.length:Int):=by omega
      clear hkn hD1 hD2 hD3 hsub k0 k1 k2 k3 k4 hTK hln
      generalize trimN ks[q]=ky at *
      generalize ks[q]=kx at *
      go_wp2_with fail
      clear x1 y1 z1 x3 y3 z3
      refine wp_region_a11 9 (fun g=>wo.heap.size≤g) (by kernel_rfl) (by kernel_rfl) ?_
      refine a_val_l (u:=?_) [5] (by kernel_rfl) rfl (by kernel_rfl) trivial (fun ρ wc hbc hcn hk=>?_) ?_;rotate_left
      ·obtain⟨hcn,-⟩:=hcn
       simp at hk
       go_simp
       rfl
      refine a_val (u:=?_) [53] (by kernel_rfl) rfl rfl (by kernel_rfl) trivial (fun ρ wc hbc hcn hk=>?_) ?_;rotate_left
      ·obtain⟨hcn,-⟩:=hcn
       simp at hk
       obtain⟨x3,y3,z3⟩:=HD3.out wc (keeps_of hbc)
       go_simp
       rfl
      refine a_val_l (u:=?_) [1] (by kernel_rfl) rfl (by kernel_rfl) trivial (fun ρ wc hbc hcn hk=>?_) ?_;rotate_left
      ·obtain⟨hcn,-⟩:=hcn
       simp at hk
       go_simp
       rfl
      refine a_val_l (u:=?_) [55] (by kernel_rfl) rfl (by kernel_rfl) trivial (fun ρ wc hbc hcn hk=>?_) ?_;rotate_left
      ·obtain⟨hcn,-⟩:=hcn
       simp at hk
       obtain⟨x1,y1,z1⟩:=HD1.out wc hbc
       go_simp
       rfl
      refine a_val_l (u:=?_) [7] (by kernel_rfl) rfl (by kernel_rfl) trivial (fun ρ wc hbc hcn hk=>?_) ?_;rotate_left
      ·obtain⟨hcn,-⟩:=hcn
       simp at hk
       go_simp
       rfl
      refine a_val_l (u:=?_) [56,57] (by kernel_rfl) rfl (by kernel_rfl) trivial (fun ρ wc hbc hcn hk=>?_) ?_;rotate_left
      ·obtain⟨hcn,-⟩:=hcn
       simp at hk
       go_simp
       rfl
      refine a_val_l (u:=?_) [58] (by kernel_rfl) rfl (by kernel_rfl) trivial (fun ρ wc hbc hcn hk=>?_) ?_;rotate_left
      ·obtain⟨hcn,-⟩:=hcn
       simp at hk
       obtain⟨k0,k1,k2,k3,k4⟩:=HKN.out wc hbc
       go_simp
       rfl
      refine a_call (T:=NodF wr.heap.size ky) 28 [59] (by kernel_rfl) rfl rfl (by kernel_rfl) trivial (stable_nod _ _) (fun ρ wc hbc hcn hk=>?_) ?_
      ·obtain⟨hcn,hfn⟩:=hcn
       simp at hk
       refine⟨_,by go_simp;rfl,?_⟩
       refine(HC.out wc ⟨hbc.os,hbc.tape,hbc.output,hbc.size,hbc.block⟩).mono ?_
       rintro r w' ⟨v5,rfl,⟨A5,c5,B5,c6,hi5,rfl,h5,h6⟩,hb5⟩
       exact⟨_,rfl,⟨A5,c5,B5,c6,hi5,rfl,h5,h6.wide hbc.size (Nat.le_refl _)⟩,hb5⟩
      refine a_new (T:=OneF wr.heap.size ky) [60] (by kernel_rfl) rfl rfl (by kernel_rfl) trivial (stable_one _ _) (fun ρ wc hbc hcn hk=>?_) ?_
      ·obtain⟨hcn,hfn⟩:=hcn
       simp at hk
       obtain⟨A5,c5,B5,c6,hi5,h4,h5,h6⟩:=hk
       refine⟨.slice (some ⟨wc.heap.size,0,none⟩) 1 1,wc.alloc (.cells (fiveC ky A5 c5 B5 c6).toArray 37),?_,⟨wc.heap.size,A5,c5,B5,c6,hi5,rfl,fun o ho=>?_,?_,h6.below ((Below.refl _ _).alloc (Nat.le_refl _) _) h5⟩,(Below.refl _ _).alloc (Nat.le_refl _) _⟩
       ·go_simp
        rfl
       ·rw [blk_new]
        simp
       ·simp;omega
      refine a_sp (T:=OwnF wo.heap.size ((trimK ks).take q++[ky])) [54,61] rfl rfl (by kernel_rfl) trivial (stable_ownF _ _) (fun a wc hbc hcn hk=>?_) ?_
      ·obtain⟨h20,h27,-⟩:=hk
       obtain⟨qq,A5,c5,B5,c6,hi5,h4,h5,h6,h7⟩:=h27
       refine wpList_appO rfl (.tmp 54) (.tmp 61) 35 rfl Tryd.underlying35 h20 (HOW.out.below (N:=wr.heap.size) ⟨hbc.os,hbc.tape,hbc.output,hbc.size,hbc.block⟩ (Nat.le_refl _)) h4 h5 hszr5 h6 (fun g hg=>?_) h7 (by rw [HLN.out];omega) (Nat.le_trans hszr5 hbc.size) ?_
       ·obtain⟨vs,hv1,_⟩:=HOW.out
        exact(hv1.lt g hg).2
       ·intro v' w' hown' hgr
        refine⟨rfl,v',rfl,hown',?_⟩
        rw [if_pos rfl]
        refine⟨hgr.os,hgr.tape,hgr.output,hgr.size,fun q1 h1 h2=>hgr.block q1 h1 fun e=>h2 ?_⟩
        obtain⟨vs,hv1,_⟩:=HOW.out
        exact(hv1.lt q1 e.symm).1
      refine a_val_l (u:=?_) [5] (by kernel_rfl) rfl (by kernel_rfl) trivial (fun ρ wc hbc hcn hk=>?_) ?_;rotate_left
      ·obtain⟨hcn,-⟩:=hcn
       simp at hk
       go_simp
       rfl
      refine a_end_lit 65 rfl (fun ff w7 hb7 hk=>?_)
      have hO2:OwnN wo.heap.size w7 (ff 62) ((trimK ks).take q++[ky]):=allN_at10d hk 62 (by decide) (by decide)
      simp [AllN] at hk
      simp only [frameL,hk,Nat.zero_add,Nat.reduceAdd]
      obtain⟨B8,c8,hv8,-⟩:=hO2.slice
      rw [show ((trimK ks).take q++[ky]).length=q+1 by rw [List.length_append,HLN.out];rfl] at hv8
      have HO2:=Lib.hid hO2
      have HB7:=Lib.hid hb7
      have hs7:wr.heap.size≤w7.heap.size:=hb7.size
      clear hO2 hb7 hk
      rw [hv8] at HO2
      rw [hv8]
      clear hv8
      generalize ff 60=v60
      generalize ff 61=v61
      obtain⟨x3,y3,z3⟩:=HD3.out w7 HB7.out
      go_wp2
      go_roundw
      case rel=>
       refine⟨q+1,_,by omega,by go_num,(HD1.out w7 HB7.out).other (by show w.heap.size+1+1≠w.heap.size;omega) _,(HD2.out w7 HB7.out).other (by show w.heap.size+1+1≠w.heap.size+1;omega) _,(HD3.out w7 HB7.out).set 4 (by simp) _,?_,fun g h1 h2=>?_,by simp;omega,?_⟩
       ·refine OwnN.cast ?_ HTK.out.symm
        exact OwnN.far (p:=⟨w.heap.size+1+1,4,none⟩) HO2.out (by show w.heap.size+1+1<wo.heap.size;omega) _
       ·rw [Below.heap_setCell _ _ _ _ (by show g≠w.heap.size+1+1;omega),HB7.out.block g (by show g<wr.heap.size;omega) (by omega)]
        exact HDA.out g h1 h2
       ·refine Below.setCell ?_ (by show w.heap.size≤w.heap.size+1+1;omega) _
        exact(bel_drew HR5.out).trans (HB7.out.below (B:=w.heap.size) (by show w.heap.size≤wr.heap.size;omega) (fun g hg=>by omega))
      case measure=>simp [intOf];omega
     ·obtain rfl:q=K:=by omega
      obtain⟨B9,c9,he9,-⟩:=HOW.out.slice
      have hlK:((trimK ks).take q).length=q:=HKL.out
      rw [hlK] at he9
      subst he9
      have hgd:Got wr (w.heap.size+1+1+1) 5 .u8 (.slice A2 (d.take j).length c3) (d.take j):=got_agree (HG.out.cast (by rw [HDL.out]) rfl) fun g h1 h2=>HDA.out g h1 h2
      have hO:=HO.out
      have HN:=Lib.hid ((HOW.out.mono (base':=w.heap.size+1+1+1) (by omega)).node hO.1 hO.2.1 hO.2.2.1 hgd (fun z hz=>HBT.out z (List.mem_of_mem_take hz)))
      rw [←HT.out] at HN
      clear hgd hO
      obtain⟨x2,y2,z2⟩:=HE2.out
      go_wp2
      refine abs_post (F:=fun W=>Blk W (w.heap.size+1) #[.int .i64 k,.int .i64 e,.int .i64 n,.slice A2 j c3,.slice B9 q c9]∧NdO (w.heap.size+1+1+1) W.heap.size W A2 c3 B9 c9 tx∧Below w.heap.size w W) ⟨?_,?_,?_⟩ ?_
      ·exact((((HE2.out.set 0 (by simp) _).set 1 (by simp) _).set 2 (by simp) _).set 3 (by simp) _).set 4 (by simp) _
      ·have e5:∀g,g≠w.heap.size+1→(((((wr.setCell ⟨w.heap.size+1,0,none⟩ (.int .i64 k)).setCell ⟨w.heap.size+1,1,none⟩ (.int .i64 e)).setCell ⟨w.heap.size+1,2,none⟩ (.int .i64 n)).setCell ⟨w.heap.size+1,3,none⟩ (.slice A2 j c3)).setCell ⟨w.heap.size+1,4,none⟩ (.slice B9 q c9)).heap[g]?=wr.heap[g]?:=by
        intro g hg
        rw [Below.heap_setCell _ _ _ _ hg,Below.heap_setCell _ _ _ _ hg,Below.heap_setCell _ _ _ _ hg,Below.heap_setCell _ _ _ _ hg,Below.heap_setCell _ _ _ _ hg]
       simpa using HN.out.to fun g g1 _=>e5 g (by omega)
      ·refine Below.setCell (Below.setCell (Below.setCell (Below.setCell (Below.setCell HR5.out ?_ _) ?_ _) ?_ _) ?_ _) ?_ _<;>(show w.heap.size≤w.heap.size+1;omega)
      rintro W5 ⟨B6,hN,hbw⟩
      have hve:Value.agg #[.int .i64 k,.int .i64 e,.int .i64 n,.slice A2 j c3,.slice B9 q c9]=.agg #[.int .i64 tx.k,.int .i64 tx.e,.int .i64 tx.n,.slice A2 tx.d.length c3,.slice B9 tx.ks.length c9]:=by
       rw [HT.out]
       simp only [Nd.k,Nd.e,Nd.n,Nd.d,Nd.ks,HDL.out,HKL.out]
      exact bodyPost_ret (v:=.agg #[.int .i64 k,.int .i64 e,.int .i64 n,.slice A2 j c3,.slice B9 q c9]) (by simp [results,Tryd.results28,go_sem,B6.cell]) rfl ⟨_,rfl,⟨A2,c3,B9,c9,_,hve,Nat.le_refl _,hN.wide (by omega) (Nat.le_refl _)⟩,hbw⟩
end
section
attribute [local simp] AllK KnowsV look Is
def ReadS (w0 w:World)(wb q:Nat)(B:Option Addr)(ks:List Nd):Prop:=
 ∀j (hj:j<ks.length),∃b off A' c' B' c2',B=some ⟨b,off,none⟩∧¬KS wb q b∧b<w.heap.size∧w.cell? ⟨b,off+j*5,none⟩=some (.int .i64 (ks[j]).k)∧w.cell? ⟨b,off+j*5+1,none⟩=some (.int .i64 (ks[j]).e)∧w.cell? ⟨b,off+j*5+2,none⟩=some (.int .i64 (ks[j]).n) ∧
  w.cell? ⟨b,off+j*5+3,none⟩=some (.slice A' (ks[j]).d.length c')∧w.cell? ⟨b,off+j*5+4,none⟩=some (.slice B' (ks[j]).ks.length c2')∧NdR w0 A' c' B' c2' ks[j]
theorem ReadS.keeps {w0 w w':World}{wb q:Nat}{B:Option Addr}{ks:List Nd}(h:ReadS w0 w wb q B ks)(hk:Keeps (KS wb q) w w'):ReadS w0 w' wb q B ks:=by
 intro j hj
 obtain⟨b,off,A',c',B',c2',hB,hne,hb,h0,h1,h2,h3,h4,h5⟩:=h j hj
 have hc:∀o,w'.cell? ⟨b,o,none⟩=w.cell? ⟨b,o,none⟩:=fun o=>World.cell?_of_block (hk.block b hb (fun e=>hne e))
 exact⟨b,off,A',c',B',c2',hB,hne,Nat.lt_of_lt_of_le hb hk.size,(hc _).trans h0,(hc _).trans h1,(hc _).trans h2,(hc _).trans h3,(hc _).trans h4,h5⟩
end
section
attribute [local simp] AllK KnowsV look Is
structure Std (wb q cap base:Nat) (w:World) (cur:List Int) (bx:Nat) (box:Array Value) (W:World):Prop where
 keeps:Keeps (KS wb q) w W
 wr:Wr W wb q cap base cur
 box:Blk W bx box
theorem Std.set {wb q cap base:Nat}{w:World}{cur:List Int}{bx:Nat}{box:Array Value}{W:World}(h:Std wb q cap base w cur bx box W){p:Addr}(h1:w.heap.size≤p.block)(h2:p.block≠bx)(h3:¬KS wb q p.block)(v:Value):Std wb q cap base w cur bx box (W.setCell p v):=
 ⟨ks_set h.keeps (.inr h1) v,⟨h.wr.blk.other (fun e=>h3 (.inl e)) v,got_other15 h.wr.got (fun e=>by injection e with e;exact h3 (.inr e.symm)) v⟩,h.box.other h2 v⟩
theorem Std.below {wb q cap base:Nat}{w:World}{cur:List Int}{bx:Nat}{box:Array Value}{W W':World}(h:Std wb q cap base w cur bx box W)(hb:Below W.heap.size W W'):Std wb q cap base w cur bx box W':=⟨ks_on h.keeps hb,h.wr.below hb,h.box.below hb⟩
theorem Std.put {wb q cap base:Nat}{w:World}{cur:List Int}{bx:Nat}{box:Array Value}{W:World}(h:Std wb q cap base w cur bx box W)(hne:wb≠q)(hq:bx≠q)(j:Nat)(y:Int):Std wb q cap base w (cur.set j y) bx box (W.setCell ⟨q,j,none⟩ (.int .u64 y)):=
 ⟨ks_set h.keeps (.inl (.inr rfl)) _,h.wr.put hne j y,h.box.other (fun e=>hq e.symm) _⟩
end
end Go.Proofs.YtclpapddejgpnaaDoor
