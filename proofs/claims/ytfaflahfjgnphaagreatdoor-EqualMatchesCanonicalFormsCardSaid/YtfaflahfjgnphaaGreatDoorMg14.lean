/- The texts Ref11, Ref10d, NodeF, Ref11b, NodeK, TrimN3, Can, Can3, Write, TrimB, Ref13 (what is wanted of them), one after the other. -/
import Derived.Test.YtfaflahfjgnphaaGreatDoorMg5
import Derived.Test.YtfaflahfjgnphaaGreatDoorMg12
import Derived.Test.YtfaflahfjgnphaaGreatDoorMg13
namespace Go.Proofs.YtfaflahfjgnphaaGreatDoor
open Go.ChangeShapes Go.WideShapes Go.ChangeAt Go.RowKit
set_option linter.unusedVariables false
set_option linter.unusedSimpArgs false
set_option maxRecDepth 100000
set_option maxRecDepth 100000 in
theorem RefWords11_any (A:Option Addr)(c:Nat)(d:List Int)(w:World)(hr:Ri w .u8 A d)(hb:Bts d)(hm:d.length≤1099511627776):
  Calls Tryz.prog 64 #[.slice A d.length c] w fun r w'=>r=.returned (.int .i64 (wordsT d))∧w=w':=by
 have Hr:=Lib.hid hr
 have Hb:=Lib.hid hb
 have HW:Hid (wordsT d=wordsF d d.length):=Lib.hid rfl
 clear hr hb
 go_enter Tryz.func64,Tryz.ntmps64
 go_wp2
 go_loop [3,4] (fun n i=>∃k:Nat,k≤d.length∧i=.int .i64 k∧n=.int .i64 (wordsF d k)) (fun _ i=>d.length-(intOf i).toNat)
 case atStart=>exact⟨0,by omega,rfl,rfl⟩
 case round=>
  obtain⟨k,hk,rfl,rfl⟩:=hrel
  by_cases hlt:k<d.length
  ·obtain⟨g,off,rfl,hc⟩:=Hr.out.at hlt
   have hcell:=hc k hlt
   have hz:=Hb.out.at k
   have hlt2:(k:Int)<(d.length:Int):=by omega
   have HS:Hid (wordsF d (k+1)=if zat d k=0 then wordsF d k else k / 8+1):=Lib.hid rfl
   clear hc
   generalize zat d k=z at *
   by_cases h0:z=0
   ·subst h0
    go_wp2
    go_round
    case rel=>exact⟨k+1,by omega,by go_num,by rw [HS.out,if_pos rfl]⟩
    case measure=>simp [intOf];omega
   ·have hne:(z != 0)=true:=by simpa using h0
    have HZ:=Lib.hid h0
    clear h0
    go_wp2
    go_round
    case rel=>exact⟨k+1,by omega,by go_num,by rw [HS.out,if_neg HZ.out];go_num⟩
    case measure=>simp [intOf];omega
  ·obtain rfl:k=d.length:=by omega
   go_wp2
   go_ret
   exact⟨by rw [HW.out];rfl,rfl⟩
set_option maxRecDepth 100000 in
theorem RefPointers11_any (B:Option Addr)(c:Nat)(ks:List Nd)(w:World)(hr:KsR w B ks)(hm:ks.length≤1099511627776):
  Calls Tryz.prog 65 #[.slice B ks.length c] w fun r w'=>r=.returned (.int .i64 (ptrsT ks))∧w=w':=by
 have Hr:=Lib.hid hr
 have HW:Hid (ptrsT ks=ptrsF ks ks.length):=Lib.hid rfl
 clear hr
 go_enter Tryz.func65,Tryz.ntmps65
 go_wp2
 go_loop [3,4] (fun n i=>∃k:Nat,k≤ks.length∧i=.int .i64 k∧n=.int .i64 (ptrsF ks k)) (fun _ i=>ks.length-(intOf i).toNat)
 case atStart=>exact⟨0,by omega,rfl,rfl⟩
 case round=>
  obtain⟨k,hk,rfl,rfl⟩:=hrel
  by_cases hlt:k<ks.length
  ·obtain⟨b,off,Aa,ca,Ba,cb,rfl,hcell,-⟩:=Hr.out.at hlt
   have hlt2:(k:Int)<(ks.length:Int):=by omega
   have HS:Hid (ptrsF ks (k+1)=if ks[k].k=0 then ptrsF ks k else k+1):=Lib.hid (by rw [←kAt_get hlt];rfl)
   generalize ks[k].k=z at *
   by_cases h0:z=0
   ·subst h0
    go_wp2
    go_round
    case rel=>exact⟨k+1,by omega,by go_num,by rw [HS.out,if_pos rfl]⟩
    case measure=>simp [intOf];omega
   ·have hne:(z != 0)=true:=by simpa using h0
    have HZ:=Lib.hid h0
    clear h0
    go_wp2
    go_round
    case rel=>exact⟨k+1,by omega,by go_num,by rw [HS.out,if_neg HZ.out];go_num⟩
    case measure=>simp [intOf];omega
  ·obtain rfl:k=ks.length:=by omega
   go_wp2
   go_ret
   exact⟨by rw [HW.out];rfl,rfl⟩
theorem dec1 (u v:Nat):(decide ((u:Int)<(v:Int))=true∧decide (u<v)=true∧(u:Int)<(v:Int)∧u<v∧max u v=v)∨(decide ((u:Int)<(v:Int))=false∧decide (u<v)=false∧¬(u:Int)<(v:Int)∧¬u<v∧max u v=u):=by
 by_cases h:u<v
 ·exact .inl ⟨decide_eq_true (by omega),decide_eq_true h,by omega,h,by omega⟩
 ·exact .inr ⟨decide_eq_false (by omega),decide_eq_false h,by omega,h,by omega⟩
theorem dec8 (u v:Nat):(decide ((u:Int)<(v:Int) / 8)=true∧(u:Int)<(v:Int) / 8∧max u (v / 8)=v / 8)∨(decide ((u:Int)<(v:Int) / 8)=false∧¬(u:Int)<(v:Int) / 8∧max u (v / 8)=u):=by
 by_cases h:u<v / 8
 ·exact .inl ⟨decide_eq_true (by omega),by omega,by omega⟩
 ·exact .inr ⟨decide_eq_false (by omega),by omega,by omega⟩
set_option maxHeartbeats 2000000 in
set_option maxRecDepth 100000 in
theorem RefUniform11_any (x:Nd)(A:Option Addr)(c:Nat)(B:Option Addr)(c2:Nat)(w:World)(hx:NdR w A c B c2 x)(hs:sizeN x≤1099511627776):
  Calls Tryz.prog 95 #[.agg #[.int .i64 x.k,.int .i64 x.e,.int .i64 x.n,.slice A x.d.length c,.slice B x.ks.length c2]] w fun r w'=>r=.returned (.tuple #[.int .i64 (uniD x.ks x.ks.length),.int .i64 (uniP x.ks x.ks.length)])∧Below w.heap.size w w':=by
 obtain⟨k,e,n,d,ks⟩:=x
 simp only [Nd.k,Nd.e,Nd.n,Nd.d,Nd.ks]
 have HX:=Lib.hid hx
 have hso:sizeN (.mk k e n d ks)=1+d.length+sizeK ks:=by simp only [sizeN]
 rw [hso] at hs
 have hkl:=sizeK_length ks
 have HKID:Hid (∀j (h:j<ks.length),ks[j].d.length≤1099511627776∧ks[j].ks.length≤1099511627776):=Lib.hid (fun j h=>by
  have hz:=sizeN_kid (List.getElem_mem h)
  generalize ks[j]=y at *
  obtain⟨_,_,_,dd,kk'⟩:=y
  have:=sizeK_length kk'
  simp only [sizeN,Nd.d,Nd.ks] at *
  omega)
 clear hx hso
 go_enter Tryz.func95,Tryz.ntmps95
 have B1:=Blk.fresh w #[.int .i64 k,.int .i64 e,.int .i64 n,.slice A d.length c,.slice B ks.length c2] 53
 have HB1:=Lib.hid B1
 go_wp2
 clear B1
 go_loop [4,5,6] (fun a b i=>∃j:Nat,j≤ks.length∧i=.int .i64 j∧a=.int .i64 (uniD ks j)∧b=.int .i64 (uniP ks j)) (fun _ _ i=>ks.length-(intOf i).toNat)
 case atStart=>exact⟨0,by omega,rfl,rfl,rfl⟩
 case round=>
  obtain⟨j,hj,rfl,rfl,rfl⟩:=hrel
  obtain⟨x1,y1,z1⟩:=HB1.out
  by_cases hlt:j<ks.length
  ·obtain⟨b,off,Aa,ca,Ba,cb,rfl,k0,k1,k2,k3,k4,hsub⟩:=HX.out.kids.atIn ((Below.refl _ _).alloc (Nat.le_refl _) (.cells #[.int .i64 k,.int .i64 e,.int .i64 n,.slice A d.length c,.slice B ks.length c2] 53)) (Nat.le_refl _) hlt
   have HD:=Lib.hid (uniD_succ hlt)
   have HP:=Lib.hid (uniP_succ hlt)
   obtain⟨bd1,bd2⟩:=HKID.out j hlt
   clear hsub k0 k1 k2
   generalize uniD ks j=u at *
   generalize uniP ks j=v at *
   generalize ks[j]=kx at *
   have HM1:=Lib.hid (dec8 u kx.d.length)
   have HM2:=Lib.hid (dec1 v kx.ks.length)
   rcases HM1.out with ⟨t1,t1',m1⟩|⟨t1,t1',m1⟩<;>rcases HM2.out with ⟨t2,t2',t3,t4,m2⟩|⟨t2,t2',t3,t4,m2⟩ <;>
   (rw [m1] at HD
    rw [m2] at HP
    clear m1 m2
    go_wp2
    go_round
    case rel=>exact⟨j+1,by omega,by go_num,by rw [HD.out];try (first|rfl|go_num),by rw [HP.out];try (first|rfl|go_num)⟩
    case measure=>simp [intOf];omega)
  ·obtain rfl:j=ks.length:=by omega
   go_wp2
   go_ret2
   exact⟨rfl,(Below.refl _ _).alloc (Nat.le_refl _) _⟩
section
attribute [local simp] AllK KnowsV look Is
theorem abs_list {P:Program}{ops:Array Oper}{l:List Oper}{Q:Exit→Act→World→Prop}{a:Act}{V:World}(F:World→Prop)(hF:F V)(h:∀W,F W→wpList P ops Q l a W):wpList P ops Q l a V:=h V hF
theorem allN_at10d {P:Nat→Prop}:∀{n s:Nat},AllN P n s→∀j,s≤j→j<s+n→P j
 | 0,_,_,_,_,h=>by omega
 | n+1,s,h,j,h1,h2=>by
  by_cases e:s=j
  ·subst e;exact h.1
  ·exact allN_at10d h.2 j (by omega) (by omega)
theorem hold_it {p:Prop}(h:Hid p):p:=h.out
theorem abs_code10 {P:Program}{C:Code}{Q:Exit→Act→World→Prop}{a:Act}{V:World}(F:World→Prop)(hF:F V)(h:∀W,F W→C.wp P Q a W):C.wp P Q a V:=h V hF
end
theorem KsR.node {w:World}{B:Option Addr}{ks:List Nd}(h:KsR w B ks){k e n:Int}{d:List Int}{A:Option Addr}{c c2:Nat}
  (hk:-9223372036854775808≤k∧k≤9223372036854775807) (he:-9223372036854775808≤e∧e≤9223372036854775807) (hn:-9223372036854775808≤n∧n≤9223372036854775807)
  (hd:Ri w .u8 A d) (hby:Bts d) (hdl:d.length≤c) (hc:c≤maxLen) (hA:A=none→c=0) (hkl:ks.length≤c2) (hc2:c2≤maxLen) (hB:B=none→c2=0):NdR w A c B c2 (.mk k e n d ks):=by
 rcases h with rfl|⟨b,off,hBe,h⟩
 ·exact .mk k e n d [] A c B c2 (fun _=>none) (fun _=>0) (fun _=>none) (fun _=>0) hk he hn hd hby hdl hc hA hkl hc2 hB (.inl rfl) (fun j x hx=>by simp at hx)
 ·refine .mk k e n d ks A c B c2 (fun j=>if h0:j<ks.length then Classical.choose (h j h0) else none) (fun j=>if h0:j<ks.length then Classical.choose (Classical.choose_spec (h j h0)) else 0)
   (fun j=>if h0:j<ks.length then Classical.choose (Classical.choose_spec (Classical.choose_spec (h j h0))) else none) (fun j=>if h0:j<ks.length then Classical.choose (Classical.choose_spec (Classical.choose_spec (Classical.choose_spec (h j h0)))) else 0)
   hk he hn hd hby hdl hc hA hkl hc2 hB (.inr ⟨b,off,hBe,fun j x hj=>?_⟩) (fun j x hj=>?_)
  ·have hjl:j<ks.length:=(List.getElem?_eq_some_iff.1 hj).1
   obtain rfl:ks[j]=x:=(List.getElem?_eq_some_iff.1 hj).2
   have hs:=Classical.choose_spec (Classical.choose_spec (Classical.choose_spec (Classical.choose_spec (h j hjl))))
   simp only [dif_pos hjl]
   exact⟨hs.1,hs.2.1,hs.2.2.1,hs.2.2.2.1,hs.2.2.2.2.1⟩
  ·have hjl:j<ks.length:=(List.getElem?_eq_some_iff.1 hj).1
   obtain rfl:ks[j]=x:=(List.getElem?_eq_some_iff.1 hj).2
   have hs:=Classical.choose_spec (Classical.choose_spec (Classical.choose_spec (Classical.choose_spec (h j hjl))))
   simp only [dif_pos hjl]
   exact hs.2.2.2.2.2
def DatF (d:List Int):Fact:=fun v w=>∃A c,v=.slice A d.length c∧Ri w .u8 A d∧d.length≤c∧c≤maxLen∧(A=none→c=0)
theorem stable_datf (d:List Int):stable (DatF d):=by
 rintro v w w' ⟨A,c,e,h,r⟩ hb
 exact⟨A,c,e,h.below hb (Nat.le_refl _),r⟩
theorem nd0_here (w:World)(k:Int)(hk:-9223372036854775808≤k∧k≤9223372036854775807):NdR w none 0 none 0 (.mk k 0 0 [] []):=
 (show KsR w none [] from .inl rfl).node hk ⟨by decide,by decide⟩ ⟨by decide,by decide⟩ (Ri.nil _ _ _) (by intro z hz;cases hz) (by simp) (by unfold maxLen;omega) (fun _=>rfl) (by simp) (by unfold maxLen;omega) (fun _=>rfl)
theorem allN_atF {P:Nat→Prop}:∀{n s:Nat},AllN P n s→∀j,s≤j→j<s+n→P j
 | 0,_,_,_,_,h=>by omega
 | n+1,s,h,j,h1,h2=>by
  by_cases e:s=j
  ·subst e;exact h.1
  ·exact allN_atF h.2 j (by omega) (by omega)
section
attribute [local simp] AllK KnowsV look Is
def GotU (base:Nat)(l:List Int):Fact:=fun v w=>Got w base 5 .u8 v l
theorem stable_gotu (base:Nat)(l:List Int):stable (GotU base l):=fun v w w' h hb=>Got.below h hb (Nat.le_refl _)
theorem valid_kids11 {k e n:Int}{d:List Int}{ks:List Nd}(h:validN (.mk k e n d ks)=true):(∀y∈ks,validN y=true)∧(k=1→d.length % 8=0):=by
 simp only [validN,Bool.and_eq_true] at h
 obtain⟨h1,h2⟩:=h
 refine⟨fun y hy=>?_,fun hk=>?_⟩
 ·obtain⟨j,hj,rfl⟩:=List.getElem_of_mem hy
  rcases Bool.eq_false_or_eq_true (validN ks[j]) with h3|h3
  ·exact h3
  ·have:=validK_no k e ks j hj (by rw [h3];rfl)
   rw [h1] at this
   cases this
 ·unfold headB at h2
  rw [if_neg (by omega),if_pos hk,decide_eq_true_iff] at h2
  exact h2.2.2.1
theorem trim_eq (k e n:Int)(d:List Int)(ks:List Nd):trimN (.mk k e n d ks)=.mk k e n (d.take (if k=1 then 8*wordsT d else d.length)) ((trimK ks).take (if k=1 then ptrsT ks else ks.length)):=by
 simp only [trimN]
 split
 ·rfl
 ·rw [List.take_length,←trimK_length,List.take_length]
set_option maxHeartbeats 8000000 in
set_option maxRecDepth 100000 in
theorem RefTrim11_node:∀(x:Nd) (A:Option Addr) (c:Nat) (B:Option Addr) (c2:Nat) (w:World),NdR w A c B c2 x→sizeN x≤1099511627776→validN x=true →
  Calls Tryz.prog 36 #[.agg #[.int .i64 x.k,.int .i64 x.e,.int .i64 x.n,.slice A x.d.length c,.slice B x.ks.length c2]] w fun r w'=>∃v,r=.returned v∧NodF w.heap.size (trimN x) v w'∧Below w.heap.size w w':=by
 refine Nd.ind ?_
 intro k e n d ks ih A c B c2 w hx hs hv
 simp only [Nd.k,Nd.e,Nd.n,Nd.d,Nd.ks]
 obtain⟨i8,hi8,hy0,hy1,hy2⟩:=info_parts int8_info
 have HX:=Lib.hid hx
 have HI:=Lib.hid ih
 have HO:=Lib.hid hx.open
 have HVK:=Lib.hid (valid_kids11 hv).1
 have hso:sizeN (.mk k e n d ks)=1+d.length+sizeK ks:=by simp only [sizeN]
 rw [hso] at hs
 have hkl:=sizeK_length ks
 have hdl:d.length≤1099511627776:=by omega
 have HD:=Lib.hid hx.open.2.2.2.1
 have HBT:=Lib.hid hx.open.2.2.2.2.1
 have HAN:=Lib.hid hx.open.2.2.2.2.2.2.2.1
 have HWD:=Lib.hid (fun w' (hb:Below w.heap.size w w')=>RefWords11_any A c d w' (HD.out.below hb (Nat.le_refl _)) HBT.out hdl)
 have HPT:=Lib.hid (fun w' (hb:Below w.heap.size w w')=>RefPointers11_any B c2 ks w' (HX.out.kids.on hb (Nat.le_refl _)) (by omega))
 have hDK:∃D K:Nat,D≤d.length∧K≤ks.length∧trimN (.mk k e n d ks)=.mk k e n (d.take D) ((trimK ks).take K)∧((k=1∧8*wordsT d=D∧ptrsT ks=K)∨(k≠1∧D=d.length∧K=ks.length)):=by
  by_cases h1:k=1
  ·exact⟨8*wordsT d,ptrsT ks,wordsT_le d ((valid_kids11 hv).2 h1),ptrsT_le ks,by rw [trim_eq,if_pos h1,if_pos h1],.inl ⟨h1,rfl,rfl⟩⟩
  ·exact⟨d.length,ks.length,Nat.le_refl _,Nat.le_refl _,by rw [trim_eq,if_neg h1,if_neg h1],.inr ⟨h1,rfl,rfl⟩⟩
 obtain⟨D,K,hDl,hKl,hT,hcase⟩:=hDK
 have HT:=Lib.hid hT
 have HDL:Hid ((d.take D).length=D):=Lib.hid (by rw [List.length_take];omega)
 have HKL:Hid (((trimK ks).take K).length=K):=Lib.hid (by rw [List.length_take,trimK_length];omega)
 have hwb:(8*wordsT d=D→wordsT d≤1099511627776):=by omega
 clear hx ih hso hv hT
 generalize trimN (.mk k e n d ks)=tx at *
 go_enter Tryz.func36,Tryz.ntmps36
 have hb0:∀o1 o2,Below w.heap.size w ((w.alloc o1).alloc o2):=fun o1 o2=>((Below.refl _ _).alloc (Nat.le_refl _) _).alloc (by simp) _
 have HB0:=Lib.hid hb0
 clear hb0
 rcases hcase with ⟨h1,hDD,hPP⟩|⟨h1,hDD,hPP⟩
 have t1:(k==1)=true:=by simpa using h1
 have hwb':=hwb hDD
 have EDD:Hid (8*((wordsT d:Nat):Int)=((D:Nat):Int)):=Lib.hid (by omega)
 have EPP:Hid (((ptrsT ks:Nat):Int)=((K:Nat):Int)):=Lib.hid (by omega)
 have H1:=Lib.hid h1
 clear h1 hDD hPP hwb
 go_wp2_with fail
 refine(HWD.out _ (HB0.out _ _)).mono ?_
 rintro r w' ⟨rfl,rfl⟩
 go_wp2_with fail
 refine(HPT.out _ (HB0.out _ _)).mono ?_
 rintro r w' ⟨rfl,rfl⟩
 go_wp2
 simp only [EDD.out,EPP.out]
 rotate_left
 have t1:(k==1)=false:=by simpa using h1
 have EDD:Hid (((d.length:Nat):Int)=((D:Nat):Int)):=Lib.hid (by omega)
 have EPP:Hid (((ks.length:Nat):Int)=((K:Nat):Int)):=Lib.hid (by omega)
 have H1:=Lib.hid h1
 clear h1 hDD hPP hwb
 go_wp2
 simp only [EDD.out,EPP.out]
 all_goals
  refine abs_code10 (F:=fun W=>Blk W w.heap.size #[.int .i64 k,.int .i64 e,.int .i64 n,.slice A d.length c,.slice B ks.length c2]∧Blk W (w.heap.size+1) #[.int .i64 0,.int .i64 0,.int .i64 0,.slice none 0 0,.slice none 0 0]∧Blk W (w.heap.size+1+1) #[.int .i64 k,.int .i64 e,.int .i64 n,.slice none 0 0,.slice none 0 0]∧Below w.heap.size w W∧w.heap.size+1+1+1≤W.heap.size) ⟨?_,?_,?_,?_,?_⟩ ?_
  ·exact((Blk.fresh _ _ _).alloc _).alloc _
  ·exact(Blk.new (by simp)).alloc _
  ·exact Blk.new (by simp)
  ·exact(HB0.out _ _).alloc (by simp;omega) _
  ·simp
  rintro W ⟨hB1,hB2,hB3,hbw,hszW⟩
  have HW1:=Lib.hid hB1
  have HW2:=Lib.hid hB2
  have HW3:=Lib.hid hB3
  have HWB:=Lib.hid hbw
  clear hB1 hB2 hB3 hbw
  go_loopw [6] (fun i wr=>∃(j:Nat) (v:Value),j≤D∧i=.int .i64 j∧Blk wr w.heap.size #[.int .i64 k,.int .i64 e,.int .i64 n,.slice A d.length c,.slice B ks.length c2]∧Blk wr (w.heap.size+1) #[.int .i64 0,.int .i64 0,.int .i64 0,.slice none 0 0,.slice none 0 0]∧Blk wr (w.heap.size+1+1) #[.int .i64 k,.int .i64 e,.int .i64 n,v,.slice none 0 0]∧Got wr (w.heap.size+1+1+1) 5 .u8 v (d.take j)∧Below w.heap.size w wr∧w.heap.size+1+1+1≤wr.heap.size) (fun i _=>D-(intOf i).toNat)
  case atStart=>exact⟨0,.slice none 0 0,by omega,rfl,HW1.out,HW2.out,HW3.out,Got.empty _ _ _ _,HWB.out,hszW⟩
  case round=>
   obtain⟨j,v,hj,rfl,hB1,hB2,hB3,hg,hbr,hszr⟩:=hrel
   have HR:=Lib.hid hbr
   have HC1:=Lib.hid hB1
   have HC2:=Lib.hid hB2
   have HC3:=Lib.hid hB3
   have HG:=Lib.hid hg
   clear hbr hg hB2
   obtain⟨x1,y1,z1⟩:=hB1
   obtain⟨x3,y3,z3⟩:=hB3
   by_cases hlt:j<D
   ·obtain⟨b,off,rfl,hcd⟩:=(HD.out.below HR.out (Nat.le_refl _)).at (i:=j) (by omega)
    have hcj:=hcd j (by omega)
    have hblt:b<w.heap.size:=by
     obtain⟨b',off',hBe,hcd'⟩:=HD.out.at (i:=j) (by omega)
     injection hBe with hBe
     injection hBe with hBe
     subst hBe
     exact World.block_lt_of_cell? w ⟨b,off'+j,none⟩ (hcd' j (by omega))
    have hzj:=HBT.out.at j
    have hTK:d.take (j+1)=d.take j++[zat d j]:=take_succ_zat d j (by omega)
    have HTK:=Lib.hid hTK
    have hln:(d.take j).length=j:=by rw [List.length_take];omega
    have HLN:=Lib.hid hln
    have hkn:∀wc,Keeps (fun q=>w.heap.size+1+1+1≤q) wr.drew wc→wc.cell? ⟨b,off+j,none⟩=some (.int .u8 (zat d j)):=by
     intro wc hk
     have hb:=hk.below (B:=w.heap.size) (by show w.heap.size≤wr.heap.size;omega) (fun q hq=>by omega)
     exact(hb.cell (p:=⟨b,_,none⟩) hblt).trans hcj
    have HKN:=Lib.hid hkn
    have hD1:∀wc,Keeps (fun q=>w.heap.size+1+1+1≤q) wr.drew wc→Blk wc w.heap.size #[.int .i64 k,.int .i64 e,.int .i64 n,.slice (some ⟨b,off,none⟩) d.length c,.slice B ks.length c2]:=fun wc hk=>HC1.out.drew.keeps hk (by omega)
    have hD2:∀wc,Keeps (fun q=>w.heap.size+1+1+1≤q) wr.drew wc→Blk wc (w.heap.size+1) #[.int .i64 0,.int .i64 0,.int .i64 0,.slice none 0 0,.slice none 0 0]:=fun wc hk=>HC2.out.drew.keeps hk (by omega)
    have hD3:∀wc,Keeps (fun q=>w.heap.size+1+1+1≤q) wr.drew wc→Blk wc (w.heap.size+1+1) #[.int .i64 k,.int .i64 e,.int .i64 n,v,.slice none 0 0]:=fun wc hk=>HC3.out.drew.keeps hk (by omega)
    have HD1:=Lib.hid hD1
    have HD2:=Lib.hid hD2
    have HD3:=Lib.hid hD3
    clear hcd hcj hkn hD1 hD2 hD3 hTK hln
    generalize zat d j=z at *
    have hltD:(j:Int)<(D:Int):=by omega
    have hltL:(j:Int)<(d.length:Int):=by omega
    go_wp2_with fail
    clear x1 y1 z1 x3 y3 z3
    refine wp_region_a10 8 (fun q=>w.heap.size+1+1+1≤q) (by kernel_rfl) (by kernel_rfl) ?_
    refine a_val_l (u:=?_) [5] (by kernel_rfl) rfl (by kernel_rfl) trivial (fun ρ wc hbc hcn hk=>?_) ?_;rotate_left
    ·obtain⟨hcn,-⟩:=hcn
     simp at hk
     go_simp
     rfl
    refine a_val (u:=?_) [38] (by kernel_rfl) rfl rfl (by kernel_rfl) trivial (fun ρ wc hbc hcn hk=>?_) ?_;rotate_left
    ·obtain⟨hcn,-⟩:=hcn
     simp at hk
     obtain⟨x3,y3,z3⟩:=HD3.out wc (keeps_of hbc)
     go_simp
     rfl
    refine a_val_l (u:=?_) [1] (by kernel_rfl) rfl (by kernel_rfl) trivial (fun ρ wc hbc hcn hk=>?_) ?_;rotate_left
    ·obtain⟨hcn,-⟩:=hcn
     simp at hk
     go_simp
     rfl
    refine a_val_l (u:=?_) [40] (by kernel_rfl) rfl (by kernel_rfl) trivial (fun ρ wc hbc hcn hk=>?_) ?_;rotate_left
    ·obtain⟨hcn,-⟩:=hcn
     simp at hk
     obtain⟨x1,y1,z1⟩:=HD1.out wc hbc
     go_simp
     rfl
    refine a_val_l (u:=?_) [6] (by kernel_rfl) rfl (by kernel_rfl) trivial (fun ρ wc hbc hcn hk=>?_) ?_;rotate_left
    ·obtain⟨hcn,-⟩:=hcn
     simp at hk
     go_simp
     rfl
    refine a_val_l (u:=?_) [41,42] (by kernel_rfl) rfl (by kernel_rfl) trivial (fun ρ wc hbc hcn hk=>?_) ?_;rotate_left
    ·obtain⟨hcn,-⟩:=hcn
     simp at hk
     go_simp
     rfl
    refine a_val_l (u:=?_) [43] (by kernel_rfl) rfl (by kernel_rfl) trivial (fun ρ wc hbc hcn hk=>?_) ?_;rotate_left
    ·obtain⟨hcn,-⟩:=hcn
     simp at hk
     have hc0:=HKN.out wc hbc
     go_simp
     rfl
    refine a_new (T:=DatF [z]) [44] (by kernel_rfl) rfl rfl (by kernel_rfl) trivial (stable_datf _) (fun ρ wc hbc hcn hk=>?_) ?_
    ·obtain⟨hcn,-⟩:=hcn
     simp at hk
     exact⟨.slice (some ⟨wc.heap.size,0,none⟩) 1 1,wc.alloc (.cells #[.int .u8 z] 5),by go_simp,⟨_,_,rfl,Ri.lit wc .u8 [z] _,by simp,by unfold maxLen;simp,fun h=>by cases h⟩,(Below.refl _ _).alloc (Nat.le_refl _) _⟩
    refine a_sp (T:=GotU (w.heap.size+1+1+1) (d.take j++[z])) [39,45] rfl rfl (by kernel_rfl) trivial (stable_gotu _ _) (fun a wc hbc hcn hk=>?_) ?_
    ·obtain⟨h39,⟨A5,c5,h45,hr5,hl5,hm5,hn5⟩,-⟩:=hk
     refine wpList_appN rfl (.tmp 39) (.tmp 45) 50 rfl Tryz.underlying50 hi8 hy0 hy1 hy2 h39 (HG.out.below (B:=wr.heap.size) ⟨hbc.os,hbc.tape,hbc.output,hbc.size,hbc.block⟩ (Nat.le_refl _)) h45 hr5 hn5 (by rw [HLN.out];unfold maxLen;simp;omega) (by rw [HLN.out];simp;omega) (Nat.le_trans hszr hbc.size) ?_
     intro v' w' hg' hb'
     refine⟨rfl,v',rfl,hg',?_⟩
     rw [if_pos rfl]
     exact⟨hb'.os,hb'.tape,hb'.output,hb'.size,fun q1 h1 h2=>hb'.block q1 (by omega)⟩
    refine a_val_l (u:=?_) [5] (by kernel_rfl) rfl (by kernel_rfl) trivial (fun ρ wc hbc hcn hk=>?_) ?_;rotate_left
    ·obtain⟨hcn,-⟩:=hcn
     simp at hk
     go_simp
     rfl
    refine a_end_lit 65 rfl (fun ff w7 hb7 hk=>?_)
    have hO2:Got w7 (w.heap.size+1+1+1) 5 .u8 (ff 46) (d.take j++[z]):=allN_at10d hk 46 (by decide) (by decide)
    simp [AllN] at hk
    simp only [frameL,hk,Nat.zero_add,Nat.reduceAdd]
    obtain⟨B8,c8,hv8,-⟩:=hO2.slice
    rw [show (d.take j++[z]).length=j+1 by rw [List.length_append,HLN.out];rfl] at hv8
    have HO2:=Lib.hid hO2
    have HB7:=Lib.hid hb7
    have hs7:wr.heap.size≤w7.heap.size:=hb7.size
    clear hO2 hb7 hk
    rw [hv8] at HO2
    rw [hv8]
    clear hv8
    generalize ff 45=v45
    obtain⟨x3,y3,z3⟩:=HD3.out w7 HB7.out
    go_wp2
    go_roundw
    case rel=>
     refine⟨j+1,_,by omega,by go_num,(HD1.out w7 HB7.out).other (by show w.heap.size+1+1≠w.heap.size;omega) _,(HD2.out w7 HB7.out).other (by show w.heap.size+1+1≠w.heap.size+1;omega) _,(HD3.out w7 HB7.out).set 3 (by simp) _,?_,?_,by simp;omega⟩
     ·rw [HTK.out]
      exact Got.far (p:=⟨w.heap.size+1+1,3,none⟩) HO2.out (by show w.heap.size+1+1<w.heap.size+1+1+1;omega) _
     ·refine Below.setCell ?_ (by show w.heap.size≤w.heap.size+1+1;omega) _
      exact(bel_drew HR.out).trans (HB7.out.below (B:=w.heap.size) (by show w.heap.size≤wr.heap.size;omega) (fun q hq=>by omega))
    case measure=>simp [intOf];omega
   ·obtain rfl:j=D:=by omega
    rename World=>wo
    obtain⟨A2,c3,he2,-⟩:=HG.out.slice
    rw [HDL.out] at he2
    subst he2
    go_wp2
    clear x1 y1 z1 x3 y3 z3
    go_loopw [7] (fun i wr=>∃(q:Nat) (v:Value),q≤K∧i=.int .i64 q∧Blk wr w.heap.size #[.int .i64 k,.int .i64 e,.int .i64 n,.slice A d.length c,.slice B ks.length c2]∧Blk wr (w.heap.size+1) #[.int .i64 0,.int .i64 0,.int .i64 0,.slice none 0 0,.slice none 0 0]∧Blk wr (w.heap.size+1+1) #[.int .i64 k,.int .i64 e,.int .i64 n,.slice A2 j c3,v]∧OwnN wo.heap.size wr v ((trimK ks).take q)∧(∀g,w.heap.size+1+1+1≤g→g<wo.heap.size→wr.heap[g]?=wo.heap[g]?)∧wo.heap.size≤wr.heap.size∧Below w.heap.size w wr) (fun i _=>K-(intOf i).toNat)
    case atStart=>exact⟨0,.slice none 0 0,by omega,rfl,HC1.out,HC2.out,HC3.out,OwnN.empty _ _,fun _ _ _=>rfl,Nat.le_refl _,HR.out⟩
    case round=>
     obtain⟨q,v,hq,rfl,hB1,hB2,hB3,hown,hdat,hszr5,hbr⟩:=hrel
     have HR5:=Lib.hid hbr
     have HE1:=Lib.hid hB1
     have HE2:=Lib.hid hB2
     have HE3:=Lib.hid hB3
     have HOW:=Lib.hid hown
     have HDA:=Lib.hid hdat
     clear hbr hown hdat hB2
     obtain⟨x1,y1,z1⟩:=hB1
     obtain⟨x3,y3,z3⟩:=hB3
     by_cases hlt:q<K
     ·have hltk:q<ks.length:=by omega
      obtain⟨b,off,Aa,ca,Ba,cb,rfl,k0,k1,k2,k3,k4,hsub⟩:=HX.out.kids.atIn HR5.out (Nat.le_refl _) hltk
      have hz:=sizeN_kid (List.getElem_mem hltk)
      have HC:=Lib.hid (fun w' (hb:Below wr.heap.size wr w')=>HI.out ks[q] (List.getElem_mem hltk) Aa ca Ba cb w' (hsub.on (bel_on HR5.out hb) (Nat.le_refl _)) (by omega) (HVK.out _ (List.getElem_mem hltk)))
      have hblt:b<w.heap.size:=by
       obtain⟨b',off',_,_,_,_,hBe,h0,_⟩:=HX.out.kids.at hltk
       injection hBe with hBe
       injection hBe with hBe
       subst hBe
       exact World.block_lt_of_cell? w ⟨b,off'+q*5,none⟩ h0
      have hkn:∀wc,Keeps (fun g=>wo.heap.size≤g) wr.drew wc→wc.cell? ⟨b,off+q*5,none⟩=some (.int .i64 ks[q].k)∧wc.cell? ⟨b,off+q*5+1,none⟩=some (.int .i64 ks[q].e)∧wc.cell? ⟨b,off+q*5+2,none⟩=some (.int .i64 ks[q].n)∧wc.cell? ⟨b,off+q*5+3,none⟩=some (.slice Aa ks[q].d.length ca)∧wc.cell? ⟨b,off+q*5+4,none⟩=some (.slice Ba ks[q].ks.length cb):=by
       intro wc hk
       have hb:=hk.below (B:=w.heap.size) (by show w.heap.size≤wr.heap.size;omega) (fun g hg=>by omega)
       exact⟨(hb.cell (p:=⟨b,_,none⟩) hblt).trans k0,(hb.cell (p:=⟨b,_,none⟩) hblt).trans k1,(hb.cell (p:=⟨b,_,none⟩) hblt).trans k2,(hb.cell (p:=⟨b,_,none⟩) hblt).trans k3,(hb.cell (p:=⟨b,_,none⟩) hblt).trans k4⟩
      have HKN:=Lib.hid hkn
      have hD1:∀wc,Keeps (fun g=>wo.heap.size≤g) wr.drew wc→Blk wc w.heap.size #[.int .i64 k,.int .i64 e,.int .i64 n,.slice A d.length c,.slice (some ⟨b,off,none⟩) ks.length c2]:=fun wc hk=>HE1.out.drew.keeps hk (by omega)
      have hD2:∀wc,Keeps (fun g=>wo.heap.size≤g) wr.drew wc→Blk wc (w.heap.size+1) #[.int .i64 0,.int .i64 0,.int .i64 0,.slice none 0 0,.slice none 0 0]:=fun wc hk=>HE2.out.drew.keeps hk (by omega)
      have hD3:∀wc,Keeps (fun g=>wo.heap.size≤g) wr.drew wc→Blk wc (w.heap.size+1+1) #[.int .i64 k,.int .i64 e,.int .i64 n,.slice A2 j c3,v]:=fun wc hk=>HE3.out.drew.keeps hk (by omega)
      have HD1:=Lib.hid hD1
      have HD2:=Lib.hid hD2
      have HD3:=Lib.hid hD3
      have hTK:(trimK ks).take (q+1)=(trimK ks).take q++[trimN ks[q]]:=by
       rw [List.take_succ_eq_append_getElem (by rw [trimK_length];exact hltk),trimK_get ks q hltk]
      have HTK:=Lib.hid hTK
      have hln:((trimK ks).take q).length=q:=by rw [List.length_take,trimK_length];omega
      have HLN:=Lib.hid hln
      have hltK:(q:Int)<(K:Int):=by omega
      have hltL:(q:Int)<(ks.length:Int):=by omega
      clear hkn hD1 hD2 hD3 hsub k0 k1 k2 k3 k4 hTK hln
      generalize trimN ks[q]=ky at *
      generalize ks[q]=kx at *
      go_wp2_with fail
      clear x1 y1 z1 x3 y3 z3
      refine wp_region_a11 9 (fun g=>wo.heap.size≤g) (by kernel_rfl) (by kernel_rfl) ?_
      refine a_val_l (u:=?_) [5] (by kernel_rfl) rfl (by kernel_rfl) trivial (fun ρ wc hbc hcn hk=>?_) ?_;rotate_left
      ·obtain⟨hcn,-⟩:=hcn
       simp at hk
       go_simp
       rfl
      refine a_val (u:=?_) [53] (by kernel_rfl) rfl rfl (by kernel_rfl) trivial (fun ρ wc hbc hcn hk=>?_) ?_;rotate_left
      ·obtain⟨hcn,-⟩:=hcn
       simp at hk
       obtain⟨x3,y3,z3⟩:=HD3.out wc (keeps_of hbc)
       go_simp
       rfl
      refine a_val_l (u:=?_) [1] (by kernel_rfl) rfl (by kernel_rfl) trivial (fun ρ wc hbc hcn hk=>?_) ?_;rotate_left
      ·obtain⟨hcn,-⟩:=hcn
       simp at hk
       go_simp
       rfl
      refine a_val_l (u:=?_) [55] (by kernel_rfl) rfl (by kernel_rfl) trivial (fun ρ wc hbc hcn hk=>?_) ?_;rotate_left
      ·obtain⟨hcn,-⟩:=hcn
       simp at hk
       obtain⟨x1,y1,z1⟩:=HD1.out wc hbc
       go_simp
       rfl
      refine a_val_l (u:=?_) [7] (by kernel_rfl) rfl (by kernel_rfl) trivial (fun ρ wc hbc hcn hk=>?_) ?_;rotate_left
      ·obtain⟨hcn,-⟩:=hcn
       simp at hk
       go_simp
       rfl
      refine a_val_l (u:=?_) [56,57] (by kernel_rfl) rfl (by kernel_rfl) trivial (fun ρ wc hbc hcn hk=>?_) ?_;rotate_left
      ·obtain⟨hcn,-⟩:=hcn
       simp at hk
       go_simp
       rfl
      refine a_val_l (u:=?_) [58] (by kernel_rfl) rfl (by kernel_rfl) trivial (fun ρ wc hbc hcn hk=>?_) ?_;rotate_left
      ·obtain⟨hcn,-⟩:=hcn
       simp at hk
       obtain⟨k0,k1,k2,k3,k4⟩:=HKN.out wc hbc
       go_simp
       rfl
      refine a_call (T:=NodF wr.heap.size ky) 36 [59] (by kernel_rfl) rfl rfl (by kernel_rfl) trivial (stable_nod _ _) (fun ρ wc hbc hcn hk=>?_) ?_
      ·obtain⟨hcn,hfn⟩:=hcn
       simp at hk
       refine⟨_,by go_simp;rfl,?_⟩
       refine(HC.out wc ⟨hbc.os,hbc.tape,hbc.output,hbc.size,hbc.block⟩).mono ?_
       rintro r w' ⟨v5,rfl,⟨A5,c5,B5,c6,hi5,rfl,h5,h6⟩,hb5⟩
       exact⟨_,rfl,⟨A5,c5,B5,c6,hi5,rfl,h5,h6.wide hbc.size (Nat.le_refl _)⟩,hb5⟩
      refine a_new (T:=OneF wr.heap.size ky) [60] (by kernel_rfl) rfl rfl (by kernel_rfl) trivial (stable_one _ _) (fun ρ wc hbc hcn hk=>?_) ?_
      ·obtain⟨hcn,hfn⟩:=hcn
       simp at hk
       obtain⟨A5,c5,B5,c6,hi5,h4,h5,h6⟩:=hk
       refine⟨.slice (some ⟨wc.heap.size,0,none⟩) 1 1,wc.alloc (.cells (fiveC ky A5 c5 B5 c6).toArray 53),?_,⟨wc.heap.size,A5,c5,B5,c6,hi5,rfl,fun o ho=>?_,?_,h6.below ((Below.refl _ _).alloc (Nat.le_refl _) _) h5⟩,(Below.refl _ _).alloc (Nat.le_refl _) _⟩
       ·go_simp
        rfl
       ·rw [blk_new]
        simp
       ·simp;omega
      refine a_sp (T:=OwnF wo.heap.size ((trimK ks).take q++[ky])) [54,61] rfl rfl (by kernel_rfl) trivial (stable_ownF _ _) (fun a wc hbc hcn hk=>?_) ?_
      ·obtain⟨h20,h27,-⟩:=hk
       obtain⟨qq,A5,c5,B5,c6,hi5,h4,h5,h6,h7⟩:=h27
       refine wpList_appO rfl (.tmp 54) (.tmp 61) 51 rfl Tryz.underlying51 h20 (HOW.out.below (N:=wr.heap.size) ⟨hbc.os,hbc.tape,hbc.output,hbc.size,hbc.block⟩ (Nat.le_refl _)) h4 h5 hszr5 h6 (fun g hg=>?_) h7 (by rw [HLN.out];omega) (Nat.le_trans hszr5 hbc.size) ?_
       ·obtain⟨vs,hv1,_⟩:=HOW.out
        exact(hv1.lt g hg).2
       ·intro v' w' hown' hgr
        refine⟨rfl,v',rfl,hown',?_⟩
        rw [if_pos rfl]
        refine⟨hgr.os,hgr.tape,hgr.output,hgr.size,fun q1 h1 h2=>hgr.block q1 h1 fun e=>h2 ?_⟩
        obtain⟨vs,hv1,_⟩:=HOW.out
        exact(hv1.lt q1 e.symm).1
      refine a_val_l (u:=?_) [5] (by kernel_rfl) rfl (by kernel_rfl) trivial (fun ρ wc hbc hcn hk=>?_) ?_;rotate_left
      ·obtain⟨hcn,-⟩:=hcn
       simp at hk
       go_simp
       rfl
      refine a_end_lit 65 rfl (fun ff w7 hb7 hk=>?_)
      have hO2:OwnN wo.heap.size w7 (ff 62) ((trimK ks).take q++[ky]):=allN_at10d hk 62 (by decide) (by decide)
      simp [AllN] at hk
      simp only [frameL,hk,Nat.zero_add,Nat.reduceAdd]
      obtain⟨B8,c8,hv8,-⟩:=hO2.slice
      rw [show ((trimK ks).take q++[ky]).length=q+1 by rw [List.length_append,HLN.out];rfl] at hv8
      have HO2:=Lib.hid hO2
      have HB7:=Lib.hid hb7
      have hs7:wr.heap.size≤w7.heap.size:=hb7.size
      clear hO2 hb7 hk
      rw [hv8] at HO2
      rw [hv8]
      clear hv8
      generalize ff 60=v60
      generalize ff 61=v61
      obtain⟨x3,y3,z3⟩:=HD3.out w7 HB7.out
      go_wp2
      go_roundw
      case rel=>
       refine⟨q+1,_,by omega,by go_num,(HD1.out w7 HB7.out).other (by show w.heap.size+1+1≠w.heap.size;omega) _,(HD2.out w7 HB7.out).other (by show w.heap.size+1+1≠w.heap.size+1;omega) _,(HD3.out w7 HB7.out).set 4 (by simp) _,?_,fun g h1 h2=>?_,by simp;omega,?_⟩
       ·refine OwnN.cast ?_ HTK.out.symm
        exact OwnN.far (p:=⟨w.heap.size+1+1,4,none⟩) HO2.out (by show w.heap.size+1+1<wo.heap.size;omega) _
       ·rw [Below.heap_setCell _ _ _ _ (by show g≠w.heap.size+1+1;omega),HB7.out.block g (by show g<wr.heap.size;omega) (by omega)]
        exact HDA.out g h1 h2
       ·refine Below.setCell ?_ (by show w.heap.size≤w.heap.size+1+1;omega) _
        exact(bel_drew HR5.out).trans (HB7.out.below (B:=w.heap.size) (by show w.heap.size≤wr.heap.size;omega) (fun g hg=>by omega))
      case measure=>simp [intOf];omega
     ·obtain rfl:q=K:=by omega
      obtain⟨B9,c9,he9,-⟩:=HOW.out.slice
      have hlK:((trimK ks).take q).length=q:=HKL.out
      rw [hlK] at he9
      subst he9
      have hgd:Got wr (w.heap.size+1+1+1) 5 .u8 (.slice A2 (d.take j).length c3) (d.take j):=got_agree (HG.out.cast (by rw [HDL.out]) rfl) fun g h1 h2=>HDA.out g h1 h2
      have hO:=HO.out
      have HN:=Lib.hid ((HOW.out.mono (base':=w.heap.size+1+1+1) (by omega)).node hO.1 hO.2.1 hO.2.2.1 hgd (fun z hz=>HBT.out z (List.mem_of_mem_take hz)))
      rw [←HT.out] at HN
      clear hgd hO
      obtain⟨x2,y2,z2⟩:=HE2.out
      go_wp2
      refine abs_post (F:=fun W=>Blk W (w.heap.size+1) #[.int .i64 k,.int .i64 e,.int .i64 n,.slice A2 j c3,.slice B9 q c9]∧NdO (w.heap.size+1+1+1) W.heap.size W A2 c3 B9 c9 tx∧Below w.heap.size w W) ⟨?_,?_,?_⟩ ?_
      ·exact((((HE2.out.set 0 (by simp) _).set 1 (by simp) _).set 2 (by simp) _).set 3 (by simp) _).set 4 (by simp) _
      ·have e5:∀g,g≠w.heap.size+1→(((((wr.setCell ⟨w.heap.size+1,0,none⟩ (.int .i64 k)).setCell ⟨w.heap.size+1,1,none⟩ (.int .i64 e)).setCell ⟨w.heap.size+1,2,none⟩ (.int .i64 n)).setCell ⟨w.heap.size+1,3,none⟩ (.slice A2 j c3)).setCell ⟨w.heap.size+1,4,none⟩ (.slice B9 q c9)).heap[g]?=wr.heap[g]?:=by
        intro g hg
        rw [Below.heap_setCell _ _ _ _ hg,Below.heap_setCell _ _ _ _ hg,Below.heap_setCell _ _ _ _ hg,Below.heap_setCell _ _ _ _ hg,Below.heap_setCell _ _ _ _ hg]
       simpa using HN.out.to fun g g1 _=>e5 g (by omega)
      ·refine Below.setCell (Below.setCell (Below.setCell (Below.setCell (Below.setCell HR5.out ?_ _) ?_ _) ?_ _) ?_ _) ?_ _<;>(show w.heap.size≤w.heap.size+1;omega)
      rintro W5 ⟨B6,hN,hbw⟩
      have hve:Value.agg #[.int .i64 k,.int .i64 e,.int .i64 n,.slice A2 j c3,.slice B9 q c9]=.agg #[.int .i64 tx.k,.int .i64 tx.e,.int .i64 tx.n,.slice A2 tx.d.length c3,.slice B9 tx.ks.length c9]:=by
       rw [HT.out]
       simp only [Nd.k,Nd.e,Nd.n,Nd.d,Nd.ks,HDL.out,HKL.out]
      exact bodyPost_ret (v:=.agg #[.int .i64 k,.int .i64 e,.int .i64 n,.slice A2 j c3,.slice B9 q c9]) (by simp [results,Tryz.results36,go_sem,B6.cell]) rfl ⟨_,rfl,⟨A2,c3,B9,c9,_,hve,Nat.le_refl _,hN.wide (by omega) (Nat.le_refl _)⟩,hbw⟩
end
theorem OwnK.below {W0 w w':World}{base:Nat}{v:Value}{ts:List Nd}(h:OwnK W0 w base v ts){N:Nat}(hb:Below N w w')(hN:w.heap.size≤N):OwnK W0 w' base v ts:=by
 obtain⟨vs,h1,h2⟩:=h
 exact⟨vs,ownsRow_below h1 hb hN,h2⟩
theorem OwnK.far {W0 w:World}{base:Nat}{v:Value}{ts:List Nd}(h:OwnK W0 w base v ts){p:Addr}(hp:p.block<base)(u:Value):OwnK W0 (w.setCell p u) base v ts:=by
 obtain⟨vs,h1,h2⟩:=h
 exact⟨vs,ownsRow_setCell_below h1 hp u,h2⟩
theorem uniD_covers (ks:List Nd)(h8:∀y∈ks,y.d.length % 8=0):∀i,i≤ks.length→∀j (hj:j<ks.length),j<i→(ks[j]).d.length≤8*uniD ks i
 | 0,_,j,_,h=>by omega
 | i+1,hi,j,hj,h=>by
  rw [uniD_succ (by omega)]
  have h1:=h8 ks[j] (List.getElem_mem hj)
  by_cases e:j=i
  ·subst e;omega
  ·have:=uniD_covers ks h8 i (by omega) j hj (by omega)
   omega
theorem uniP_covers (ks:List Nd):∀i,i≤ks.length→∀j (hj:j<ks.length),j<i→(ks[j]).ks.length≤uniP ks i
 | 0,_,j,_,h=>by omega
 | i+1,hi,j,hj,h=>by
  rw [uniP_succ (by omega)]
  by_cases e:j=i
  ·subst e;omega
  ·have:=uniP_covers ks i (by omega) j hj (by omega)
   omega
theorem uniD_le (ks:List Nd)(m:Nat):∀i,i≤ks.length→(∀y∈ks,y.d.length / 8≤m)→uniD ks i≤m
 | 0,_,_=>by simp [uniD]
 | i+1,hi,h=>by
  rw [uniD_succ (by omega)]
  have:=uniD_le ks m i (by omega) h
  have:=h ks[i] (List.getElem_mem (by omega))
  omega
theorem uniP_le (ks:List Nd)(m:Nat):∀i,i≤ks.length→(∀y∈ks,y.ks.length≤m)→uniP ks i≤m
 | 0,_,_=>by simp [uniP]
 | i+1,hi,h=>by
  rw [uniP_succ (by omega)]
  have:=uniP_le ks m i (by omega) h
  have:=h ks[i] (List.getElem_mem (by omega))
  omega
theorem wordsT_zeros (d:List Int)(n:Nat):wordsT (d++List.replicate n 0)=wordsT d:=by
 refine Nat.le_antisymm ?_ ?_
 ·refine(wordsT_iff _ _).2 fun t ht hz=>?_
  by_cases h:t<d.length
  ·have e:zat (d++List.replicate n 0) t=zat d t:=by simp [zat,List.getD,List.getElem?_append_left h]
   exact wordsT_at h (by rw [←e];exact hz)
  ·refine absurd ?_ hz
   rw [List.length_append,List.length_replicate] at ht
   simp [zat,List.getD,List.getElem?_append_right (Nat.le_of_not_lt h)]
   rw [List.getElem?_replicate]
   split<;>rfl
 ·refine(wordsT_iff _ _).2 fun t ht hz=>?_
  have e:zat (d++List.replicate n 0) t=zat d t:=by simp [zat,List.getD,List.getElem?_append_left ht]
  exact wordsT_at (by rw [List.length_append];omega) (by rw [e];exact hz)
theorem ptrsT_nulls (ks ms:List Nd)(hm:∀y∈ms,y.k=0):ptrsT (ks++ms)=ptrsT ks:=by
 refine Nat.le_antisymm ?_ ?_
 ·refine(ptrsT_iff _ _).2 fun t ht hz=>?_
  by_cases h:t<ks.length
  ·have e:kAt (ks++ms) t=kAt ks t:=by simp [kAt,List.getElem?_append_left h]
   exact ptrsT_at h (by rw [←e];exact hz)
  ·refine absurd ?_ hz
   rw [List.length_append] at ht
   rw [kAt_get (by rw [List.length_append];exact ht),List.getElem_append_right (Nat.le_of_not_lt h)]
   exact hm _ (List.getElem_mem _)
 ·refine(ptrsT_iff _ _).2 fun t ht hz=>?_
  have e:kAt (ks++ms) t=kAt ks t:=by simp [kAt,List.getElem?_append_left ht]
  exact ptrsT_at (by rw [List.length_append];omega) (by rw [e];exact hz)
def canOf (k e n:Int)(d:List Int)(ks:List Nd):Int:=
 if k=0 then 0
 else if k=1 then ((d.length / 8+ks.length:Nat):Int)
 else if e=7 then 1+n*((uniD ks ks.length+uniP ks ks.length:Nat):Int)
 else wordsI e n
def canO (x:Nd):Int:=canOf x.k x.e x.n x.d x.ks
mutual
def canN:Nd→Int
 | .mk k e n d ks=>canOf k e n d ks+if k=2∧e=7 then canG ks else canK ks
def canK:List Nd→Int
 | []=>0
 | x::xs=>canN x+canK xs
def canG:List Nd→Int
 | []=>0
 | .mk _ _ _ _ ks::xs=>canK ks+canG xs
end
theorem canK_append (a b:List Nd):canK (a++b)=canK a+canK b:=by
 induction a with
 | nil=>simp [canK]
 | cons x xs ih=>simp only [List.cons_append,canK,ih];omega
theorem canG_kk (l:List Nd):canG l=canK (kk l):=by
 induction l with
 | nil=>simp [canG,kk,canK]
 | cons x xs ih=>
  obtain⟨k,e,n,d,ks⟩:=x
  have h:kk (.mk k e n d ks::xs)=ks++kk xs:=by simp [kk,Nd.ks]
  rw [h,canK_append]
  simp only [canG,ih]
theorem canN_eq (x:Nd):canN x=canO x+canK (targN x):=by
 obtain⟨k,e,n,d,ks⟩:=x
 simp only [canN,targN,canO,Nd.k,Nd.e,Nd.n,Nd.d,Nd.ks]
 by_cases h:k=2∧e=7
 ·rw [if_pos h,if_pos h,canG_kk]
 ·rw [if_neg h,if_neg h]
theorem canK_take (l:List Nd)(j:Nat)(h:j<l.length):canK (l.take (j+1))=canK (l.take j)+canN l[j]:=by
 rw [List.take_succ_eq_append_getElem h,canK_append]
 simp [canK]
theorem valid_k {x:Nd}(h:validN x=true):x.k=0∨x.k=1∨x.k=2:=by
 obtain⟨k,e,n,d,ks⟩:=x
 have h2:headB k e n d ks=true:=by
  simp only [validN,Bool.and_eq_true] at h
  exact h.2
 unfold headB at h2
 show k=0∨k=1∨k=2
 split at h2
 ·exact .inl (by assumption)
 ·split at h2
  ·exact .inr (.inl (by assumption))
  ·split at h2
   ·exact .inr (.inr (by assumption))
   ·cases h2
theorem valid_head {k e n:Int}{d:List Int}{ks:List Nd}(h:validN (.mk k e n d ks)=true):
  (k=0∧d.length=0∧ks.length=0)∨(k=1∧d.length % 8=0∧d.length≤524280∧ks.length≤65535)∨(k=2∧0≤n∧n≤536870911∧0≤e∧e≤7∧(6≤e→d.length=0∧(ks.length:Int)=n)∧(e<6→ks.length=0∧(d.length:Int)=bytesI e n)):=by
 simp only [validN,Bool.and_eq_true] at h
 have h2:=h.2
 unfold headB at h2
 by_cases h0:k=0
 ·rw [if_pos h0,decide_eq_true_iff] at h2
  exact .inl ⟨h0,h2.2.2⟩
 rw [if_neg h0] at h2
 by_cases h1:k=1
 ·rw [if_pos h1,decide_eq_true_iff] at h2
  exact .inr (.inl ⟨h1,h2.2.2⟩)
 rw [if_neg h1] at h2
 by_cases h3:k=2
 ·rw [if_pos h3,decide_eq_true_iff] at h2
  exact .inr (.inr ⟨h3,h2.1,h2.2.1,h2.2.2.1,h2.2.2.2.1,h2.2.2.2.2.1,fun h=>⟨(h2.2.2.2.2.2 h).1,(h2.2.2.2.2.2 h).2.1⟩⟩)
 ·rw [if_neg h3] at h2
  cases h2
theorem valid_mem {k e n:Int}{d:List Int}{ks:List Nd}(h:validN (.mk k e n d ks)=true){y:Nd}(hy:y∈ks):validN y=true∧¬(k=2∧e=7∧y.k≠1):=by
 simp only [validN,Bool.and_eq_true] at h
 exact validK_mem h.1 hy
theorem valid_elem {n:Int}{d:List Int}{ks:List Nd}(h:validN (.mk 2 7 n d ks)=true){y:Nd}(hy:y∈ks):y.k=1∧y.d.length / 8≤65535∧y.ks.length≤65535:=by
 obtain⟨h1,h2⟩:=valid_mem h hy
 have hk:y.k=1:=Classical.byContradiction fun h3=>h2 ⟨rfl,rfl,h3⟩
 obtain⟨k,e,n',d',ks'⟩:=y
 simp only [Nd.k] at hk
 rcases valid_head h1 with h3|h3|h3
 ·omega
 ·exact⟨hk,by show d'.length / 8≤65535;omega,h3.2.2.2⟩
 ·omega
theorem uni_bd {n:Int}{d:List Int}{ks:List Nd}(h:validN (.mk 2 7 n d ks)=true):uniD ks ks.length≤65535∧uniP ks ks.length≤65535:=
 ⟨uniD_le ks 65535 ks.length (Nat.le_refl _) fun y hy=>(valid_elem h hy).2.1,uniP_le ks 65535 ks.length (Nat.le_refl _) fun y hy=>(valid_elem h hy).2.2⟩
theorem sizeK_kk2 (l:List Nd):sizeK (kk l)+l.length≤sizeK l:=by
 induction l with
 | nil=>simp [kk,sizeK]
 | cons x xs ih=>
  have h:kk (x::xs)=x.ks++kk xs:=by simp [kk]
  have h2:=sizeK_ks x
  have h3:sizeK (x.ks++kk xs)=sizeK x.ks+sizeK (kk xs):=by
   generalize x.ks=a
   induction a with
   | nil=>simp [sizeK]
   | cons y ys ih2=>simp only [List.cons_append,sizeK,ih2];omega
  rw [h,h3]
  simp only [sizeK,List.length_cons]
  omega
theorem targN_mk (k e n:Int)(d:List Int)(ks:List Nd):targN (.mk k e n d ks)=if k=2∧e=7 then kk ks else ks:=rfl
theorem canO_size {x:Nd}(h:validN x=true):0≤canO x∧canO x≤131071*((sizeN x:Int)-sizeK (targN x))-1+(targN x).length:=by
 obtain⟨k,e,n,d,ks⟩:=x
 have hs:sizeN (.mk k e n d ks)=1+d.length+sizeK ks:=by simp [sizeN]
 have ht:=sizeK_targ (.mk k e n d ks)
 have hk:=sizeK_length ks
 show 0≤canOf k e n d ks∧canOf k e n d ks≤_
 unfold canOf
 rcases valid_head h with ⟨rfl,h1,h2⟩|⟨rfl,h1,h2,h3⟩|⟨rfl,h1,h2,h3,h4,h5,h6⟩
 ·rw [if_pos rfl]
  omega
 ·rw [if_neg (by omega),if_pos rfl]
  have e1:targN (.mk 1 e n d ks)=ks:=by rw [targN_mk,if_neg (by omega)]
  rw [e1,hs]
  omega
 ·rw [if_neg (by omega),if_neg (by omega)]
  by_cases h7:e=7
  ·subst h7
   rw [if_pos rfl]
   have e1:targN (.mk 2 7 n d ks)=kk ks:=by rw [targN_mk,if_pos ⟨rfl,rfl⟩]
   have h8:=sizeK_kk2 ks
   obtain⟨u1,u2⟩:=uni_bd h
   obtain⟨-,hn⟩:=h5 (by omega)
   have m1:0≤n*((uniD ks ks.length+uniP ks ks.length:Nat):Int):=Int.mul_nonneg h1 (by omega)
   have m2:n*((uniD ks ks.length+uniP ks ks.length:Nat):Int)≤n*131070:=Int.mul_le_mul_of_nonneg_left (by omega) h1
   rw [e1,hs]
   omega
  ·rw [if_neg h7]
   have e1:targN (.mk 2 e n d ks)=ks:=by rw [targN_mk,if_neg (by omega)]
   have hb:=bitsI_mul e n h1
   rw [e1,hs]
   by_cases h8:e=6
   ·subst h8
    have e3:wordsI 6 n=n:=by unfold wordsI bitsI;simp;omega
    obtain⟨-,hn⟩:=h5 (by omega)
    rw [e3]
    omega
   ·obtain⟨hk0,hd⟩:=h6 (by omega)
    unfold wordsI
    unfold bytesI at hd
    rw [if_neg h7]
    omega
theorem valid_targ {x:Nd}(h:validN x=true):∀y∈targN x,validN y=true:=by
 intro y hy
 obtain⟨k,e,n,d,ks⟩:=x
 rw [targN_mk] at hy
 split at hy
 ·unfold kk at hy
  obtain⟨z,hz,hy⟩:=List.mem_flatMap.1 hy
  have hzv:=(valid_mem h hz).1
  obtain⟨k',e',n',d',ks'⟩:=z
  exact(valid_mem hzv hy).1
 ·exact(valid_mem h hy).1
theorem can_size:∀x:Nd,validN x=true→0≤canN x∧canN x≤131071*(sizeN x:Int)-1:=size_ind (by
 intro x ih h
 have ho:=canO_size h
 have hK:∀l:List Nd,(∀y∈l,0≤canN y∧canN y≤131071*(sizeN y:Int)-1)→0≤canK l∧canK l≤131071*(sizeK l:Int)-l.length:=by
  intro l hl
  induction l with
  | nil=>simp [canK,sizeK]
  | cons y ys ih2=>
   have h1:=hl y (List.mem_cons_self ..)
   have h2:=ih2 (fun z hz=>hl z (List.mem_cons_of_mem _ hz))
   simp only [canK,sizeK,List.length_cons]
   omega
 have hv:=valid_targ h
 have:=hK (targN x) (fun y hy=>ih y (targ_lt hy) (hv y hy))
 rw [canN_eq]
 omega)
def padW (b:List Int)(n:Nat):List Int:=wordsOf (b++List.replicate (8*n-b.length) 0)
def ptrP (x:Nd)(o:Int):Ptr:=
 if x.k=1 then ⟨0,if canO x=0 then -1 else o,((x.d.length / 8:Nat):Int),x.ks.length,0,0,false,0,0,0⟩
 else ⟨1,o,0,0,x.e,if x.e=7 then canO x-1 else x.n,false,0,0,0⟩
def ptrW (x:Nd)(o:Int):Int:=if x.k=0 then 0 else encW (ptrP x o)
def ptrsW (pos nx:Int):List Nd→List Int
 | []=>[]
 | t::ts=>ptrW t (nx-pos-1)::ptrsW (pos+1) (nx+canN t) ts
def elsW (a b:Nat)(pos nx:Int):List Nd→List Int
 | []=>[]
 | y::ys=>padW y.d a++(ptrsW (pos+a) nx (y.ks++List.replicate (b-y.ks.length) nd0)++elsW a b (pos+a+b) (nx+canK y.ks) ys)
def tagW (n:Int)(a b:Nat):Int:=encW ⟨0,n,a,b,0,0,false,0,0,0⟩
def bodyW (k e n:Int)(d:List Int)(ks:List Nd):List Int:=
 if k=0 then []
 else if k=1 then wordsOf d++ptrsW ((d.length / 8:Nat):Int) (canOf k e n d ks) ks
 else if e=7 then tagW n (uniD ks ks.length) (uniP ks ks.length)::elsW (uniD ks ks.length) (uniP ks ks.length) 1 (canOf k e n d ks) ks
 else if e=6 then ptrsW 0 (canOf k e n d ks) ks
 else padW d (wordsI e n).toNat
mutual
def objW:Nd→List Int
 | .mk k e n d ks=>bodyW k e n d ks++if k=2∧e=7 then objG ks else objK ks
def objK:List Nd→List Int
 | []=>[]
 | x::xs=>objW x++objK xs
def objG:List Nd→List Int
 | []=>[]
 | .mk _ _ _ _ ks::xs=>objK ks++objG xs
end
def writeF (x:Nd):List Int:=ptrW x 0::objW x
theorem objK_append (a b:List Nd):objK (a++b)=objK a++objK b:=by
 induction a with
 | nil=>simp [objK]
 | cons x xs ih=>simp only [List.cons_append,objK,ih,List.append_assoc]
theorem objG_kk (l:List Nd):objG l=objK (kk l):=by
 induction l with
 | nil=>simp [objG,kk,objK]
 | cons x xs ih=>
  obtain⟨k,e,n,d,ks⟩:=x
  have h:kk (.mk k e n d ks::xs)=ks++kk xs:=by simp [kk,Nd.ks]
  rw [h,objK_append]
  simp only [objG,ih]
def bodyN (x:Nd):List Int:=bodyW x.k x.e x.n x.d x.ks
theorem objW_eq (x:Nd):objW x=bodyN x++objK (targN x):=by
 obtain⟨k,e,n,d,ks⟩:=x
 simp only [objW,targN,bodyN,Nd.k,Nd.e,Nd.n,Nd.d,Nd.ks]
 by_cases h:k=2∧e=7
 ·rw [if_pos h,if_pos h,objG_kk]
 ·rw [if_neg h,if_neg h]
theorem objK_take (l:List Nd)(j:Nat)(h:j<l.length):objK (l.take (j+1))=objK (l.take j)++objW l[j]:=by
 rw [List.take_succ_eq_append_getElem h,objK_append]
 simp [objK]
theorem objK_nulls (ts:List Nd)(q:Nat):objK (ts++List.replicate q nd0)=objK ts:=by
 rw [objK_append]
 have:∀q,objK (List.replicate q nd0)=[]:=by
  intro q
  induction q with
  | zero=>rfl
  | succ q ih=>rw [List.replicate_succ];show objW nd0++objK (List.replicate q nd0)=[];rw [ih];rfl
 rw [this,List.append_nil]
theorem padW_length {b:List Int}{n:Nat}(h:b.length≤8*n):(padW b n).length=n:=by
 rw [padW,wordsOf_length,List.length_append,List.length_replicate]
 omega
theorem ptrsW_length:∀(ts:List Nd) (pos nx:Int),(ptrsW pos nx ts).length=ts.length
 | [],_,_=>rfl
 | t::ts,pos,nx=>by simp only [ptrsW,List.length_cons,ptrsW_length ts]
theorem elsW_length (a b:Nat):∀(ys:List Nd) (pos nx:Int),(∀y∈ys,y.d.length≤8*a∧y.ks.length≤b)→(elsW a b pos nx ys).length=ys.length*(a+b)
 | [],_,_,_=>by simp [elsW]
 | y::ys,pos,nx,h=>by
  have h1:=h y (List.mem_cons_self ..)
  have ih:=elsW_length a b ys (pos+a+b) (nx+canK y.ks) (fun z hz=>h z (List.mem_cons_of_mem _ hz))
  simp only [elsW,List.length_append,padW_length h1.1,ptrsW_length,List.length_replicate,ih,List.length_cons]
  rw [Nat.add_mul]
  omega
theorem comp_fit {n:Int}{d:List Int}{ks:List Nd}(h:validN (.mk 2 7 n d ks)=true):∀y∈ks,y.d.length≤8*uniD ks ks.length∧y.ks.length≤uniP ks ks.length:=by
 intro y hy
 obtain⟨j,hj,rfl⟩:=List.getElem_of_mem hy
 refine⟨uniD_covers ks (fun z hz=>?_) _ (Nat.le_refl _) j hj hj,uniP_covers ks _ (Nat.le_refl _) j hj hj⟩
 obtain⟨hv,-⟩:=valid_mem h hz
 have hk:=(valid_elem h hz).1
 obtain⟨k',e',n',d',ks'⟩:=z
 simp only [validN,Bool.and_eq_true] at hv
 have h2:=hv.2
 simp only [Nd.k] at hk
 subst hk
 unfold headB at h2
 rw [if_neg (by omega),if_pos rfl,decide_eq_true_iff] at h2
 exact h2.2.2.1
theorem head_str {e n:Int}{d:List Int}{ks:List Nd}(h:validN (.mk 1 e n d ks)=true):e=0∧n=0∧d.length % 8=0∧d.length≤524280∧ks.length≤65535:=by
 simp only [validN,Bool.and_eq_true] at h
 have h2:=h.2
 unfold headB at h2
 rw [if_neg (by omega),if_pos rfl,decide_eq_true_iff] at h2
 exact h2
theorem head_lst {e n:Int}{d:List Int}{ks:List Nd}(h:validN (.mk 2 e n d ks)=true):0≤n∧n≤536870911∧0≤e∧e≤7∧(6≤e→d.length=0∧(ks.length:Int)=n)∧(e<6→ks.length=0∧(d.length:Int)=bytesI e n∧trimL d e n=d):=by
 simp only [validN,Bool.and_eq_true] at h
 have h2:=h.2
 unfold headB at h2
 rw [if_neg (by omega),if_neg (by omega),if_pos rfl,decide_eq_true_iff] at h2
 exact h2
theorem head_nul {e n:Int}{d:List Int}{ks:List Nd}(h:validN (.mk 0 e n d ks)=true):Nd.mk 0 e n d ks=nd0:=by
 simp only [validN,Bool.and_eq_true] at h
 have h2:=h.2
 unfold headB at h2
 rw [if_pos rfl,decide_eq_true_iff] at h2
 obtain⟨rfl,rfl,h3,h4⟩:=h2
 rw [List.eq_nil_of_length_eq_zero h3,List.eq_nil_of_length_eq_zero h4]
 rfl
theorem body_length {x:Nd}(h:validN x=true):((bodyN x).length:Int)=canO x:=by
 obtain⟨k,e,n,d,ks⟩:=x
 have hk:=valid_k h
 simp only [Nd.k] at hk
 simp only [bodyN,canO,Nd.k,Nd.e,Nd.n,Nd.d,Nd.ks]
 rcases hk with rfl|rfl|rfl
 ·simp [bodyW,canOf]
 ·simp only [bodyW,if_neg (show ¬((1:Int)=0) by omega),if_pos]
  rw [List.length_append,wordsOf_length,ptrsW_length]
  simp [canOf]
 ·obtain⟨g1,g2,g3,g4,g5,g6⟩:=head_lst h
  simp only [bodyW,if_neg (show ¬((2:Int)=0) by omega),if_neg (show ¬((2:Int)=1) by omega)]
  by_cases h7:e=7
  ·subst h7
   rw [if_pos rfl,List.length_cons,elsW_length _ _ _ _ _ (comp_fit h)]
   simp only [canOf,if_neg (show ¬((2:Int)=0) by omega),if_neg (show ¬((2:Int)=1) by omega),if_pos]
   rw [←(g5 (by omega)).2]
   simp
   omega
  ·rw [if_neg h7]
   simp only [canOf,if_neg (show ¬((2:Int)=0) by omega),if_neg (show ¬((2:Int)=1) by omega),if_neg h7]
   by_cases h6:e=6
   ·subst h6
    rw [if_pos rfl,ptrsW_length,(g5 (by omega)).2]
    simp [wordsI,bitsI]
    omega
   ·rw [if_neg h6]
    obtain⟨g7,g8,-⟩:=g6 (by omega)
    have hb:=bitsI_mul e n g1
    have hw:wordsI e n=(bitsI e*n+63) / 64:=by unfold wordsI;rw [if_neg h7]
    have hB:bytesI e n=(bitsI e*n+7) / 8:=rfl
    rw [padW_length (by omega)]
    omega
theorem objK_length {l:List Nd}(h:∀y∈l,((objW y).length:Int)=canN y):((objK l).length:Int)=canK l:=by
 induction l with
 | nil=>simp [objK,canK]
 | cons y ys ih=>
  have h1:=h y (List.mem_cons_self ..)
  have h2:=ih (fun z hz=>h z (List.mem_cons_of_mem _ hz))
  simp only [objK,canK,List.length_append]
  omega
theorem objW_length:∀x:Nd,validN x=true→((objW x).length:Int)=canN x:=size_ind (by
 intro x ih h
 have h1:=body_length h
 have h2:=objK_length (l:=targN x) (fun y hy=>ih y (targ_lt hy) (valid_targ h y hy))
 rw [objW_eq,canN_eq,List.length_append]
 omega)
theorem writeF_length {x:Nd}(h:validN x=true):((writeF x).length:Int)=canN x+1:=by
 rw [writeF,List.length_cons,←objW_length x h]
 simp
theorem ptrW_wd (x:Nd)(o:Int):0≤ptrW x o∧ptrW x o<18446744073709551616:=by
 unfold ptrW
 split
 ·omega
 ·exact encW_bd _
theorem ptrsW_wds:∀(ts:List Nd) (pos nx:Int),Wds (ptrsW pos nx ts)
 | [],_,_=>fun z hz=>by cases hz
 | t::ts,pos,nx=>by
  intro z hz
  rcases List.mem_cons.1 hz with rfl|hz
  ·exact ptrW_wd _ _
  ·exact ptrsW_wds ts _ _ z hz
theorem padW_wds {b:List Int}(h:Bts b)(n:Nat):Wds (padW b n):=wordsOf_wds (by
 intro z hz
 rcases List.mem_append.1 hz with hz|hz
 ·exact h z hz
 ·rw [List.eq_of_mem_replicate hz];omega)
theorem elsW_wds (a b:Nat):∀(ys:List Nd) (pos nx:Int),(∀y∈ys,Bts y.d)→Wds (elsW a b pos nx ys)
 | [],_,_,_=>fun z hz=>by cases hz
 | y::ys,pos,nx,h=>by
  intro z hz
  simp only [elsW] at hz
  rcases List.mem_append.1 hz with hz|hz
  ·exact padW_wds (h y (List.mem_cons_self ..)) a z hz
  ·rcases List.mem_append.1 hz with hz|hz
   ·exact ptrsW_wds _ _ _ z hz
   ·exact elsW_wds a b ys _ _ (fun z hz=>h z (List.mem_cons_of_mem _ hz)) z hz
mutual
def bytN:Nd→Prop
 | .mk _ _ _ d ks=>Bts d∧bytK ks
def bytK:List Nd→Prop
 | []=>True
 | x::xs=>bytN x∧bytK xs
end
theorem bytK_mem {l:List Nd}(h:bytK l):∀y∈l,bytN y:=by
 induction l with
 | nil=>intro y hy;cases hy
 | cons x xs ih=>
  simp only [bytK] at h
  intro y hy
  rcases List.mem_cons.1 hy with rfl|hy
  ·exact h.1
  ·exact ih h.2 y hy
theorem bytK_of {l:List Nd}(h:∀y∈l,bytN y):bytK l:=by
 induction l with
 | nil=>simp [bytK]
 | cons x xs ih=>simp only [bytK];exact⟨h x (List.mem_cons_self ..),ih (fun y hy=>h y (List.mem_cons_of_mem _ hy))⟩
theorem bytN_d {x:Nd}(h:bytN x):Bts x.d:=by
 obtain⟨k,e,n,d,ks⟩:=x
 exact(by simpa only [bytN] using h:Bts d∧bytK ks).1
theorem bytN_ks {x:Nd}(h:bytN x):∀y∈x.ks,bytN y:=by
 obtain⟨k,e,n,d,ks⟩:=x
 exact bytK_mem (by simpa only [bytN] using h:Bts d∧bytK ks).2
theorem bytN_targ {x:Nd}(h:bytN x):∀y∈targN x,bytN y:=by
 intro y hy
 have hk:=bytN_ks h
 obtain⟨k,e,n,d,ks⟩:=x
 rw [targN_mk] at hy
 split at hy
 ·obtain⟨z,hz,hyz⟩:=List.mem_flatMap.1 hy
  exact bytN_ks (hk z hz) y hyz
 ·exact hk y hy
theorem body_wds {x:Nd}(h:bytN x):Wds (bodyN x):=by
 have hd:=bytN_d h
 have hk:=bytN_ks h
 obtain⟨k,e,n,d,ks⟩:=x
 simp only [bodyN,Nd.k,Nd.e,Nd.n,Nd.d,Nd.ks] at hd hk ⊢
 unfold bodyW
 split
 ·intro z hz;cases hz
 ·split
  ·intro z hz
   rcases List.mem_append.1 hz with hz|hz
   ·exact wordsOf_wds hd z hz
   ·exact ptrsW_wds _ _ _ z hz
  ·split
   ·intro z hz
    rcases List.mem_cons.1 hz with rfl|hz
    ·exact encW_bd _
    ·exact elsW_wds _ _ _ _ _ (fun y hy=>bytN_d (hk y hy)) z hz
   ·split
    ·exact ptrsW_wds _ _ _
    ·exact padW_wds hd _
theorem objW_wds:∀x:Nd,bytN x→Wds (objW x):=size_ind (by
 intro x ih h z hz
 rw [objW_eq] at hz
 rcases List.mem_append.1 hz with hz|hz
 ·exact body_wds h z hz
 ·have:∀l:List Nd,(∀y∈l,Wds (objW y))→Wds (objK l):=by
   intro l hl
   induction l with
   | nil=>intro z hz;cases hz
   | cons y ys ih2=>
    intro z hz
    simp only [objK] at hz
    rcases List.mem_append.1 hz with hz|hz
    ·exact hl y (List.mem_cons_self ..) z hz
    ·exact ih2 (fun z hz=>hl z (List.mem_cons_of_mem _ hz)) z hz
  exact this _ (fun y hy=>ih y (targ_lt hy) (bytN_targ h y hy)) z hz)
theorem writeF_wds {x:Nd}(h:bytN x):Wds (writeF x):=by
 intro z hz
 rcases List.mem_cons.1 hz with rfl|hz
 ·exact ptrW_wd _ _
 ·exact objW_wds x h z hz
theorem KsR.take {w:World}{B:Option Addr}{ts:List Nd}(h:KsR w B ts)(K:Nat):KsR w B (ts.take K):=by
 rcases h with rfl|⟨b,off,hB,h⟩
 ·exact .inl (by simp)
 ·refine .inr ⟨b,off,hB,fun j hj=>?_⟩
  rw [List.length_take] at hj
  have:=h j (by omega)
  rw [List.getElem_take]
  exact this
def Unv (w:World)(A:Option Addr):Prop:=∀b off,A=some ⟨b,off,none⟩→b<w.heap.size∧∀o,w.frozen? ⟨b,o,none⟩=false
theorem Unv.below {w w':World}{A:Option Addr}(h:Unv w A){N:Nat}(hb:Below N w w')(hN:w.heap.size≤N):Unv w' A:=by
 intro b off e
 obtain⟨h1,h2⟩:=h b off e
 exact⟨Nat.lt_of_lt_of_le h1 hb.size,fun o=>by rw [hb.frozen (p:=⟨b,o,none⟩) (by show b<N;omega)];exact h2 o⟩
theorem Unv.set {w:World}{A:Option Addr}(h:Unv w A)(p:Addr)(v:Value):Unv (w.setCell p v) A:=by
 intro b off e
 obtain⟨h1,h2⟩:=h b off e
 exact⟨by simpa using h1,fun o=>by rw [World.frozen?_setCell];exact h2 o⟩
structure RowT (q n i:Nat) (ts:List Nd) (W:World):Prop where
 cell:∀o,o<n*5→∃u,W.cell? ⟨q,o,none⟩=some u
 free:∀o,W.frozen? ⟨q,o,none⟩=false
 lt:q<W.heap.size
 done:∀j (hj:j<ts.length),j<i→∃A' c' B' c2' lo hi,q<lo∧hi≤W.heap.size∧NdO lo hi W A' c' B' c2' (ts[j])∧Unv W A'∧∀o,o<5→W.cell? ⟨q,j*5+o,none⟩=(fiveC (ts[j]) A' c' B' c2')[o]?
theorem RowT.below {q n i:Nat}{ts:List Nd}{W W':World}(h:RowT q n i ts W){N:Nat}(hb:Below N W W')(hN:W.heap.size≤N):RowT q n i ts W':=by
 have hlt:=h.lt
 have hc:∀o,W'.cell? ⟨q,o,none⟩=W.cell? ⟨q,o,none⟩:=fun o=>hb.cell (p:=⟨q,o,none⟩) (by show q<N;omega)
 refine⟨fun o ho=>?_,fun o=>?_,Nat.lt_of_lt_of_le hlt hb.size,fun j hj hi=>?_⟩
 ·obtain⟨u,hu⟩:=h.cell o ho
  exact⟨u,(hc o).trans hu⟩
 ·rw [hb.frozen (p:=⟨q,o,none⟩) (by show q<N;omega)]
  exact h.free o
 ·obtain⟨A',c',B',c2',lo,hi',h1,h2,h3,h4,h5⟩:=h.done j hj hi
  exact⟨A',c',B',c2',lo,hi',h1,Nat.le_trans h2 hb.size,h3.below hb (by omega),h4.below hb hN,fun o ho=>(hc _).trans (h5 o ho)⟩
theorem RowT.set {q n i:Nat}{ts:List Nd}{W:World}(h:RowT q n i ts W){p:Nat}(hp:i*5≤p)(v:Value):RowT q n i ts (W.setCell ⟨q,p,none⟩ v):=by
 have hd:∀o,p≠o→(W.setCell ⟨q,p,none⟩ v).cell? ⟨q,o,none⟩=W.cell? ⟨q,o,none⟩:=fun o ho=>cell_diff (fun e=>by injection e with e1 e2;exact ho e2)
 refine⟨fun o ho=>?_,fun o=>by rw [World.frozen?_setCell];exact h.free o,by simpa using h.lt,fun j hj hi=>?_⟩
 ·obtain⟨u,hu⟩:=h.cell o ho
  by_cases e:p=o
  ·subst e
   exact⟨v,cell_same hu⟩
  ·exact⟨u,(hd o e).trans hu⟩
 ·obtain⟨A',c',B',c2',lo,hi',h1,h2,h3,h4,h5⟩:=h.done j hj hi
  exact⟨A',c',B',c2',lo,hi',h1,by simpa using h2,h3.to fun k k1 _=>Below.heap_setCell _ _ _ _ (by show k≠q;omega),h4.set _ _,fun o ho=>(hd _ (by omega)).trans (h5 o ho)⟩
theorem RowT.other {q n i:Nat}{ts:List Nd}{W:World}(h:RowT q n i ts W){p:Addr}(hp:p.block<q)(v:Value):RowT q n i ts (W.setCell p v):=by
 have hd:∀o,(W.setCell p v).cell? ⟨q,o,none⟩=W.cell? ⟨q,o,none⟩:=fun o=>cell_diff (fun e=>by subst e;exact Nat.lt_irrefl _ hp)
 refine⟨fun o ho=>?_,fun o=>by rw [World.frozen?_setCell];exact h.free o,by simpa using h.lt,fun j hj hi=>?_⟩
 ·obtain⟨u,hu⟩:=h.cell o ho
  exact⟨u,(hd o).trans hu⟩
 ·obtain⟨A',c',B',c2',lo,hi',h1,h2,h3,h4,h5⟩:=h.done j hj hi
  exact⟨A',c',B',c2',lo,hi',h1,by simpa using h2,h3.to fun k k1 _=>Below.heap_setCell _ _ _ _ (by omega),h4.set _ _,fun o ho=>(hd _).trans (h5 o ho)⟩
theorem RowT.next {q n i:Nat}{ts:List Nd}{W:World}(h:RowT q n i ts W)(hn:i<n)(hl:i<ts.length){A':Option Addr}{c':Nat}{B':Option Addr}{c2' lo hi:Nat}(h1:q<lo)(h2:hi≤W.heap.size)(h3:NdO lo hi W A' c' B' c2' (ts[i]))(h4:Unv W A'):
  RowT q n (i+1) ts (((((W.setCell ⟨q,i*5,none⟩ (.int .i64 (ts[i]).k)).setCell ⟨q,i*5+1,none⟩ (.int .i64 (ts[i]).e)).setCell ⟨q,i*5+2,none⟩ (.int .i64 (ts[i]).n)).setCell ⟨q,i*5+3,none⟩ (.slice A' (ts[i]).d.length c')).setCell ⟨q,i*5+4,none⟩ (.slice B' (ts[i]).ks.length c2')):=by
 have hr:=((((h.set (p:=i*5) (by omega) (.int .i64 (ts[i]).k)).set (p:=i*5+1) (by omega) (.int .i64 (ts[i]).e)).set (p:=i*5+2) (by omega) (.int .i64 (ts[i]).n)).set (p:=i*5+3) (by omega) (.slice A' (ts[i]).d.length c')).set (p:=i*5+4) (by omega) (.slice B' (ts[i]).ks.length c2')
 refine⟨hr.cell,hr.free,hr.lt,fun j hj hi2=>?_⟩
 by_cases e:j<i
 ·exact hr.done j hj e
 obtain rfl:j=i:=by omega
 have hg:∀(w:World) k p v,lo≤k→(w.setCell ⟨q,p,none⟩ v).heap[k]?=w.heap[k]?:=fun w k p v hk=>Below.heap_setCell _ _ _ _ (by show k≠q;omega)
 refine⟨A',c',B',c2',lo,hi,h1,by simpa using h2,h3.to fun k k1 _=>by rw [hg _ _ _ _ k1,hg _ _ _ _ k1,hg _ _ _ _ k1,hg _ _ _ _ k1,hg _ _ _ _ k1],((((h4.set _ _).set _ _).set _ _).set _ _).set _ _,fun o ho=>?_⟩
 have d:∀(w:World) (p r:Nat) v,p≠r→(w.setCell ⟨q,p,none⟩ v).cell? ⟨q,r,none⟩=w.cell? ⟨q,r,none⟩:=fun w p r v hpr=>cell_diff (fun e=>by injection e with e1 e2;exact hpr e2)
 have c0:=fun o (ho:o<5)=>h.cell (j*5+o) (by omega)
 have:o=0∨o=1∨o=2∨o=3∨o=4:=by omega
 rcases this with rfl|rfl|rfl|rfl|rfl
 ·obtain⟨u,hu⟩:=c0 0 (by omega)
  rw [d _ _ _ _ (by omega),d _ _ _ _ (by omega),d _ _ _ _ (by omega),d _ _ _ _ (by omega)]
  exact cell_same hu
 ·obtain⟨u,hu⟩:=c0 1 (by omega)
  rw [d _ _ _ _ (by omega),d _ _ _ _ (by omega),d _ _ _ _ (by omega)]
  exact cell_same (u:=u) (by rw [d _ _ _ _ (by omega)];exact hu)
 ·obtain⟨u,hu⟩:=c0 2 (by omega)
  rw [d _ _ _ _ (by omega),d _ _ _ _ (by omega)]
  exact cell_same (u:=u) (by rw [d _ _ _ _ (by omega),d _ _ _ _ (by omega)];exact hu)
 ·obtain⟨u,hu⟩:=c0 3 (by omega)
  rw [d _ _ _ _ (by omega)]
  exact cell_same (u:=u) (by rw [d _ _ _ _ (by omega),d _ _ _ _ (by omega),d _ _ _ _ (by omega)];exact hu)
 ·obtain⟨u,hu⟩:=c0 4 (by omega)
  exact cell_same (u:=u) (by rw [d _ _ _ _ (by omega),d _ _ _ _ (by omega),d _ _ _ _ (by omega),d _ _ _ _ (by omega)];exact hu)
theorem RowT.made {q n base:Nat}{ts:List Nd}{W:World}{vs:List Value}(h:W.ownsRow base 53 5 (.slice (some ⟨q,0,none⟩) n n) n vs):RowT q n 0 ts W:=by
 refine⟨fun o ho=>?_,fun o=>World.ownsRow.frozenAt h o,(h.lt q rfl).2,fun j hj h0=>by omega⟩
 have hl:o<vs.length:=by rw [h.1];exact ho
 exact⟨vs[o],by rw [World.ownsRow.cellAt h o ho,List.getElem?_eq_getElem hl]⟩
def NodV (lo:Nat)(x:Nd)(v:Value)(w:World):Prop:=∃A c B c2 hi,v=.agg #[.int .i64 x.k,.int .i64 x.e,.int .i64 x.n,.slice A x.d.length c,.slice B x.ks.length c2]∧hi≤w.heap.size∧NdO lo hi w A c B c2 x∧Unv w A∧Unv w B ∧
 ∀b off j A' l' c',B=some ⟨b,off,none⟩→j<x.ks.length→w.cell? ⟨b,off+j*5+3,none⟩=some (.slice A' l' c')→Unv w A'
theorem RowT.node {q n base:Nat}{ts:List Nd}{W:World}(h:RowT q n n ts W)(hq:base≤q)(hl:ts.length=n)(hm:n≤maxLen){k e m:Int}{d:List Int}{A:Option Addr}{c:Nat}
  (hk:-9223372036854775808≤k∧k≤9223372036854775807) (he:-9223372036854775808≤e∧e≤9223372036854775807) (hn:-9223372036854775808≤m∧m≤9223372036854775807)
  (hd:Got W base 5 .u8 (.slice A d.length c) d) (hby:Bts d):NdO base W.heap.size W A c (some ⟨q,0,none⟩) n (.mk k e m d ts):=by
 intro V hV
 have hdV:Got V base 5 .u8 (.slice A d.length c) d:=got_agree hd fun g h1 h2=>hV g h1 h2
 obtain⟨A0,c0,he0,hc0,hm0,hri,hnil⟩:=hdV.full
 injection he0 with e1 e2 e3
 subst e1 e3
 have hcell:∀o,V.cell? ⟨q,o,none⟩=W.cell? ⟨q,o,none⟩:=fun o=>World.cell?_of_block (w:=W) (hV q hq h.lt)
 have hkid:∀j (hj:j<ts.length),∃A' c' B' c2',NdR V A' c' B' c2' (ts[j])∧∀o,o<5→V.cell? ⟨q,j*5+o,none⟩=(fiveC (ts[j]) A' c' B' c2')[o]?:=by
  intro j hj
  obtain⟨A',c',B',c2',lo,hi,k1,k2,k3,k4,k5⟩:=h.done j hj (by omega)
  exact⟨A',c',B',c2',k3 V fun g g1 g2=>hV g (by omega) (by omega),fun o ho=>(hcell _).trans (k5 o ho)⟩
 refine .mk k e m d ts A c _ n (fun j=>if h:j<ts.length then Classical.choose (hkid j h) else none)
  (fun j=>if h:j<ts.length then Classical.choose (Classical.choose_spec (hkid j h)) else 0)
  (fun j=>if h:j<ts.length then Classical.choose (Classical.choose_spec (Classical.choose_spec (hkid j h))) else none)
  (fun j=>if h:j<ts.length then Classical.choose (Classical.choose_spec (Classical.choose_spec (Classical.choose_spec (hkid j h)))) else 0)
  hk he hn hri hby hc0 hm0 hnil (by omega) hm (fun h=>by cases h) ?_ ?_
 ·refine .inr ⟨q,0,rfl,fun j x hj=>?_⟩
  have hjl:j<ts.length:=(List.getElem?_eq_some_iff.1 hj).1
  obtain rfl:ts[j]=x:=(List.getElem?_eq_some_iff.1 hj).2
  have hspec:=Classical.choose_spec (Classical.choose_spec (Classical.choose_spec (Classical.choose_spec (hkid j hjl))))
  simp only [dif_pos hjl,Nat.zero_add]
  exact⟨hspec.2 0 (by omega),hspec.2 1 (by omega),hspec.2 2 (by omega),hspec.2 3 (by omega),hspec.2 4 (by omega)⟩
 ·intro j x hj
  have hjl:j<ts.length:=(List.getElem?_eq_some_iff.1 hj).1
  obtain rfl:ts[j]=x:=(List.getElem?_eq_some_iff.1 hj).2
  have hspec:=Classical.choose_spec (Classical.choose_spec (Classical.choose_spec (Classical.choose_spec (hkid j hjl))))
  simp only [dif_pos hjl]
  exact hspec.1
set_option maxRecDepth 100000 in
theorem RefObject13 (x:Nd)(A:Option Addr)(c:Nat)(B:Option Addr)(c2:Nat)(w:World)(hx:NdR w A c B c2 x)(hs:sizeN x≤1099511627776)(hv:validN x=true):
  Calls Tryz.prog 94 #[.agg #[.int .i64 x.k,.int .i64 x.e,.int .i64 x.n,.slice A x.d.length c,.slice B x.ks.length c2]] w fun r w'=>r=.returned (.int .i64 (canO x))∧Below w.heap.size w w':=by
 obtain⟨k,e,n,d,ks⟩:=x
 have HR:Hid (canO (.mk k e n d ks)=canOf k e n d ks):=Lib.hid rfl
 have hsz:sizeN (.mk k e n d ks)=1+d.length+sizeK ks:=by simp [sizeN]
 have hkl:=sizeK_length ks
 have HX:=Lib.hid hx
 have HS:=Lib.hid hs
 have hh:=valid_head hv
 simp only [Nd.k,Nd.e,Nd.n,Nd.d,Nd.ks]
 by_cases h0:k=0
 ·have HC:Hid (canOf k e n d ks=0):=Lib.hid (by unfold canOf;rw [if_pos h0])
  have t0:(k==0)=true:=by simpa using h0
  clear h0 hh hx
  go_enter Tryz.func94,Tryz.ntmps94
  go_wp2
  go_ret
  exact⟨by rw [HR.out,HC.out];rfl,(Below.refl _ _).alloc (Nat.le_refl _) _⟩
 have t0:(k==0)=false:=by simpa using h0
 by_cases h1:k=1
 ·have HC:Hid (canOf k e n d ks=((d.length / 8+ks.length:Nat):Int)):=Lib.hid (by unfold canOf;rw [if_neg h0,if_pos h1])
  have t1:(k==1)=true:=by simpa using h1
  have hq:((d.length:Int)).tdiv 8=((d.length / 8:Nat):Int):=by rw [Int.tdiv_eq_ediv_of_nonneg (by omega)];omega
  clear h0 h1 hh hx
  go_enter Tryz.func94,Tryz.ntmps94
  go_wp2
  go_ret
  exact⟨by rw [HR.out,HC.out];simp;try omega,(Below.refl _ _).alloc (Nat.le_refl _) _⟩
 have t1:(k==1)=false:=by simpa using h1
 have hk2:k=2:=by rcases hh with h|h|h<;>omega
 obtain⟨-,hn0,hn1,he0,he7,-,-⟩:k=2∧0≤n∧n≤536870911∧0≤e∧e≤7∧True∧True:=by
  rcases hh with h|h|h
  ·omega
  ·omega
  ·exact⟨h.1,h.2.1,h.2.2.1,h.2.2.2.1,h.2.2.2.2.1,trivial,trivial⟩
 by_cases h7:e=7
 ·obtain⟨u,hu⟩:∃u,uniD ks ks.length=u:=⟨_,rfl⟩
  obtain⟨v,hv2⟩:∃v,uniP ks ks.length=v:=⟨_,rfl⟩
  have HC:Hid (canOf k e n d ks=1+n*((u:Int)+v)):=Lib.hid (by unfold canOf;rw [if_neg h0,if_neg h1,if_pos h7,hu,hv2];simp)
  have hub:=(by subst hk2 h7;exact uni_bd hv:uniD ks ks.length≤65535∧uniP ks ks.length≤65535)
  rw [hu,hv2] at hub
  have m0:0≤n*((u:Int)+v):=Int.mul_nonneg hn0 (by omega)
  have m1:n*((u:Int)+v)≤536870911*131070:=Int.mul_le_mul (by omega) (by omega) (by omega) (by omega)
  have HU:=Lib.hid (fun w2 (h2:NdR w2 A c B c2 (.mk k e n d ks))=>RefUniform11_any (.mk k e n d ks) A c B c2 w2 h2 HS.out)
  simp only [Nd.k,Nd.e,Nd.n,Nd.d,Nd.ks] at HU
  rw [hu,hv2] at HU
  have t7:(e==7)=true:=by simpa using h7
  clear h0 h1 h7 hk2 hh hx hu hv2 hv hs
  go_enter Tryz.func94,Tryz.ntmps94
  go_wp2_with fail
  refine(HU.out _ (HX.out.on ((Below.refl _ _).alloc (Nat.le_refl _) _) (Nat.le_refl _))).mono ?_
  rintro r w1 ⟨rfl,hb1⟩
  have B1:=(Blk.fresh w #[.int .i64 k,.int .i64 e,.int .i64 n,.slice A d.length c,.slice B ks.length c2] 53).below hb1
  have HB:Hid (Below w.heap.size w w1):=Lib.hid (((Below.refl _ _).alloc (Nat.le_refl _) _).trans (hb1.mono (by simp)))
  clear hb1 HU
  obtain⟨x1,y1,z1⟩:=B1
  go_wp2
  go_ret
  exact⟨by rw [HR.out,HC.out];rfl,HB.out⟩
 ·have t7:(e==7)=false:=by simpa using h7
  have HC:Hid (canOf k e n d ks=wordsI e n):=Lib.hid (by unfold canOf;rw [if_neg h0,if_neg h1,if_neg h7])
  clear h0 h1 h7 hk2 hh hx hv
  go_enter Tryz.func94,Tryz.ntmps94
  go_wp2_with fail
  refine(RefWords6_any e n _ hn0 hn1).mono ?_
  rintro r w1 ⟨rfl,rfl⟩
  go_wp2
  go_ret
  exact⟨by rw [HR.out,HC.out];rfl,(Below.refl _ _).alloc (Nat.le_refl _) _⟩
end Go.Proofs.YtfaflahfjgnphaaGreatDoor
