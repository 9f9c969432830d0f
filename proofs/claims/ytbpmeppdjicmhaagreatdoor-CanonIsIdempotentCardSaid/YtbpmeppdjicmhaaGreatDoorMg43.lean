/- The texts WriH, WriP (what is wanted of them), one after the other. -/
import Derived.Test.YtbpmeppdjicmhaaGreatDoorMg42
namespace Go.Proofs.YtbpmeppdjicmhaaGreatDoor
open Go.ChangeShapes Go.WideShapes Go.ChangeAt Go.RowKit
set_option linter.unusedVariables false
set_option linter.unusedSimpArgs false
set_option maxRecDepth 100000
theorem place_nd0 (cur:List Int)(a:Nat):placeF cur a (.mk 0 0 0 [] [])=cur.set a 0:=by
 have h1:ptrW (.mk 0 0 0 [] []) ((cur.length:Int)-a-1)=0:=rfl
 have h2:objW (.mk 0 0 0 [] [])=[]:=rfl
 rw [placeF,h1,h2,List.append_nil]
set_option maxHeartbeats 4000000 in
theorem Disp_any (w0:World)(wb q cap:Nat)(hwb:w0.heap.size≤wb)(hne:wb≠q)(hcap:cap≤268435456):∀x:Nd,validN x=true→sizeN x≤1099511627776→DispC w0 wb q cap x:=by
 have hmf:∀(fn:Fn) (first cap:Array Value) (w:World),(Instr.makeFunc fn first cap).run Tryz.prog w=.ok (.func fn first cap) w:=fun _ _ _ _=>rfl
 refine size_ind ?_
 intro x ih hv hs cur a A c B c2 w hx ha hroom h hb
 have hD:∀y∈targN x,DispC w0 wb q cap y:=fun y hy=>ih y (targ_lt hy) (valid_targ hv y hy) (by have:=targ_lt hy;omega)
 have HK:Hid (∀o,Keeps (KS wb q) w (w.alloc o)):=Lib.hid (fun o=>ks_alloc (Keeps.refl _ _) o)
 have HW:=Lib.hid (fun o=>h.alloc o)
 have HB:=Lib.hid (fun o=>hb.alloc hb.size o)
 clear ih h hb
 obtain⟨k,e,n,d,ks⟩:=x
 have hkk:=valid_k hv
 simp only [Nd.k,Nd.e,Nd.n,Nd.d,Nd.ks] at hkk ⊢
 rcases hkk with rfl|rfl|rfl
 ·have h0:=head_nul hv
  unfold nd0 at h0
  injection h0 with _ h1 h2 h3 h4
  subst h1 h2 h3 h4
  have HC:=Lib.hid (fun o=>Wnull_any wb q cap w0.heap.size a 0 0 0 0 c 0 c2 A B cur (w.alloc o) (HW.out o) hne ha)
  have HP:=Lib.hid (place_nd0 cur a)
  clear hx hv hD hroom
  go_enter Tryz.func57,Tryz.ntmps57
  go_wp2_with fail
  refine(HC.out _).mono ?_
  rintro r w5 ⟨rfl,hk5,hw5⟩
  have HK5:=Lib.hid ((HK.out _).trans hk5)
  have HW5:=Lib.hid hw5
  clear hk5 hw5
  go_wp2
  go_end0
  exact⟨rfl,HK5.out,by rw [HP.out];exact HW5.out⟩
 ·obtain⟨rfl,rfl,-,-,-⟩:=head_str hv
  have hT:targN (.mk 1 0 0 d ks)=ks:=by rw [targN_mk,if_neg (by decide)]
  rw [hT] at hD
  have HC:=Lib.hid (fun o=>Wstr_any w0 wb q cap hwb hne hcap d ks hv hD cur a A c B c2 (w.alloc o) hx ha hroom (HW.out o) (HB.out o))
  clear hx hv hD hroom hT
  generalize placeF cur a (.mk 1 0 0 d ks)=res at *
  go_enter Tryz.func57,Tryz.ntmps57
  go_wp2_with fail
  refine(HC.out _).mono ?_
  rintro r w5 ⟨rfl,hk5,hw5⟩
  have HK5:=Lib.hid ((HK.out _).trans hk5)
  have HW5:=Lib.hid hw5
  clear hk5 hw5
  go_wp2
  go_end0
  exact⟨rfl,HK5.out,HW5.out⟩
 ·by_cases h7:e=7
  ·subst h7
   have hT:targN (.mk 2 7 n d ks)=kk ks:=by rw [targN_mk,if_pos ⟨rfl,rfl⟩]
   rw [hT] at hD
   have HC:=Lib.hid (fun o=>Wcomp_any w0 wb q cap hwb hne hcap n d ks hs hv hD cur a A c B c2 (w.alloc o) hx ha hroom (HW.out o) (HB.out o))
   clear hx hv hD hroom hT hs
   generalize placeF cur a (.mk 2 7 n d ks)=res at *
   go_enter Tryz.func57,Tryz.ntmps57
   go_wp2_with fail
   refine(HC.out _).mono ?_
   rintro r w5 ⟨rfl,hk5,hw5⟩
   have HK5:=Lib.hid ((HK.out _).trans hk5)
   have HW5:=Lib.hid hw5
   clear hk5 hw5
   go_wp2
   go_end0
   exact⟨rfl,HK5.out,HW5.out⟩
  ·have hT:targN (.mk 2 e n d ks)=ks:=by rw [targN_mk,if_neg (fun hh=>h7 hh.2)]
   rw [hT] at hD
   have HC:=Lib.hid (fun o=>Wlist_any w0 wb q cap hwb hne hcap e n d ks h7 hv hD cur a A c B c2 (w.alloc o) hx ha hroom (HW.out o) (HB.out o))
   have t1:(e==7)=false:=by simpa using h7
   clear hx hv hD hroom hT h7 hs
   generalize placeF cur a (.mk 2 e n d ks)=res at *
   go_enter Tryz.func57,Tryz.ntmps57
   go_wp2_with fail
   refine(HC.out _).mono ?_
   rintro r w5 ⟨rfl,hk5,hw5⟩
   have HK5:=Lib.hid ((HK.out _).trans hk5)
   have HW5:=Lib.hid hw5
   clear hk5 hw5
   go_wp2
   go_end0
   exact⟨rfl,HK5.out,HW5.out⟩
section
attribute [local simp] AllK KnowsV look Is
theorem wp_region_a5k {P:Program}{id:Nat}{o0 o1 o2 o3 o4 t:Oper}(m:Nat)(S:Nat→Prop){Q:Exit→Act→World→Prop}{a:Act}{w:World}(hm:P.follows .mixedOrders=true)(hB:chainAB a.tmps.size [o0,o1,o2,o3,o4] t=true)
  (h:ChainA P #[o0,o1,o2,o3,o4,t] [o0,o1,o2,o3,o4] t m S a w.drew Q [o0,o1,o2,o3,o4] 0 [] []):(Code.region id #[o0,o1,o2,o3,o4,t] true).wp P Q a w:=
 wp_region_a [o0,o1,o2,o3,o4] t m S rfl hm hB h
def OneR (S:Nat→Prop)(cs:Array Value):Fact:=fun v w=>∃b,v=.slice (some ⟨b,0,none⟩) 1 1∧Blk w b cs∧¬S b
theorem stable_oner (S:Nat→Prop)(cs:Array Value):stable (OneR S cs):=fun v w w' ⟨b,h1,h2,h3⟩ hb=>⟨b,h1,h2.below hb,h3⟩
theorem stableK_oner (S:Nat→Prop)(cs:Array Value):stableK S (OneR S cs):=fun v w w' ⟨b,h1,h2,h3⟩ hk=>⟨b,h1,h2.keepsS hk h3,h3⟩
theorem a_new_k {P:Program}{ops:Array Oper}{l:List Oper}{t:Oper}{m:Nat}{S:Nat→Prop}{a0:Act}{w0:World}{Q:Exit→Act→World→Prop}{o:Oper}{r:List Oper}{i:Nat}{F G:List (Tmp×Fact)}{d:Tmp}{T:Fact}(L:List Tmp)(hE:before l i m=false)(hd:o.dst=some d)(hL:(L.all fun s=>(o.looksAt ops).contains s)=true)(hg:GuardOK ops G a0 o)(hs:stable T)(hsK:stableK S T)
  (h:∀ρ w,Keeps S w0 w→Plain ρ→AllK G a0 w ρ L→∃v w',(execOp ρ o).run P w=.ok (.value v) w'∧T v w'∧Below w.heap.size w w') (hr:ChainA P ops l t m S a0 w0 Q r (i+1) ((d,T)::F) ((d,T)::G)):ChainA P ops l t m S a0 w0 Q (o::r) i F G:=by
 have hm:(i==m)=false:=by
  unfold before at hE
  rw [Bool.or_eq_false_iff] at hE
  exact hE.1
 refine⟨d,T,T,hd,hs,hs,fun _=>hsK,fun _ _ h=>h,fun a w hK hb hk=>?_,hr⟩
 rw [if_neg (by rw [hE];simp)] at hk
 rw [if_pos (wanted_of hg hk)]
 obtain⟨v,w',h1,h2,h3⟩:=h a.eval w hK (plain_eval a) (allK_of hk hL)
 unfold Oper.wp
 rw [h1]
 exact⟨v,rfl,h2,by rw [hm,if_neg (by simp)];exact h3⟩
theorem write_place (x:Nd):placeK [0] 0 [x]=writeF x:=by
 have h:placeK [0] 0 [x]=ptrW x (((1:Nat):Int)-((0:Nat):Int)-1)::objW x:=rfl
 rw [h]
 rfl
set_option maxHeartbeats 4000000 in
theorem CWrite_any (x:Nd)(A:Option Addr)(c:Nat)(B:Option Addr)(c2:Nat)(w:World)(hT:TabOK w)(hx:NdR w A c B c2 x)(hs:sizeN x≤1048576)(hv:validN x=true)(ht:trimmedN x=true)(hc:canN x≤268435455):
  Calls Tryz.prog 22 #[.agg #[.int .i64 x.k,.int .i64 x.e,.int .i64 x.n,.slice A x.d.length c,.slice B x.ks.length c2]] w fun r w'=>∃v,r=.returned v∧Got w' w.heap.size 48 .u64 v (writeF x)∧Below w.heap.size w w':=by
 obtain⟨i0,hi,hz0,hz1,hz2⟩:=info_parts int64_info
 have hcs:=(can_size x hv).1
 obtain⟨M,hM⟩:∃M:Nat,canN x+1=(M:Int):=⟨(canN x+1).toNat,by omega⟩
 have hM1:¬((M:Int)<1):=by omega
 have hM2:¬(268435456<(M:Int)):=by omega
 have hM3:M≤268435456:=by omega
 have HTO:=Lib.hid (fun o=>CTotal_any x A c B c2 (w.alloc o) (hT.alloc o) (hx.on ((Below.refl _ _).alloc (Nat.le_refl _) o) (Nat.le_refl _)) (by omega) hv ht)
 rw [hM] at HTO
 have HB0:Hid (∀o,Below w.heap.size w (w.alloc o)):=Lib.hid (fun o=>(Below.refl _ _).alloc (Nat.le_refl _) o)
 have HBX:=Lib.hid (Blk.fresh w #[.int .i64 x.k,.int .i64 x.e,.int .i64 x.n,.slice A x.d.length c,.slice B x.ks.length c2] 39)
 have HRF:Hid (∀(wb q:Nat) (W:World) (b:Nat),w.heap.size≤wb→wb≠q→¬KS wb q b→Blk W b #[.int .i64 x.k,.int .i64 x.e,.int .i64 x.n,.slice A x.d.length c,.slice B x.ks.length c2]→Wr W wb q M w.heap.size [0]→Below w.heap.size w W →
   Calls Tryz.prog 36 #[.pointer (some ⟨wb,0,none⟩),.int .i64 0,.slice (some ⟨b,0,none⟩) 1 1] W fun r w'=>r=.returned (.tuple #[])∧Keeps (KS wb q) W w'∧Wr w' wb q M w.heap.size (writeF x)):=Lib.hid (fun wb q W b h1 h2 h3 h4 h5 h6=>by
  have hr:ReadS w W wb q (some ⟨b,0,none⟩) [x]:=by
   intro j hj
   obtain rfl:j=0:=by simpa using hj
   have x4:=h4.cell
   exact⟨b,0,A,c,B,c2,rfl,h3,h4.lt,by rw [x4];rfl,by rw [x4];rfl,by rw [x4];rfl,by rw [x4];rfl,by rw [x4];rfl,hx⟩
  have hcall:=Wrefer_any w wb q M h1 h5.q.1 hM3 [x] (fun y hy=>by
   obtain rfl:y=x:=by simpa using hy
   exact Disp_any w wb q M h1 h2 hM3 y hv (by omega)) (fun y hy=>by
   obtain rfl:y=x:=by simpa using hy
   exact hv) [0] 0 (some ⟨b,0,none⟩) 1 W (Nat.le_refl _) hr (Nat.le_refl _) (by simp [canK];omega) h5 h6
  rw [write_place] at hcall
  exact hcall)
 clear hT hx hs hv ht hc hcs hM
 go_enter Tryz.func22,Tryz.ntmps22
 go_wp2_with fail
 refine(HTO.out _).mono ?_
 rintro r w2 ⟨rfl,hb2⟩
 have HB2:=Lib.hid (bel_on (HB0.out _) hb2)
 have HX2:=Lib.hid (HBX.out.below hb2)
 have hz2':w.heap.size<w2.heap.size:=HX2.out.lt
 clear hb2 HTO HBX HB0
 go_wp2_with (at_make;refine wpList_make_own _ rfl _ _ 27 rfl w.heap.size 48 i0 (.int .u64 0) 1 Tryz.underlying27 hi hz0 hz1 .i64 .i64 _ M rfl rfl rfl (by rw [hz2];omega) (by unfold maxLen;omega) (by omega) ?_;intro w3 hown3 hgrow3;have HO3:=Lib.hid hown3;have HG3:=Lib.hid hgrow3;clear hown3 hgrow3)
 have hB3:Below w.heap.size w2 w3:=(Below.refl _ _).grown HG3.out (by omega) (fun g hg=>by cases hg)
 have hz3:w2.heap.size<w3.heap.size:=(World.ownsRow.lt HO3.out _ rfl).2
 have hb23:Below w2.heap.size w2 w3:=⟨HG3.out.os,HG3.out.tape,HG3.out.output,HG3.out.size,fun k hk=>HG3.out.block k hk (fun e=>by cases e)⟩
 have HW4:Hid (Wr (w3.alloc (.cells #[.slice (some ⟨w2.heap.size,0,none⟩) 0 M] 67)) w3.heap.size w2.heap.size M w.heap.size []):=Lib.hid ⟨Blk.fresh _ _ _,Got.below (w:=w3) HO3.out ((Below.refl _ _).alloc (Nat.le_refl _) _) (Nat.le_refl _)⟩
 have HX4:Hid (Blk (w3.alloc (.cells #[.slice (some ⟨w2.heap.size,0,none⟩) 0 M] 67)) w.heap.size #[.int .i64 x.k,.int .i64 x.e,.int .i64 x.n,.slice A x.d.length c,.slice B x.ks.length c2]):=Lib.hid ((HX2.out.below hb23).alloc _)
 have HB4:Hid (Below w.heap.size w (w3.alloc (.cells #[.slice (some ⟨w2.heap.size,0,none⟩) 0 M] 67))):=Lib.hid ((HB2.out.trans hB3).alloc (by omega) _)
 have HRG:=Lib.hid (HRF.out w3.heap.size w2.heap.size)
 have HNX:Hid (¬KS w3.heap.size w2.heap.size w.heap.size):=Lib.hid (by unfold KS;omega)
 have HWB:Hid (w.heap.size≤w3.heap.size∧w3.heap.size≠w2.heap.size∧w.heap.size≤w2.heap.size):=Lib.hid ⟨by omega,by omega,by omega⟩
 refine abs_code10 (F:=fun W=>Wr W w3.heap.size w2.heap.size M w.heap.size []∧Blk W w.heap.size #[.int .i64 x.k,.int .i64 x.e,.int .i64 x.n,.slice A x.d.length c,.slice B x.ks.length c2]∧Below w.heap.size w W) ⟨HW4.out,HX4.out,HB4.out⟩ ?_
 rintro W ⟨hw,hbx,hbw⟩
 clear HW4 HX4 HB4 HRF HO3 HG3 hB3 hb23 HX2 HB2 hz2' hz3
 generalize w3.heap.size=wb at *
 generalize w2.heap.size=q at *
 have HBW:=Lib.hid hbw
 have HWd:Hid (∀wc,Below W.drew.heap.size W.drew wc→Wr wc wb q M w.heap.size []):=Lib.hid (fun wc h=>hw.below (bel_undrew13 h))
 have HBd:Hid (∀wc,Keeps (KS wb q) W.drew wc→Blk wc w.heap.size #[.int .i64 x.k,.int .i64 x.e,.int .i64 x.n,.slice A x.d.length c,.slice B x.ks.length c2]):=Lib.hid (fun wc h=>hbx.keepsS (undrewS h) HNX.out)
 have HKd:Hid (∀wc,Keeps (KS wb q) W.drew wc→Below w.heap.size w wc∧wb<wc.heap.size∧q<wc.heap.size):=Lib.hid (fun wc h=>⟨hbw.trans (ks_below (undrewS h) hbw.size HWB.out.1 HWB.out.2.2),Nat.lt_of_lt_of_le hw.blk.lt h.size,Nat.lt_of_lt_of_le hw.q.2.1 h.size⟩)
 clear hw hbx hbw
 refine wp_region_a5k 2 (KS wb q) (by kernel_rfl) (by kernel_rfl) ?_
 refine a_val_l (u:=?_) [4] (by kernel_rfl) rfl (by kernel_rfl) trivial (fun ρ wc hbc hcn hk=>?_) ?_;rotate_left
 ·obtain⟨hcn,-⟩:=hcn
  simp at hk
  go_simp
  rfl
 refine a_val (u:=?_) [4] (by kernel_rfl) rfl rfl (by kernel_rfl) trivial (fun ρ wc hbc hcn hk=>?_) ?_;rotate_left
 ·obtain⟨hcn,-⟩:=hcn
  simp at hk
  go_simp
  rfl
 refine a_spc (T:=WrF wb q M w.heap.size [0] (.int .i64 0)) 37 [18] rfl rfl (by kernel_rfl) trivial (stable_wrf _ _ _ _ _ _) (fun ρ wc hbc hcn hk=>?_) ?_
 ·obtain⟨hcn,hfn⟩:=hcn
  simp at hk
  refine⟨_,by go_simp;rfl,?_⟩
  refine(Wzeros_any wb q M w.heap.size 1 [] wc (HWd.out wc hbc) HWB.out.2.1 (by simp;omega) (by omega)).mono ?_
  rintro e w' ⟨rfl,hk',hw'⟩
  exact⟨_,rfl,⟨rfl,hw'⟩,hk'⟩
 refine a_val_l (u:=?_) [1] (by kernel_rfl) rfl (by kernel_rfl) trivial (fun ρ wc hbc hcn hk=>?_) ?_;rotate_left
 ·obtain⟨hcn,-⟩:=hcn
  simp at hk
  have x1:=(HBd.out wc hbc).cell
  go_simp
  rfl
 refine a_new_k (T:=OneR (KS wb q) #[.int .i64 x.k,.int .i64 x.e,.int .i64 x.n,.slice A x.d.length c,.slice B x.ks.length c2]) [20] (by kernel_rfl) rfl (by kernel_rfl) trivial (stable_oner _ _) (stableK_oner _ _) (fun ρ wc hbc hcn hk=>?_) ?_
 ·obtain⟨hcn,hfn⟩:=hcn
  simp at hk
  have hz:=(HKd.out wc hbc).2
  refine⟨_,_,by go_simp;rfl,⟨wc.heap.size,rfl,Blk.fresh _ _ _,by unfold KS;omega⟩,?_⟩
  exact(Below.refl _ _).alloc (Nat.le_refl _) _
 refine a_end_lit 27 (by kernel_rfl) (fun ff w9 hb9 hk=>?_)
 have h19:WrF wb q M w.heap.size [0] (.int .i64 0) (ff 19) w9:=allN_atF hk 19 (by decide) (by decide)
 have h21:OneR (KS wb q) #[.int .i64 x.k,.int .i64 x.e,.int .i64 x.n,.slice A x.d.length c,.slice B x.ks.length c2] (ff 21) w9:=allN_atF hk 21 (by decide) (by decide)
 simp [AllN] at hk
 simp only [frameL,hk,Nat.zero_add,Nat.reduceAdd]
 clear hk
 obtain⟨e19,hw9⟩:=h19
 obtain⟨b,e21,hb21,hn21⟩:=h21
 rw [e19,e21]
 have HB9:=Lib.hid (HKd.out w9 hb9).1
 have HC9:=Lib.hid (HRG.out w9 b HWB.out.1 HWB.out.2.1 hn21 hb21 hw9 HB9.out)
 have HZ9:=Lib.hid (HKd.out w9 hb9).1.size
 clear hw9 hb21 hn21 e19 e21 hb9 HRG HWd HBd HKd
 go_wp2_with fail
 refine HC9.out.mono ?_
 rintro r w5 ⟨rfl,hk5,hw5⟩
 have HW5:=Lib.hid hw5
 have HB5:Hid (Below w.heap.size w w5):=Lib.hid (HB9.out.trans (ks_below hk5 HZ9.out HWB.out.1 HWB.out.2.2))
 obtain⟨x5,y5,z5⟩:=hw5.blk
 clear hk5 hw5
 go_wp2
 go_ret
 exact⟨_,rfl,HW5.out.got,HB5.out⟩
end
end Go.Proofs.YtbpmeppdjicmhaaGreatDoor
