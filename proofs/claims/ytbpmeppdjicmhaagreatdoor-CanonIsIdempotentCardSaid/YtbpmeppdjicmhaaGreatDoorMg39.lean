/- The texts CanB, CanC, CanP (what is wanted of them), one after the other. -/
import Derived.Test.YtbpmeppdjicmhaaGreatDoorMg38
import Derived.Laws.EntriesVeiled
namespace Go.Proofs.YtbpmeppdjicmhaaGreatDoor
open Go.ChangeShapes Go.WideShapes Go.ChangeAt Go.RowKit
set_option linter.unusedVariables false
set_option linter.unusedSimpArgs false
set_option maxRecDepth 100000
section
attribute [local simp] AllK KnowsV look Is
theorem bel_undrew13 {w wc:World}(h:Below w.drew.heap.size w.drew wc):Below w.heap.size w wc:=⟨h.os,h.tape,h.output,h.size,h.block⟩
theorem wp_region_n4 {P:Program}{id:Nat}{o0 o1 o2 o3 t:Oper}{Q:Exit→Act→World→Prop}{a:Act}{w:World}(hm:P.follows .mixedOrders=true)(hB:chainAB a.tmps.size [o0,o1,o2,o3] t=true)
  (h:ChainA P #[o0,o1,o2,o3,t] [o0,o1,o2,o3] t 999 NoBlk a w.drew Q [o0,o1,o2,o3] 0 [] []):(Code.region id #[o0,o1,o2,o3,t] true).wp P Q a w:=
 wp_region_a [o0,o1,o2,o3] t 999 NoBlk rfl hm hB h
def ReadK (w0 w:World)(S:Nat)(B:Option Addr)(ks:List Nd):Prop:=
 ∀j (hj:j<ks.length),∃b off A' c' B' c2',B=some ⟨b,off,none⟩∧b≠S∧b<w.heap.size∧w.cell? ⟨b,off+j*5,none⟩=some (.int .i64 (ks[j]).k)∧w.cell? ⟨b,off+j*5+1,none⟩=some (.int .i64 (ks[j]).e)∧w.cell? ⟨b,off+j*5+2,none⟩=some (.int .i64 (ks[j]).n) ∧
  w.cell? ⟨b,off+j*5+3,none⟩=some (.slice A' (ks[j]).d.length c')∧w.cell? ⟨b,off+j*5+4,none⟩=some (.slice B' (ks[j]).ks.length c2')∧NdR w0 A' c' B' c2' ks[j]
theorem ReadK.keeps {w0 w w':World}{S:Nat}{B:Option Addr}{ks:List Nd}(h:ReadK w0 w S B ks)(hk:Keeps (KB S) w w'):ReadK w0 w' S B ks:=by
 intro j hj
 obtain⟨b,off,A',c',B',c2',hB,hne,hb,h0,h1,h2,h3,h4,h5⟩:=h j hj
 have hc:∀o,w'.cell? ⟨b,o,none⟩=w.cell? ⟨b,o,none⟩:=fun o=>World.cell?_of_block (hk.block b hb (fun e=>hne e))
 exact⟨b,off,A',c',B',c2',hB,hne,Nat.lt_of_lt_of_le hb hk.size,(hc _).trans h0,(hc _).trans h1,(hc _).trans h2,(hc _).trans h3,(hc _).trans h4,h5⟩
theorem ReadK.of_ks {w0 w:World}{S:Nat}{B:Option Addr}{ks:List Nd}(h:KsR w0 B ks)(hb:Below w0.heap.size w0 w)(hS:w0.heap.size≤S):ReadK w0 w S B ks:=by
 intro j hj
 obtain⟨b,off,A',c',B',c2',hB,h0,h1,h2,h3,h4,h5⟩:=h.at hj
 have hlt:b<w0.heap.size:=World.block_lt_of_cell? w0 ⟨b,off+j*5,none⟩ h0
 have hc:=fun o=>hb.cell (p:=⟨b,o,none⟩) (by show b<w0.heap.size;omega)
 exact⟨b,off,A',c',B',c2',hB,by omega,by have:=hb.size;omega,(hc _).trans h0,(hc _).trans h1,(hc _).trans h2,(hc _).trans h3,(hc _).trans h4,h5⟩
theorem canK_nn {l:List Nd}(h:∀y∈l,validN y=true):0≤canK l:=by
 induction l with
 | nil=>simp [canK]
 | cons y ys ih2=>
  have h3:=(can_size y (h y (List.mem_cons_self ..))).1
  have h4:=ih2 (fun z hz=>h z (List.mem_cons_of_mem _ hz))
  simp only [canK]
  omega
theorem canK_tk {l:List Nd}(h:∀y∈l,validN y=true)(j:Nat):0≤canK (l.take j)∧canK (l.take j)≤canK l:=by
 have h1:canK l=canK (l.take j)+canK (l.drop j):=by rw [←canK_append,List.take_append_drop]
 have h5:=canK_nn (fun y hy=>h y (List.mem_of_mem_take hy):∀y∈l.take j,validN y=true)
 have h6:=canK_nn (fun y hy=>h y (List.mem_of_mem_drop hy):∀y∈l.drop j,validN y=true)
 omega
theorem canKK_tk {l:List Nd}(h:∀y∈kk l,validN y=true)(j:Nat):0≤canK (kk (l.take j))∧canK (kk (l.take j))≤canK (kk l):=by
 have h0:kk l=kk (l.take j)++kk (l.drop j):=by rw [←kk_append,List.take_append_drop]
 have h1:canK (kk l)=canK (kk (l.take j))+canK (kk (l.drop j)):=by rw [h0,canK_append]
 have h5:=canK_nn (fun y hy=>h y (by rw [h0];exact List.mem_append_left _ hy):∀y∈kk (l.take j),validN y=true)
 have h6:=canK_nn (fun y hy=>h y (by rw [h0];exact List.mem_append_right _ hy):∀y∈kk (l.drop j),validN y=true)
 omega
def funK (S V:Nat):Value:=.func (.func 78) #[] #[.pointer (some ⟨S,0,none⟩),.pointer (some ⟨V,0,none⟩)]
set_option maxHeartbeats 4000000 in
theorem Visit_any (S V:Nat)(w0:World)(hT:TabOK w0)(hSV:S≠V)(hS:w0.heap.size≤S):∀(N:Nat) (ks:List Nd) (B:Option Addr) (c:Nat) (z:Int) (w:World),sizeK ks<N→sizeK ks≤1099511627776→(∀y∈ks,validN y=true)→ks.length≤c →
  Below w0.heap.size w0 w→ReadK w0 w S B ks→0≤z→z+canK ks≤4611686018427387904→Blk w S #[.int .i64 z]→Blk w V #[funK S V] →
  Calls Tryz.prog 78 #[.slice B ks.length c,.pointer (some ⟨S,0,none⟩),.pointer (some ⟨V,0,none⟩)] w fun r w'=>r=.returned (.tuple #[])∧Keeps (KB S) w w'∧Blk w' S #[.int .i64 (z+canK ks)]:=by
 intro N
 induction N with
 | zero=>intro ks B c z w h;omega
 | succ N ih=>
 intro ks B c z w hN hs hv hc hb hr hz0 hz1 hbs hbv
 have HI:=Lib.hid ih
 have HT:=Lib.hid hT
 have HV:=Lib.hid hv
 have HBW:=Lib.hid hb
 have HRD:=Lib.hid hr
 have HBV:=Lib.hid hbv
 have HNV:Hid (¬KB S V):=Lib.hid (fun e=>hSV e.symm)
 have HTK:=Lib.hid (canK_tk hv)
 have HW:=Lib.hid (fun (W:World) (h:Keeps (KB S) w W)=>hb.trans ((bel_keeps h (Nat.le_of_lt hbs.lt)).mono hS))
 have HSZ:Hid (∀y∈ks,sizeN y≤sizeK ks):=Lib.hid (fun y hy=>sizeN_kid hy)
 have hkl:=sizeK_length ks
 have HSS:Hid (w0.heap.size≤S):=Lib.hid hS
 have hSlt:=hbs.lt
 have HBS:Hid (Blk w S #[.int .i64 (z+canK (ks.take 0))]):=Lib.hid (by simpa [canK] using hbs)
 have HEND:Hid (canK (ks.take ks.length)=canK ks):=Lib.hid (by rw [List.take_length])
 clear ih hT hv hb hr hbs hbv hS
 go_enter Tryz.func78,Tryz.ntmps78
 go_wp2
 go_loopw [10] (fun i wr=>∃j:Nat,j≤ks.length∧i=.int .i64 j∧Blk wr S #[.int .i64 (z+canK (ks.take j))]∧Keeps (KB S) w wr) (fun i _=>ks.length-(intOf i).toNat)
 case atStart=>exact⟨0,by omega,rfl,HBS.out,Keeps.refl _ _⟩
 case round=>
  clear HBS
  obtain⟨j,hj,rfl,hbs,hk⟩:=hrel
  by_cases hlt:j<ks.length
  ·have hle:=HTK.out j
   have hle2:=HTK.out (j+1)
   have hst:=canK_take ks j hlt
   obtain⟨b,off,A',c',B',c2',rfl,hne,hbl,k0,k1,k2,k3,k4,hnd⟩:=(HRD.out.keeps hk) j hlt
   have hvy:=HV.out ks[j] (List.getElem_mem hlt)
   have hsy:=HSZ.out ks[j] (List.getElem_mem hlt)
   have hlt':(j:Int)<(ks.length:Int):=by omega
   have HST:Hid (z+canK (ks.take (j+1))=z+canK (ks.take j)+canN ks[j]):=Lib.hid (by rw [hst];omega)
   generalize hs1:z+canK (ks.take (j+1))=s1 at *
   have HS1E:=Lib.hid hs1
   clear hs1
   generalize hs0:z+canK (ks.take j)=s0 at *
   generalize ks[j]=y at *
   have HE:=Lib.hid (canN_eq y)
   have HVT:=Lib.hid (valid_targ hvy)
   have HTZ:=Lib.hid (sizeK_targ y)
   have hcy:=can_size y hvy
   have hoy:=(canO_size hvy).1
   have hcty:=canK_nn HVT.out
   have hey:=HE.out
   have HOB:=Lib.hid (fun w2 (h2:Below w0.heap.size w0 w2)=>CObject_c y A' c' B' c2' w2 (HT.out.on h2) (hnd.on h2 (Nat.le_refl _)) (by omega) hvy)
   have HND:=Lib.hid hnd
   have HK1:=Lib.hid (keeps_alloc hk (.cells #[.int .i64 y.k,.int .i64 y.e,.int .i64 y.n,.slice A' y.d.length c',.slice B' y.ks.length c2'] 39))
   have HO1:=Lib.hid (Blk.fresh wr #[.int .i64 y.k,.int .i64 y.e,.int .i64 y.n,.slice A' y.d.length c',.slice B' y.ks.length c2'] 39)
   have HS1:=Lib.hid (hbs.alloc (.cells #[.int .i64 y.k,.int .i64 y.e,.int .i64 y.n,.slice A' y.d.length c',.slice B' y.ks.length c2'] 39))
   have hSr:=hbs.lt
   have HR0:Hid (0≤s0∧s0+canO y+canK (targN y)=s1∧s1≤4611686018427387904):=Lib.hid (by have:=HST.out;omega)
   have HOY:Hid (0≤canO y∧0≤canK (targN y)):=Lib.hid ⟨hoy,hcty⟩
   clear hle hle2 hst hnd hbs hk hvy hcy hoy hcty hey hs0 HST
   go_wp2_with fail
   refine abs_code10 (F:=fun W=>W=wr.alloc (.cells #[.int .i64 y.k,.int .i64 y.e,.int .i64 y.n,.slice A' y.d.length c',.slice B' y.ks.length c2'] 39)) rfl ?_
   rintro W1 hW1
   rw [←hW1] at HK1 HO1 HS1
   clear hW1
   have hdr:Below W1.heap.size W1 W1.drew:=⟨rfl,rfl,rfl,Nat.le_refl _,fun _ _=>rfl⟩
   have HK1d:Hid (∀wc,Below W1.drew.heap.size W1.drew wc→Keeps (KB S) w wc):=Lib.hid (fun wc h=>keeps_on HK1.out (bel_undrew13 h))
   have HO1d:Hid (∀wc,Below W1.drew.heap.size W1.drew wc→Blk wc wr.heap.size #[.int .i64 y.k,.int .i64 y.e,.int .i64 y.n,.slice A' y.d.length c',.slice B' y.ks.length c2']):=Lib.hid (fun wc h=>HO1.out.below (bel_undrew13 h))
   have HS1d:Hid (∀wc,Below W1.drew.heap.size W1.drew wc→Blk wc S #[.int .i64 s0]):=Lib.hid (fun wc h=>HS1.out.below (bel_undrew13 h))
   have HY0:Hid (wr.heap.size≠S):=Lib.hid (by omega)
   clear HO1 HS1 hdr k0 k1 k2 k3 k4
   generalize canO y=o at *
   refine wp_region_n4 (by kernel_rfl) (by kernel_rfl) ?_
   refine n_val (u:=?_) [1] (by kernel_rfl) rfl (by kernel_rfl) trivial (fun ρ wc hbc hcn hk=>?_) ?_;rotate_left
   ·obtain⟨hcn,-⟩:=hcn
    simp at hk
    have x1:=(HS1d.out wc hbc).cell
    go_simp
    rfl
   refine n_val (u:=?_) [5] (by kernel_rfl) rfl (by kernel_rfl) trivial (fun ρ wc hbc hcn hk=>?_) ?_;rotate_left
   ·obtain⟨hcn,-⟩:=hcn
    simp at hk
    have x1:=(HO1d.out wc hbc).cell
    go_simp
    rfl
   refine n_call (T:=Is (.int .i64 o)) 79 [15] (by kernel_rfl) rfl (by kernel_rfl) trivial (stable_is _) (fun ρ wc hbc hcn hk=>?_) ?_
   ·obtain⟨hcn,hfn⟩:=hcn
    simp at hk
    refine⟨_,by go_simp;rfl,?_⟩
    refine(HOB.out wc (HW.out wc (HK1d.out wc hbc))).mono ?_
    rintro e w' ⟨rfl,hbq⟩
    exact⟨_,rfl,rfl,hbq⟩
   refine n_val (u:=.int .i64 (s0+o)) [14,16] (by kernel_rfl) rfl (by kernel_rfl) trivial (fun ρ wc hbc hcn hk=>?_) ?_
   ·obtain⟨hcn,-⟩:=hcn
    simp at hk
    have hr0:=HR0.out
    have hoy:=HOY.out
    go_simp
    try rw [IntKind.wrap_i64]
    try omega
   refine a_end_lit 38 (by kernel_rfl) (fun ff w9 hb9 hk=>?_)
   simp [AllN] at hk
   simp only [frameL,hk,Nat.zero_add,Nat.reduceAdd]
   have hb9:=keeps_none hb9
   have HK9:=Lib.hid (HK1d.out w9 hb9)
   have HO9:=Lib.hid (HO1d.out w9 hb9)
   have HS9:=Lib.hid (HS1d.out w9 hb9)
   clear hb9 hk HK1d HO1d HS1d HOB HK1
   refine split_store (fun W=>Keeps (KB S) w W∧Blk W S #[.int .i64 (s0+o)]∧Blk W wr.heap.size #[.int .i64 y.k,.int .i64 y.e,.int .i64 y.n,.slice A' y.d.length c',.slice B' y.ks.length c2']) rfl ?_ ?_
   ·obtain⟨x9,y9,z9⟩:=HS9.out
    go_wp2
    refine⟨rfl,rfl,keeps_set HK9.out (.inl rfl) _,HS9.out.set 0 (by simp) _,HO9.out.other (fun e=>HY0.out e.symm) _⟩
   rename_i K1 hK1 K2 hK2
   rintro W2 ⟨hk2,hs2,ho2⟩
   refine hK2 _ _ ?_
   clear hK2
   have HK2:=Lib.hid hk2
   have HS2:=Lib.hid hs2
   have HO2:=Lib.hid ho2
   clear hk2 HK9 HO9 HS9
   have HBW2:Hid (Below w0.heap.size w0 W2):=Lib.hid (HW.out _ HK2.out)
   have HV2:=Lib.hid (HBV.out.keeps HK2.out HNV.out)
   by_cases hc7:y.k=2∧y.e=7
   ·have HTE:Hid (targN y=kk y.ks):=Lib.hid (by obtain⟨k,e,n,d,l⟩:=y;rw [targN_mk,if_pos (show k=2∧e=7 from hc7)];rfl)
    have HIC:=Lib.hid (fun w2=>isComp_yes y.k y.e y.n A' y.d.length c' B' y.ks.length c2' w2 hc7)
    have HKT:Hid (∀i,0≤canK (kk (y.ks.take i))∧canK (kk (y.ks.take i))≤canK (targN y)):=Lib.hid (by rw [HTE.out];exact canKK_tk (by rw [←HTE.out];exact HVT.out))
    have HYK:=Lib.hid HND.out.kidsX.1
    have HYS:=Lib.hid (sizeK_ks y)
    have HEL:Hid (∀x∈y.ks,sizeK x.ks<sizeK ks∧∀t∈x.ks,validN t=true):=Lib.hid (fun x hx=>⟨by have h1:=sizeN_kid hx;have h2:=sizeK_ks x;have h3:=HYS.out;omega,fun t ht=>HVT.out t (by rw [HTE.out];exact List.mem_flatMap.2 ⟨x,hx,ht⟩)⟩)
    have HYL:Hid (y.ks.length≤1099511627776):=Lib.hid (by have h1:=sizeK_length y.ks;have h3:=HYS.out;omega)
    obtain⟨x2,y2,z2⟩:=HO2.out
    clear hc7
    go_wp2_with fail
    refine(HIC.out _).mono ?_
    rintro r w3 ⟨rfl,hb3⟩
    have HK3:=Lib.hid (keeps_on HK2.out hb3)
    have HS3:=Lib.hid (HS2.out.below hb3)
    have HO3:=Lib.hid (HO2.out.below hb3)
    clear hb3 x2 y2 z2 HK2 HS2 HO2 HV2 HBW2 HIC
    obtain⟨x3,y3,z3⟩:=HO3.out
    have hyl:=HYL.out
    go_wp2
    go_loopw [28] (fun i w5=>∃q:Nat,q≤y.ks.length∧i=.int .i64 q∧Blk w5 S #[.int .i64 (s0+o+canK (kk (y.ks.take q)))]∧Keeps (KB S) w w5) (fun i _=>y.ks.length-(intOf i).toNat)
    case atStart=>exact⟨0,by omega,rfl,by simpa [kk,canK] using HS3.out,HK3.out⟩
    case round=>
     obtain⟨q,hq,rfl,hbs5,hk5⟩:=hrel
     by_cases hlq:q<y.ks.length
     ·have hlq':(q:Int)<(y.ks.length:Int):=by omega
      have HKA:=Lib.hid (kk_take y.ks q hlq)
      have HLE:=Lib.hid (HKT.out q)
      have HLE2:=Lib.hid (HKT.out (q+1))
      have HEQ:=Lib.hid (HEL.out y.ks[q] (List.getElem_mem hlq))
      have hbw5:=HW.out _ hk5
      obtain⟨bq,offq,Aq,cq,Bq,eq,hBq,q0,q1,q2,q3,q4,hndq⟩:=HYK.out.atIn hbw5 (Nat.le_refl _) hlq
      subst hBq
      have HNQ:=Lib.hid hndq.kidsX
      generalize hxq:y.ks[q]=xq at *
      have HS5:=Lib.hid (hbs5.alloc (.cells #[.int .i64 xq.k,.int .i64 xq.e,.int .i64 xq.n,.slice Aq xq.d.length cq,.slice Bq xq.ks.length eq] 39))
      have HK5:=Lib.hid (keeps_alloc hk5 (.cells #[.int .i64 xq.k,.int .i64 xq.e,.int .i64 xq.n,.slice Aq xq.d.length cq,.slice Bq xq.ks.length eq] 39))
      have HV5:=Lib.hid (HBV.out.keeps HK5.out HNV.out)
      clear hbs5 hk5 hbw5 hndq hxq
      have xv:=HV5.out.cell
      unfold funK at xv
      have hsum:canK (kk (y.ks.take (q+1)))=canK (kk (y.ks.take q))+canK xq.ks:=by rw [HKA.out,canK_append]
      have HSUM:=Lib.hid hsum
      clear hsum x3 y3 z3
      go_wp2_with fail
      refine(HI.out xq.ks Bq eq (s0+o+canK (kk (y.ks.take q))) _ (by have:=HEQ.out.1;omega) (by have:=HEQ.out.1;omega) HEQ.out.2 HNQ.out.2.2 (HW.out _ HK5.out) (ReadK.of_ks HNQ.out.1 (HW.out _ HK5.out) HSS.out) (by have:=HR0.out;have:=HOY.out;have:=HLE.out;omega) (by have:=HR0.out;have:=HLE2.out;have:=HSUM.out;omega) HS5.out HV5.out).mono ?_
      rintro r w6 ⟨rfl,hk6,hs6⟩
      have HK6:=Lib.hid (HK5.out.trans hk6)
      have HS6:Hid (Blk w6 S #[.int .i64 (s0+o+canK (kk (y.ks.take (q+1))))]):=Lib.hid (by rw [HSUM.out,←Int.add_assoc];exact hs6)
      clear hk6 hs6 xv q0 q1 q2 q3 q4
      go_wp2
      go_roundw
      case rel=>exact⟨q+1,by omega,by go_num,HS6.out,HK6.out⟩
      case measure=>simp [intOf];omega
     ·obtain rfl:q=y.ks.length:=by omega
      have HK6:=Lib.hid hk5
      have HS6:Hid (Blk wr S #[.int .i64 s1]):=Lib.hid (by
       have h0:=HR0.out
       rw [HTE.out] at h0
       rw [List.take_length,h0.2.1] at hbs5
       exact hbs5)
      clear hbs5 hk5 x3 y3 z3
      go_wp2
      go_roundw
      case rel=>exact⟨j+1,by omega,by go_num,by rw [HS1E.out];exact HS6.out,HK6.out⟩
      case measure=>simp [intOf];omega
   ·have HTE:Hid (targN y=y.ks):=Lib.hid (by obtain⟨k,e,n,d,l⟩:=y;rw [targN_mk,if_neg (show ¬(k=2∧e=7) from hc7)];rfl)
    have HIC:=Lib.hid (fun w2=>isComp_no y.k y.e y.n A' y.d.length c' B' y.ks.length c2' w2 hc7)
    have HYS:=Lib.hid (sizeK_ks y)
    obtain⟨x2,y2,z2⟩:=HO2.out
    clear hc7
    go_wp2_with fail
    refine(HIC.out _).mono ?_
    rintro r w3 ⟨rfl,hb3⟩
    have HK3:=Lib.hid (keeps_on HK2.out hb3)
    have HS3:=Lib.hid (HS2.out.below hb3)
    have HV3:=Lib.hid (HV2.out.below hb3)
    have HO3:=Lib.hid (HO2.out.below hb3)
    clear hb3 x2 y2 z2 HK2 HS2 HO2 HV2 HBW2 HIC
    obtain⟨x3,y3,z3⟩:=HO3.out
    have xv:=HV3.out.cell
    unfold funK at xv
    go_wp2_with fail
    have hyk:=HND.out.kidsX
    refine(HI.out y.ks B' c2' (s0+o) w3 (by have:=HYS.out;omega) (by have:=HYS.out;omega) (by rw [←HTE.out];exact HVT.out) hyk.2.2 (HW.out _ HK3.out) (ReadK.of_ks hyk.1 (HW.out _ HK3.out) HSS.out) (by have:=HR0.out;have:=HOY.out;omega) (by rw [←HTE.out];have:=HR0.out;omega) HS3.out HV3.out).mono ?_
    rintro r w4 ⟨rfl,hk4,hs4⟩
    have HK4:=Lib.hid (HK3.out.trans hk4)
    have HS4:Hid (Blk w4 S #[.int .i64 s1]):=Lib.hid (by have h0:=HR0.out;rw [HTE.out] at h0;rw [h0.2.1] at hs4;exact hs4)
    clear hk4 hs4 xv x3 y3 z3 hyk
    go_wp2
    go_roundw
    case rel=>exact⟨j+1,by omega,by go_num,by rw [HS1E.out];exact HS4.out,HK4.out⟩
    case measure=>simp [intOf];omega
  ·obtain rfl:j=ks.length:=by omega
   have HB2:=Lib.hid hbs
   have HK2:=Lib.hid hk
   clear hbs hk
   go_wp2
   go_end0
   exact⟨rfl,HK2.out,by rw [←HEND.out];exact HB2.out⟩
end
theorem CNode_c (x:Nd)(A:Option Addr)(c:Nat)(B:Option Addr)(c2:Nat)(w:World)(hT:TabOK w)(hx:NdR w A c B c2 x)(hs:sizeN x≤1099511627776)(hv:validN x=true):
  Calls Tryz.prog 56 #[.agg #[.int .i64 x.k,.int .i64 x.e,.int .i64 x.n,.slice A x.d.length c,.slice B x.ks.length c2]] w fun r w'=>r=.returned (.int .i64 (canN x))∧Below w.heap.size w w':=by
 have hcs:=can_size x hv
 have HX:=Lib.hid hx
 have HT:=Lib.hid hT
 have HV:=Lib.hid hv
 clear hx hT hv
 go_enter Tryz.func56,Tryz.ntmps56
 go_wp2_with fail
 refine abs_world (F:=fun W=>Blk W (w.heap.size+1) #[.int .i64 0]∧Blk W (w.heap.size+1+1) #[funK (w.heap.size+1) (w.heap.size+1+1)]∧Blk W (w.heap.size+1+1+1) #[.int .i64 x.k,.int .i64 x.e,.int .i64 x.n,.slice A x.d.length c,.slice B x.ks.length c2]∧Below w.heap.size w W) ⟨?_,?_,?_,?_⟩ ?_
 ·exact((Blk.new (by simp)).alloc _).alloc _
 ·exact(Blk.new (by simp)).alloc _
 ·exact Blk.new (by simp)
 ·exact((((Below.refl _ _).alloc (Nat.le_refl _) _).alloc (by simp) _).alloc (by simp;omega) _).alloc (by simp;omega) _
 rintro W ⟨b1,b2,b3,hb⟩
 have HB1:=Lib.hid b1
 have HB:=Lib.hid hb
 have hx:=HX.out
 have hread:ReadK w W (w.heap.size+1) (some ⟨w.heap.size+1+1+1,0,none⟩) [x]:=by
  intro j hj
  have hj0:j=0:=by simpa using hj
  subst hj0
  have hc:=b3.cell
  exact⟨w.heap.size+1+1+1,0,A,c,B,c2,rfl,by omega,b3.lt,hc 0,hc 1,hc 2,hc 3,hc 4,hx⟩
 have hz:sizeK [x]=sizeN x:=by simp [sizeK]
 have hcz:canK [x]=canN x:=by simp [canK]
 refine(Visit_any (w.heap.size+1) (w.heap.size+1+1) w HT.out (by omega) (by omega) (sizeN x+1) [x] (some ⟨w.heap.size+1+1+1,0,none⟩) 1 0 W (by omega) (by omega) (by intro y hy;rw [List.mem_singleton.1 hy];exact HV.out) (Nat.le_refl _) hb hread (Int.le_refl _) (by omega) b1 b2).mono ?_
 rintro r w4 ⟨rfl,hk4,hs4⟩
 have HW4:Hid (Below w.heap.size w w4):=Lib.hid (hb.trans ((bel_keeps hk4 (Nat.le_of_lt b1.lt)).mono (by omega)))
 rw [hcz,Int.zero_add] at hs4
 clear b1 b2 b3 hb hread hx hk4 hz hcz
 obtain⟨x4,y4,z4⟩:=hs4
 go_wp2
 go_ret
 exact⟨rfl,HW4.out⟩
theorem CTotal_c (x:Nd)(A:Option Addr)(c:Nat)(B:Option Addr)(c2:Nat)(w:World)(hT:TabOK w)(hx:NdR w A c B c2 x)(hs:sizeN x≤1099511627776)(hv:validN x=true):
  Calls Tryz.prog 35 #[.agg #[.int .i64 x.k,.int .i64 x.e,.int .i64 x.n,.slice A x.d.length c,.slice B x.ks.length c2]] w fun r w'=>r=.returned (.int .i64 (canN x+1))∧Below w.heap.size w w':=by
 have hcs:=can_size x hv
 have HB0:Hid (∀o,Below w.heap.size w (w.alloc o)):=Lib.hid (fun o=>(Below.refl _ _).alloc (Nat.le_refl _) o)
 have HC:=Lib.hid (fun w2 (h2:Below w.heap.size w w2)=>CNode_c x A c B c2 w2 (hT.on h2) (hx.on h2 (Nat.le_refl _)) hs hv)
 clear hx hT hv
 go_enter Tryz.func35,Tryz.ntmps35
 go_wp2_with fail
 refine(HC.out _ (HB0.out _)).mono ?_
 rintro r w1 ⟨rfl,hb1⟩
 have HB1:=Lib.hid (bel_on (HB0.out _) hb1)
 clear hb1
 go_wp2
 go_ret
 exact⟨rfl,HB1.out⟩
theorem CTotal_any (x:Nd)(A:Option Addr)(c:Nat)(B:Option Addr)(c2:Nat)(w:World)(hT:TabOK w)(hx:NdR w A c B c2 x)(hs:sizeN x≤1099511627776)(hv:validN x=true)(ht:trimmedN x=true):
  Calls Tryz.prog 35 #[.agg #[.int .i64 x.k,.int .i64 x.e,.int .i64 x.n,.slice A x.d.length c,.slice B x.ks.length c2]] w fun r w'=>r=.returned (.int .i64 (canN x+1))∧Below w.heap.size w w':=
 CTotal_c x A c B c2 w hT hx hs hv
end Go.Proofs.YtbpmeppdjicmhaaGreatDoor
