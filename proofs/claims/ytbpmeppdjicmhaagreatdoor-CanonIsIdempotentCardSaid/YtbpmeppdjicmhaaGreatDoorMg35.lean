/- The texts DenD (what is wanted of them), one after the other. -/
import Derived.Test.YtbpmeppdjicmhaaGreatDoorMg33
import Derived.Test.YtbpmeppdjicmhaaGreatDoorMg34
namespace Go.Proofs.YtbpmeppdjicmhaaGreatDoor
open Go.ChangeShapes Go.WideShapes Go.ChangeAt Go.RowKit
set_option linter.unusedVariables false
set_option linter.unusedSimpArgs false
set_option maxRecDepth 100000
section
attribute [local simp] AllK KnowsV look Is
def ValL (b:Nat)(A:Option Addr)(c:Nat)(ls:List (List Int))(D X O:Int)(w0:World)(r:Nat):Prop:=∀(m s a dep:Int) (w:World),Below b w0 w→Blk w b #[.slice A ls.length c,.int .i64 D,.int .i64 X,.int .i64 O,.int .i64 m] →
 0≤m→m≤4611686018427387904→0≤s→s≤1000→0≤a→a≤200000000000→0≤dep→dep≤901→(D-dep+1).toNat=r →
 Calls Tryz.prog 55 #[.pointer (some ⟨b,0,none⟩),.int .i64 s,.int .i64 a,.int .i64 dep] w fun e w'=>Keeps (KB b) w w'∧Blk w' b #[.slice A ls.length c,.int .i64 D,.int .i64 X,.int .i64 O,.int .i64 (valV ls r m s a).m] ∧
  (((valV ls r m s a).e=0∧∃v,e=.returned v∧NodF w.heap.size (valV ls r m s a).n v w')∨((valV ls r m s a).e≠0∧e=failE (valV ls r m s a).e))
theorem ptrO_bd {ls:List (List Int)}{o:Ob}{x y:Int}(ho:ObOK ls o)(h:ptrO o=(x,y)):0≤x∧x≤150000000000∧0≤y∧y≤536870911:=by
 obtain⟨hk0,hsg,hat,hd,hp,hel,hn,hby⟩:=ho
 unfold ptrO at h
 split at h
 ·simp only [Prod.mk.injEq] at h;omega
 ·split at h
  ·simp only [Prod.mk.injEq] at h;omega
  ·simp only [Prod.mk.injEq] at h;omega
set_option maxHeartbeats 4000000 in
theorem kids_any (b:Nat)(A:Option Addr)(c:Nat)(ls:List (List Int))(D X O:Int)(w0:World)(r:Nat)(E:EnvD b A ls w0)(m:Int)(o:Ob)(dep:Int)(hV:0<(ptrO o).2→dep≤900∧ValL b A c ls D X O w0 r)(w:World)(hb:Below b w0 w)(hk:Blk w b #[.slice A ls.length c,.int .i64 D,.int .i64 X,.int .i64 O,.int .i64 m])
  (hm0:0≤m) (hm1:m≤4611686018427387904) (ho:ObOK ls o) (hd0:0≤dep) (hd1:dep≤901) (hr:(D-dep).toNat=r) :
  Calls Tryz.prog 99 #[.pointer (some ⟨b,0,none⟩),.agg #[.int .i64 o.k,.int .i64 o.sg,.int .i64 o.at',.int .i64 o.d,.int .i64 o.p,.int .i64 o.el,.int .i64 o.n,.int .i64 o.cost],.int .i64 dep] w fun e w'=>Keeps (KB b) w w'∧Blk w' b #[.slice A ls.length c,.int .i64 D,.int .i64 X,.int .i64 O,.int .i64 (kidR (valV ls r) o m).m] ∧
   (((kidR (valV ls r) o m).e=0∧∃q N,e=.returned (.slice (some ⟨q,0,none⟩) N N)∧w.heap.size≤q∧RowG q N (kidR (valV ls r) o m).ks w'∧(kidR (valV ls r) o m).ks.length=N∧N≤536870911)∨((kidR (valV ls r) o m).e≠0∧e=failE (kidR (valV ls r) o m).e)):=by
 obtain⟨i0,hi,hz0,hz1,hz2⟩:=info_parts node_info
 have hlt:=hk.lt
 obtain⟨x,y,hxy⟩:∃x y,ptrO o=(x,y):=⟨_,_,rfl⟩
 obtain⟨hx0,hx1,hy0,hy1⟩:=ptrO_bd ho hxy
 obtain⟨n,rfl⟩:=Int.eq_ofNat_of_zero_le hy0
 have hn1:n≤536870911:=by omega
 have hkR:kidR (valV ls r) o m=runK (fun (m:Int) (i:Nat)=>valV ls r m o.sg (x+(i:Int))) m n:=by unfold kidR;rw [hxy];simp
 rw [hkR]
 have hval:=valV_m E.wd E.m E.f r
 obtain⟨f,hf⟩:∃f:Int→Nat→Val,f=fun (m:Int) (i:Nat)=>valV ls r m o.sg (x+(i:Int)):=⟨_,rfl⟩
 have HMR:Hid (∀j,0≤(runK f m j).m∧(runK f m j).m≤m):=Lib.hid (fun j=>runK_ind (fun z=>0≤z∧z≤m) ⟨hm0,Int.le_refl _⟩ j (fun m' i _ hm=>by
  subst hf
  have:=hval m' o.sg (x+i) hm.1
  exact⟨this.1,Int.le_trans this.2 hm.2⟩))
 have HV:Hid (∀(R:Int) (j:Nat) (wr:World),Below b w0 wr→Blk wr b #[.slice A ls.length c,.int .i64 D,.int .i64 X,.int .i64 O,.int .i64 R]→0≤R→R≤m→j<n →
   Calls Tryz.prog 55 #[.pointer (some ⟨b,0,none⟩),.int .i64 o.sg,.int .i64 (x+j),.int .i64 (dep+1)] wr fun e w'=>Keeps (KB b) wr w'∧Blk w' b #[.slice A ls.length c,.int .i64 D,.int .i64 X,.int .i64 O,.int .i64 (f R j).m] ∧
    (((f R j).e=0∧∃v,e=.returned v∧NodF wr.heap.size (f R j).n v w')∨((f R j).e≠0∧e=failE (f R j).e))):=Lib.hid (fun R j wr h1 h2 h3 h4 h5=>by
  subst hf
  obtain⟨hdd,hVV⟩:=hV (by rw [hxy];show (0:Int)<n;omega)
  exact hVV R o.sg (x+j) (dep+1) wr h1 h2 h3 (by omega) (by have:=ho.sg;omega) (by have:=ho.sg;omega) (by omega) (by omega) (by omega) (by omega) (by rw [←hr];congr 1;omega))
 rw [←hf]
 have HPT:=Lib.hid (fun w2=>RPointers_is o.k o.sg o.at' o.d o.p o.el o.n o.cost x n w2 ho.at'.1 (by have:=ho.at';omega) ho.d.1 ho.d.2 hxy)
 have HB1:=Lib.hid ((Below.refl w.heap.size w).alloc (Nat.le_refl _) (.cells (obA o) 74))
 have HT1:=Lib.hid (hk.alloc (.cells (obA o) 74))
 have HO1:Hid (Blk (w.alloc (.cells (obA o) 74)) w.heap.size (obA o)):=Lib.hid (Blk.fresh _ _ _)
 have HB0:=Lib.hid (fun (wr:World) (h:Keeps (KB b) w wr)=>hb.trans (bel_keeps h (Nat.le_of_lt hlt)))
 have HL:Hid (b<w.heap.size):=Lib.hid hlt
 unfold obA at HB1 HT1 HO1
 clear hb hk hlt hkR hval hV hr ho hxy hy0 hy1 hf E
 obtain⟨x2,y2,z2⟩:=HO1.out
 go_enter Tryz.func99,Tryz.ntmps99
 go_wp2_with fail
 refine(HPT.out _).mono ?_
 rintro e w1 ⟨rfl,hb1⟩
 have HT2:=Lib.hid (HT1.out.below hb1)
 have HO2:=Lib.hid (HO1.out.below hb1)
 have HB2:Hid (Below w.heap.size w w1):=Lib.hid (bel_on HB1.out hb1)
 clear HT1 HO1 HB1 hb1 x2 y2 z2 HPT
 go_wp2_with (at_make;refine wpList_make_full _ rfl _ _ 37 rfl w1.heap.size 39 i0 _ 5 Tryz.underlying37 hi hz0 hz1 .i64 .i64 _ _ n rfl rfl (by omega) (by omega) (by rw [hz2];omega) (by unfold maxLen;omega) (Nat.le_refl _) ?_;intro w3 hown0 hgrow0)
 have hR0:RowG w1.heap.size n [] w3:=RowG.made hown0
 have hb3:Below w1.heap.size w1 w3:=(Below.refl _ _).grown hgrow0 (Nat.le_refl _) (fun g hg=>by cases hg)
 have HT3:=Lib.hid (HT2.out.below hb3)
 have HO3:=Lib.hid (HO2.out.below hb3)
 have HK3:Hid (Keeps (KB b) w w3):=Lib.hid (keeps_of (bel_on HB2.out hb3))
 have hq0:w.heap.size<w1.heap.size:=HO2.out.lt
 clear hown0 hgrow0 HT2 HO2 HB2 hb3
 generalize w1.heap.size=q at *
 go_loopw [20] (fun i wr=>∃j:Nat,j≤n∧i=.int .i64 j∧(runK f m j).e=0∧RowG q n (runK f m j).ks wr∧Blk wr b #[.slice A ls.length c,.int .i64 D,.int .i64 X,.int .i64 O,.int .i64 (runK f m j).m]∧Keeps (KB b) w wr∧Blk wr w.heap.size #[.int .i64 o.k,.int .i64 o.sg,.int .i64 o.at',.int .i64 o.d,.int .i64 o.p,.int .i64 o.el,.int .i64 o.n,.int .i64 o.cost]) (fun i _=>n-(intOf i).toNat)
 case atStart=>exact⟨0,by omega,rfl,rfl,hR0,HT3.out,HK3.out,HO3.out⟩
 case round=>
  clear hR0 HT3 HO3 HK3
  obtain⟨j,hj,rfl,he,hrow,hbt,hkp,hbo⟩:=hrel
  have HRE:=Lib.hid he
  have HW:=Lib.hid hrow
  have HT:=Lib.hid hbt
  have HK:=Lib.hid hkp
  have HO:=Lib.hid hbo
  clear he hrow hbt hkp
  by_cases hlt:j<n
  ·have hj1:(j:Int)<(n:Int):=by omega
   have hj2:(j:Int)<536870912:=by omega
   have HMJ:=Lib.hid (HMR.out j)
   have HKL:Hid ((runK f m j).ks.length=j):=Lib.hid (runK_length HRE.out)
   have HNX:Hid (∀h:(f (runK f m j).m j).e=0,runK f m (j+1)=⟨(runK f m j).ks++[(f (runK f m j).m j).n],(f (runK f m j).m j).m,0⟩):=Lib.hid (fun h=>runK_ok HRE.out h)
   have HNO:Hid (∀h:(f (runK f m j).m j).e≠0,(runK f m n).m=(f (runK f m j).m j).m∧(runK f m n).e=(f (runK f m j).m j).e):=Lib.hid (fun h=>by
    have h1:=runK_no HRE.out h
    have h2:runK f m n=runK f m (j+1):=runK_keep (by rw [h1];exact h) (by omega)
    rw [h2,h1]
    exact⟨rfl,rfl⟩)
   obtain⟨x2,y2,z2⟩:=hbo
   go_wp2_with fail
   refine(HV.out (runK f m j).m j wr (HB0.out _ HK.out) HT.out HMJ.out.1 HMJ.out.2 hlt).mono ?_
   rintro e w4 ⟨hk4,hbt4,⟨he4,v,rfl,hnd⟩|⟨he4,rfl⟩⟩
   ·obtain⟨A5,c5,B5,e5,hi5,rfl,hh5,ho5⟩:=hnd
    have hqr:q<wr.heap.size:=HW.out.lt
    have HW4:=Lib.hid (HW.out.keeps hk4 (by have:=HL.out;omega))
    have HT4:=Lib.hid hbt4
    have HK4:=Lib.hid (HK.out.trans hk4)
    have HO4:=Lib.hid (HO.out.keeps hk4 (by have:=HL.out;unfold KB;omega))
    have HO5:=Lib.hid ho5
    have HN4:=Lib.hid (HNX.out he4)
    clear hk4 hbt4 ho5 x2 y2 z2 hz0 HW HT HK HO HNX HNO he4
    obtain⟨u0,y0⟩:=HW4.out.cell (j*5) (by omega)
    obtain⟨u1,y1⟩:=HW4.out.cell (j*5+1) (by omega)
    obtain⟨u2,y2⟩:=HW4.out.cell (j*5+2) (by omega)
    obtain⟨u3,y3⟩:=HW4.out.cell (j*5+3) (by omega)
    obtain⟨u4,y4⟩:=HW4.out.cell (j*5+4) (by omega)
    have z:=HW4.out.free
    generalize (f (runK f m j).m j).n=kx at *
    generalize (f (runK f m j).m j).m=m4 at *
    go_wp2
    go_roundw
    case rel=>
     refine⟨j+1,by omega,by go_num,by rw [HN4.out],?_,?_,?_,?_⟩
     ·rw [HN4.out]
      exact HW4.out.next HKL.out hlt (lo:=wr.heap.size) (hi':=hi5) (by omega) hh5 HO5.out
     ·rw [HN4.out]
      have hne:q≠b:=by have:=HL.out;omega
      exact((((HT4.out.other (p:=⟨q,j*5,none⟩) hne _).other (p:=⟨q,j*5+1,none⟩) hne _).other (p:=⟨q,j*5+2,none⟩) hne _).other (p:=⟨q,j*5+3,none⟩) hne _).other (p:=⟨q,j*5+4,none⟩) hne _
     ·refine keeps_set (keeps_set (keeps_set (keeps_set (keeps_set HK4.out ?_ _) ?_ _) ?_ _) ?_ _) ?_ _<;>exact .inr (by show w.heap.size≤q;omega)
     ·have hne:q≠w.heap.size:=by omega
      exact((((HO4.out.other (p:=⟨q,j*5,none⟩) hne _).other (p:=⟨q,j*5+1,none⟩) hne _).other (p:=⟨q,j*5+2,none⟩) hne _).other (p:=⟨q,j*5+3,none⟩) hne _).other (p:=⟨q,j*5+4,none⟩) hne _
    case measure=>simp [intOf];omega
   ·obtain⟨h1,h2⟩:=HNO.out he4
    have HK4:=Lib.hid (HK.out.trans hk4)
    rw [←h1] at hbt4
    rw [←h2] at he4
    unfold failE
    go_wp2
    exact⟨rfl,HK4.out,hbt4,.inr ⟨he4,by rw [h2];rfl⟩⟩
  ·obtain rfl:j=n:=by omega
   go_wp2
   go_ret
   exact⟨HK.out,HT.out,.inl ⟨HRE.out,q,j,rfl,by omega,HW.out,runK_length HRE.out,by omega⟩⟩
end
end Go.Proofs.YtbpmeppdjicmhaaGreatDoor
