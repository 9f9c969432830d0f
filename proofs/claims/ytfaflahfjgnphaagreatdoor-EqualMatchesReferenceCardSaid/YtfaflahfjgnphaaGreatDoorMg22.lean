/- The texts Ref12 (what is wanted of them), one after the other. -/
import Derived.Test.YtfaflahfjgnphaaGreatDoorMg21
namespace Go.Proofs.YtfaflahfjgnphaaGreatDoor
open Go.ChangeShapes Go.WideShapes Go.ChangeAt Go.RowKit
set_option linter.unusedVariables false
set_option linter.unusedSimpArgs false
set_option maxRecDepth 100000
def ValC (A:Option Addr)(c:Nat)(ls:List (List Int))(D X O:Int)(r:Nat):Prop:=∀(m s a dep:Int) (w:World),Sg w A ls→0≤m→m≤4611686018427387904→0≤dep→dep≤1000→(D-dep+1).toNat=r →
 Calls Tryz.prog 34 #[.slice A ls.length c,.agg #[.int .i64 D,.int .i64 X,.int .i64 O],.agg #[.int .i64 m],.int .i64 s,.int .i64 a,.int .i64 dep] w fun e w'=>∃v,e=.returned (.tuple #[v,.agg #[.int .i64 (valV ls r m s a).m],.int .i64 (valV ls r m s a).e])∧NodF w.heap.size (valV ls r m s a).n v w'∧Below w.heap.size w w'
theorem OwnN.blk {base:Nat}{w:World}{v:Value}{ts:List Nd}(h:OwnN base w v ts):∀g,v.ownBlock=some g→base≤g∧g<w.heap.size:=by
 obtain⟨vs,h1,-⟩:=h
 exact h1.lt
theorem nod_zero (lo:Nat)(w:World):NodF lo nd0 (.agg #[.int .i64 0,.int .i64 0,.int .i64 0,.slice none 0 0,.slice none 0 0]) w:=⟨none,0,none,0,0,rfl,Nat.zero_le _,fun W _=>nd0_here W 0 (by decide)⟩
theorem sliceW {ls:List (List Int)}{A:Option Addr}{c:Nat}(hm:ls.length≤40)(hf:∀j,(seg ls j).length≤20000000)(s a n:Int)(w:World)(hs:Sg w A ls):
  Calls Tryz.prog 60 #[.slice A ls.length c,.int .i64 s,.int .i64 a,.int .i64 n] w fun e w'=>∃v b,e=.returned (.tuple #[v,.bool b])∧Got w' w.heap.size 39 .u64 v (datW ls s a n)∧Below w.heap.size w w':=by
 cases h:inB ls s a n with
 | false=>
  refine(RefSlice_no A c ls s a n w hs (by omega) h).mono ?_
  rintro e w' ⟨rfl,rfl⟩
  refine⟨_,_,rfl,?_,Below.refl _ _⟩
  unfold datW
  rw [if_neg (by rw [h];simp)]
  exact Got.empty _ _ _ _
 | true=>
  obtain⟨h1,h2,h3,h4,h5⟩:=inB_iff.1 h
  obtain⟨S,rfl⟩:=Int.eq_ofNat_of_zero_le h1
  obtain⟨K,rfl⟩:=Int.eq_ofNat_of_zero_le h3
  obtain⟨N,rfl⟩:=Int.eq_ofNat_of_zero_le h4
  have hl:=hf S
  rw [Int.toNat_natCast] at h5
  refine(RefSlice_yes A c ls S K N w hs (by omega) (by omega) (by omega) (by omega) h).mono ?_
  rintro e w' ⟨v,rfl,h6,h7⟩
  refine⟨_,_,rfl,?_,h7⟩
  unfold datW
  rw [if_pos h]
  exact h6
theorem datW_wds {ls:List (List Int)}(hw:Wd2 ls)(s a n:Int):Wds (datW ls s a n):=by
 unfold datW
 split
 ·intro z hz
  exact(hw.at s.toNat) z (List.mem_of_mem_drop (List.mem_of_mem_take hz))
 ·intro z hz;cases hz
theorem datW_length {ls:List (List Int)}(hf:∀j,(seg ls j).length≤20000000)(s a n:Int):(datW ls s a n).length≤20000000:=by
 unfold datW
 split
 ·unfold sliceL
  rw [List.length_take,List.length_drop]
  have:=hf s.toNat
  omega
 ·simp
set_option maxHeartbeats 8000000 in
set_option maxRecDepth 100000 in
theorem RefStruct12 (A:Option Addr)(c:Nat)(ls:List (List Int))(D X O:Int)(r:Nat)(hV:ValC A c ls D X O r)(hw:Wd2 ls)(hm:ls.length≤40)(hf:∀j,(seg ls j).length≤20000000)(m:Int)(o:Ob)(dep:Int)(w:World)(hs:Sg w A ls)(hm0:0≤m)(hm1:m≤4611686018427387904)
  (hd0:0≤dep) (hd1:dep≤999) (hr:(D-dep).toNat=r) (ho1:0≤o.at') (ho2:o.at'≤100000000000) (ho3:0≤o.d) (ho4:o.d≤65535) (ho5:0≤o.p) (ho6:o.p≤65535) :
  Calls Tryz.prog 59 #[.slice A ls.length c,.agg #[.int .i64 D,.int .i64 X,.int .i64 O],.agg #[.int .i64 m],.agg #[.int .i64 o.k,.int .i64 o.sg,.int .i64 o.at',.int .i64 o.d,.int .i64 o.p,.int .i64 o.el,.int .i64 o.n,.int .i64 o.cost],.int .i64 dep] w fun e w'=>∃v,e=.returned (.tuple #[v,.agg #[.int .i64 (structV (valV ls r) ls m o).m],.int .i64 (structV (valV ls r) ls m o).e])∧NodF w.heap.size (structV (valV ls r) ls m o).n v w'∧Below w.heap.size w w':=by
 have Hs:=Lib.hid hs
 have HV:=Lib.hid hV
 have HR:Hid ((D-(dep+1)+1).toNat=r):=Lib.hid (by omega)
 obtain⟨P,hP⟩:=Int.eq_ofNat_of_zero_le ho5
 have hPl:P≤65535:=by omega
 have HPE:=Lib.hid hP
 obtain⟨f,hfe⟩:∃f:Int→Nat→Val,f=fun (m:Int) (i:Nat)=>valV ls r m o.sg (o.at'+o.d+(i:Int)):=⟨_,rfl⟩
 have HFE:=Lib.hid hfe
 have HMB:=Lib.hid (fun (i:Nat)=>runK_ind (f:=f) (m:=m) (fun x=>0≤x∧x≤m) ⟨hm0,Int.le_refl _⟩ i (fun m' i _ hh=>by
  have h:=valV_m hw hm hf r m' o.sg (o.at'+o.d+i) hh.1
  rw [hfe]
  show 0≤(valV ls r m' o.sg (o.at'+o.d+i)).m∧(valV ls r m' o.sg (o.at'+o.d+i)).m≤m
  omega))
 have HSV:Hid (structV (valV ls r) ls m o=if (runK f m P).e≠0 then errV (runK f m P).m (runK f m P).e else ⟨.mk 1 0 0 (bytesOf (datW ls o.sg o.at' o.d)) (runK f m P).ks,(runK f m P).m,0⟩):=Lib.hid (by unfold structV;rw [hP,Int.toNat_natCast,hfe])
 have HSL:=Lib.hid (fun w' hs'=>sliceW (A:=A) (c:=c) hm hf o.sg o.at' o.d w' hs')
 have HDW:=Lib.hid (datW_wds hw o.sg o.at' o.d)
 have HDL:=Lib.hid (datW_length hf o.sg o.at' o.d)
 clear hs hV hfe hP hw hf
 generalize hsv:structV (valV ls r) ls m o=sv at *
 clear hsv
 generalize datW ls o.sg o.at' o.d=dw at *
 go_enter Tryz.func59,Tryz.ntmps59
 go_wp2_with fail
 refine abs_world (F:=fun W=>Blk W w.heap.size #[.int .i64 D,.int .i64 X,.int .i64 O]∧Blk W (w.heap.size+1) #[.int .i64 m]∧Blk W (w.heap.size+1+1) #[.int .i64 o.k,.int .i64 o.sg,.int .i64 o.at',.int .i64 o.d,.int .i64 o.p,.int .i64 o.el,.int .i64 o.n,.int .i64 o.cost]∧Blk W (w.heap.size+1+1+1) #[.int .i64 0,.int .i64 0,.int .i64 0,.slice none 0 0,.slice none 0 0]∧Blk W (w.heap.size+1+1+1+1) #[.int .i64 0]∧Blk W (w.heap.size+1+1+1+1+1) #[.int .i64 1,.int .i64 0,.int .i64 0,.slice none 0 0,.slice none 0 0]∧Below w.heap.size w W∧W.heap.size=w.heap.size+6) ⟨?_,?_,?_,?_,?_,?_,?_,?_⟩ ?_
 ·exact(((((Blk.fresh _ _ _).alloc _).alloc _).alloc _).alloc _).alloc _
 ·exact((((Blk.new (by simp)).alloc _).alloc _).alloc _).alloc _
 ·exact(((Blk.new (by simp)).alloc _).alloc _).alloc _
 ·exact((Blk.new (by simp)).alloc _).alloc _
 ·exact(Blk.new (by simp)).alloc _
 ·exact Blk.new (by simp)
 ·exact((((((Below.refl _ _).alloc (Nat.le_refl _) _).alloc (by simp) _).alloc (by simp;omega) _).alloc (by simp;omega) _).alloc (by simp;omega) _).alloc (by simp;omega) _
 ·simp
 rintro W ⟨h0,h1,h2,h3,h4,h5,hb,hsz⟩
 refine(HSL.out W (Hs.out.below hb (Nat.le_refl _))).mono ?_
 rintro e w1 ⟨v1,b1,rfl,hg1,hb1⟩
 obtain⟨A3,c3,rfl,hcl3,hcm3,hri3,hcn3⟩:=hg1.full
 have K0:=Lib.hid (h0.below hb1)
 have K1:=Lib.hid (h1.below hb1)
 have K2:=Lib.hid (h2.below hb1)
 have K3:=Lib.hid (h3.below hb1)
 have K4:=Lib.hid (h4.below hb1)
 have K5:=Lib.hid (h5.below hb1)
 have HB:=Lib.hid (bel_on hb hb1)
 have HBY:=Lib.hid (RefBytes_any A3 c3 dw w1 hri3 HDW.out (by have:=HDL.out;omega))
 have hsz1:w.heap.size+6≤w1.heap.size:=by have:=hb1.size;omega
 clear h0 h1 h2 h3 h4 h5 hb hsz hb1 hg1 hcl3 hcm3 hri3 hcn3
 go_wp2_with fail
 refine HBY.out.mono ?_
 rintro e w2 ⟨v2,rfl,hg2,hb2⟩
 obtain⟨A2,c2,rfl,hcl2,hcm2,hri2,hcn2⟩:=hg2.full
 have K0n:=Lib.hid (K0.out.below hb2)
 have k1:=K1.out.below hb2
 have K2n:=Lib.hid (K2.out.below hb2)
 have K3n:=Lib.hid (K3.out.below hb2)
 have K4n:=Lib.hid (K4.out.below hb2)
 have k5:=K5.out.below hb2
 have HBn:=Lib.hid (bel_on HB.out hb2)
 have HDT:=Lib.hid (hg2.mono (base':=w.heap.size+6) hsz1)
 have hsz2:w.heap.size+6≤w2.heap.size:=by have:=hb2.size;omega
 clear K0 K1 K2 K3 K4 K5 HB hb2 hg2 hcl2 hcm2 hri2 hcn2 HBY HDW
 have K0:=K0n
 have K1:=Lib.hid k1
 have K2:=K2n
 have K3:=K3n
 have K4:=K4n
 have K5:=Lib.hid k5
 have HB:=HBn
 clear K0n K2n K3n K4n HBn
 obtain⟨x1,y1,z1⟩:=k1
 obtain⟨x5,y5,z5⟩:=k5
 generalize hdl:(bytesOf dw).length=dl at *
 have HDLE:=Lib.hid hdl
 clear hdl
 go_wp2
 go_loopw [17] (fun i wr=>∃(j:Nat) (v:Value),j≤P∧i=.int .i64 j∧(runK f m j).e=0∧Blk wr w.heap.size #[.int .i64 D,.int .i64 X,.int .i64 O]∧Blk wr (w.heap.size+1+1) #[.int .i64 o.k,.int .i64 o.sg,.int .i64 o.at',.int .i64 o.d,.int .i64 o.p,.int .i64 o.el,.int .i64 o.n,.int .i64 o.cost]∧Blk wr (w.heap.size+1+1+1) #[.int .i64 0,.int .i64 0,.int .i64 0,.slice none 0 0,.slice none 0 0]∧Blk wr (w.heap.size+1+1+1+1) #[.int .i64 0]∧Blk wr (w.heap.size+1+1+1+1+1) #[.int .i64 1,.int .i64 0,.int .i64 0,.slice A2 dl c2,v]∧Blk wr w2.heap.size #[.int .i64 (runK f m j).m]∧OwnN (w2.heap.size+1) wr v (runK f m j).ks∧(∀q,w.heap.size+6≤q→q<w2.heap.size→wr.heap[q]?=w2.heap[q]?)∧w2.heap.size+1≤wr.heap.size∧Below w.heap.size w wr) (fun i _=>P-(intOf i).toNat)
 case atStart=>
  refine⟨0,.slice none 0 0,Nat.zero_le _,rfl,rfl,?_,?_,?_,?_,?_,?_,OwnN.empty _ _,?_,?_,?_⟩
  ·exact(K0.out.other (by simp;omega) _).alloc _
  ·exact(K2.out.other (by simp;omega) _).alloc _
  ·exact(K3.out.other (by simp;omega) _).alloc _
  ·exact(K4.out.other (by simp) _).alloc _
  ·exact(K5.out.set 3 (by simp) _).alloc _
  ·exact Blk.new (by simp [World.setCell])
  ·intro q h1 h2
   rw [Below.heap_alloc _ _ _ (by simp [World.setCell];omega),Below.heap_setCell _ _ _ _ (by show q≠w.heap.size+1+1+1+1+1;omega)]
  ·simp [World.setCell]
  ·exact(HB.out.setCell (by show w.heap.size≤w.heap.size+1+1+1+1+1;omega) _).alloc (by have:=HB.out.size;simp [World.setCell];omega) _
 case round=>
  obtain⟨j,v,hj,rfl,hej,h0,h2,h3,h4,h5,hq,hown,hdat,hszr,hbr⟩:=hrel
  clear K0 K1 K2 K3 K4 K5 HB x1 y1 z1 x5 y5 z5
  have K0:=Lib.hid h0
  have K2:=Lib.hid h2
  have K3:=Lib.hid h3
  have K4:=Lib.hid h4
  have K5:=Lib.hid h5
  have KQ:=Lib.hid hq
  have HOW:=Lib.hid hown
  have HDA:=Lib.hid hdat
  have HB:=Lib.hid hbr
  have HEJ:=Lib.hid hej
  clear h3 h4 h5 hown hdat hbr hej
  obtain⟨x0,y0,z0⟩:=h0
  obtain⟨x2,y2,z2⟩:=h2
  obtain⟨xq,yq,zq⟩:=hq
  have hmb:=HMB.out j
  by_cases hlt:j<P
  ·have hpi:(j:Int)<o.p:=by rw [HPE.out];omega
   generalize hrj:runK f m j=rj at *
   have HRJ:=Lib.hid hrj
   clear hrj
   have HVJ:=Lib.hid (HV.out rj.m o.sg (o.at'+o.d+j) (dep+1) wr (Hs.out.below HB.out (Nat.le_refl _)) hmb.1 (by omega) (by omega) (by omega) HR.out)
   have HFJ:Hid (valV ls r rj.m o.sg (o.at'+o.d+j)=f rj.m j):=Lib.hid (by rw [HFE.out])
   rw [HFJ.out] at HVJ
   generalize hfj:f rj.m j=fj at *
   have HFQ:=Lib.hid hfj
   clear HFJ hfj
   go_wp2_with fail
   refine HVJ.out.mono ?_
   rintro e w4 ⟨v4,rfl,⟨Ak,ck,Bk,ek,hik,rfl,hhk,hok⟩,hb4⟩
   have hvb:=(OwnN.blk HOW.out)
   have K0n:=Lib.hid (K0.out.below hb4)
   have K2n:=Lib.hid (K2.out.below hb4)
   have K3n:=Lib.hid (K3.out.below hb4)
   have K4n:=Lib.hid (K4.out.below hb4)
   have K5n:=Lib.hid (K5.out.below hb4)
   have KQn:=Lib.hid (KQ.out.below hb4)
   have HOWn:=Lib.hid (HOW.out.below hb4 (Nat.le_refl _))
   have HDAn:Hid (∀q,w.heap.size+6≤q→q<w2.heap.size→w4.heap[q]?=w2.heap[q]?):=Lib.hid (fun q h1 h2=>(hb4.block q (by omega)).trans (HDA.out q h1 h2))
   have HBn:=Lib.hid (bel_on HB.out hb4)
   have hsz4:=hb4.size
   have HNK:=Lib.hid hok
   clear K0 K2 K3 K4 K5 KQ HOW HDA HB hb4 hok x0 y0 z0 x2 y2 z2 xq yq zq HVJ
   have K0:=K0n
   have K2:=K2n
   have K3:=K3n
   have K4:=K4n
   have K5:=K5n
   have KQ:=KQn
   have HOW:=HOWn
   have HDA:=HDAn
   have HB:=HBn
   clear K0n K2n K3n K4n K5n KQn HOWn HDAn HBn
   by_cases hfe:fj.e=0
   ·have HFE0:=Lib.hid hfe
    have t20:(fj.e != 0)=false:=by rw [hfe];rfl
    clear hfe
    have yq:=(KQ.out.alloc (.cells #[.int .i64 fj.n.k,.int .i64 fj.n.e,.int .i64 fj.n.n,.slice Ak fj.n.d.length ck,.slice Bk fj.n.ks.length ek] 53)).cell
    have yf:=(KQ.out.alloc (.cells #[.int .i64 fj.n.k,.int .i64 fj.n.e,.int .i64 fj.n.n,.slice Ak fj.n.d.length ck,.slice Bk fj.n.ks.length ek] 53)).free
    have zq:=((KQ.out.alloc (.cells #[.int .i64 fj.n.k,.int .i64 fj.n.e,.int .i64 fj.n.n,.slice Ak fj.n.d.length ck,.slice Bk fj.n.ks.length ek] 53)).alloc (.cells #[.int .i64 fj.m] 65)).cell
    have zf:=((KQ.out.alloc (.cells #[.int .i64 fj.n.k,.int .i64 fj.n.e,.int .i64 fj.n.n,.slice Ak fj.n.d.length ck,.slice Bk fj.n.ks.length ek] 53)).alloc (.cells #[.int .i64 fj.m] 65)).free
    have z5:=((K5.out.alloc (.cells #[.int .i64 fj.n.k,.int .i64 fj.n.e,.int .i64 fj.n.n,.slice Ak fj.n.d.length ck,.slice Bk fj.n.ks.length ek] 53)).alloc (.cells #[.int .i64 fj.m] 65)).cell
    go_wp2_with (at_builtin;refine hold_it ?_)
    refine Lib.hid ?_
    refine abs_list (F:=fun W=>Blk W w.heap.size #[.int .i64 D,.int .i64 X,.int .i64 O]∧Blk W (w.heap.size+1+1) #[.int .i64 o.k,.int .i64 o.sg,.int .i64 o.at',.int .i64 o.d,.int .i64 o.p,.int .i64 o.el,.int .i64 o.n,.int .i64 o.cost]∧Blk W (w.heap.size+1+1+1) #[.int .i64 0,.int .i64 0,.int .i64 0,.slice none 0 0,.slice none 0 0]∧Blk W (w.heap.size+1+1+1+1) #[.int .i64 0]∧Blk W (w.heap.size+1+1+1+1+1) #[.int .i64 1,.int .i64 0,.int .i64 0,.slice A2 dl c2,v]∧Blk W w2.heap.size #[.int .i64 fj.m]∧OwnN (w2.heap.size+1) W v rj.ks∧(∀q,w.heap.size+6≤q→q<w2.heap.size→W.heap[q]?=w2.heap[q]?)∧Blk W (w4.heap.size+1+1) #[.int .i64 fj.n.k,.int .i64 fj.n.e,.int .i64 fj.n.n,.slice Ak fj.n.d.length ck,.slice Bk fj.n.ks.length ek]∧NdO wr.heap.size hik W Ak ck Bk ek fj.n∧Below w.heap.size w W∧W.heap.size=w4.heap.size+1+1+1) ⟨?_,?_,?_,?_,?_,?_,?_,?_,?_,?_,?_,?_⟩ ?_
    ·exact(((K0.out.alloc _).alloc _).other (by simp;omega) _).alloc _
    ·exact(((K2.out.alloc _).alloc _).other (by simp;omega) _).alloc _
    ·exact(((K3.out.alloc _).alloc _).other (by simp;omega) _).alloc _
    ·exact(((K4.out.alloc _).alloc _).other (by simp;omega) _).alloc _
    ·exact(((K5.out.alloc _).alloc _).other (by simp;omega) _).alloc _
    ·exact(((KQ.out.alloc _).alloc _).set 0 (by simp) _).alloc _
    ·exact OwnN.below (OwnN.far (p:=⟨w2.heap.size,0,none⟩) (OwnN.below HOW.out (((Below.refl _ _).alloc (Nat.le_refl _) _).alloc (by simp) _) (Nat.le_refl _)) (by show w2.heap.size<w2.heap.size+1;omega) _) ((Below.refl _ _).alloc (Nat.le_refl _) _) (Nat.le_refl _)
    ·intro q h1 h2
     rw [Below.heap_alloc _ _ _ (by simp [World.setCell];omega),Below.heap_setCell _ _ _ _ (by show q≠w2.heap.size;omega),Below.heap_alloc _ _ _ (by simp;omega),Below.heap_alloc _ _ _ (by omega)]
     exact HDA.out q h1 h2
    ·exact Blk.new (by simp [World.setCell])
    ·refine HNK.out.to fun q h1 h2=>?_
     rw [Below.heap_alloc _ _ _ (by simp [World.setCell];omega),Below.heap_setCell _ _ _ _ (by show q≠w2.heap.size;omega),Below.heap_alloc _ _ _ (by simp;omega),Below.heap_alloc _ _ _ (by omega)]
    ·have:=HB.out.size
     exact(((HB.out.alloc HB.out.size _).alloc (by simp;omega) _).setCell (by show w.heap.size≤w2.heap.size;omega) _).alloc (by simp [World.setCell];omega) _
    ·simp [World.setCell]
    clear K0 K2 K3 K4 K5 KQ HOW HDA HB HNK yq yf zq zf z5
    rintro W ⟨h0,h2,h3,h4,h5,hq,hown,hdat,h9,hnk,hbw,hsW⟩
    have hjl:rj.ks.length=j:=by rw [←HRJ.out];exact runK_length (by rw [HRJ.out];exact HEJ.out)
    refine wpList_appO rfl (.tmp 69) (.tmp 71) 51 rfl Tryz.underlying51 rfl hown rfl (fun o ho=>by rw [h9.cell];simp [fiveC]) (lo:=wr.heap.size) (hi:=hik) hszr (by omega) (fun g hg=>(hvb g hg).2) hnk (by omega) (by omega) ?_
    intro v' w' hown' hgr
    obtain⟨B9,c9,rfl,-⟩:=hown'.slice
    have hl9:(rj.ks++[fj.n]).length=j+1:=by rw [List.length_append,hjl];rfl
    rw [hl9] at hown'
    rw [hl9]
    have hb':Below (w2.heap.size+1) W w':=(Below.refl _ _).grown hgr (by omega) (fun g hg=>(OwnN.blk hown g hg).1)
    have hszb:=hb'.size
    have K0:=Lib.hid (h0.belowN hb' (by omega))
    have K2:=Lib.hid (h2.belowN hb' (by omega))
    have K3:=Lib.hid (h3.belowN hb' (by omega))
    have K4:=Lib.hid (h4.belowN hb' (by omega))
    have k5:=h5.belowN hb' (by omega)
    have K5:=Lib.hid k5
    have KQ:=Lib.hid (hq.belowN hb' (by omega))
    have HOW:=Lib.hid hown'
    have HDA:Hid (∀q,w.heap.size+6≤q→q<w2.heap.size→w'.heap[q]?=w2.heap[q]?):=Lib.hid (fun q g1 g2=>(hb'.block q (by omega)).trans (hdat q g1 g2))
    have HB:=Lib.hid (hbw.trans (hb'.mono (by omega)))
    clear h0 h2 h3 h4 h5 hq hown hdat h9 hnk hbw hgr hb' hown'
    obtain⟨x5,y5,z5⟩:=k5
    have HRS:Hid (runK f m (j+1)=⟨rj.ks++[fj.n],fj.m,0⟩):=Lib.hid (by
     rw [runK_ok (by rw [HRJ.out];exact HEJ.out) (by rw [HRJ.out,HFQ.out];exact HFE0.out),HRJ.out,HFQ.out])
    go_wp2
    go_roundw
    case rel=>
     refine⟨j+1,.slice B9 (j+1) c9,by omega,by go_num,by rw [HRS.out],?_,?_,?_,?_,?_,?_,?_,?_,?_,?_⟩
     ·exact K0.out.other (by simp;omega) _
     ·exact K2.out.other (by simp;omega) _
     ·exact K3.out.other (by simp;omega) _
     ·exact K4.out.other (by simp) _
     ·exact K5.out.set 4 (by simp) _
     ·rw [HRS.out];exact KQ.out.other (by simp;omega) _
     ·rw [HRS.out];exact OwnN.far HOW.out (by show w.heap.size+1+1+1+1+1<w2.heap.size+1;omega) _
     ·intro q h1 h2
      rw [Below.heap_setCell _ _ _ _ (by show q≠w.heap.size+1+1+1+1+1;omega)]
      exact HDA.out q h1 h2
     ·simp [World.setCell];omega
     ·exact HB.out.setCell (by show w.heap.size≤w.heap.size+1+1+1+1+1;omega) _
    case measure=>simp [intOf];omega
   ·have HFE0:=Lib.hid hfe
    have t20:(fj.e != 0)=true:=bne_iff_ne.2 hfe
    clear hfe
    go_wp2
    have k3:=(K3.out.alloc (.cells #[.int .i64 fj.n.k,.int .i64 fj.n.e,.int .i64 fj.n.n,.slice Ak fj.n.d.length ck,.slice Bk fj.n.ks.length ek] 53)).alloc (.cells #[.int .i64 fj.m] 65)
    have k4:=(K4.out.alloc (.cells #[.int .i64 fj.n.k,.int .i64 fj.n.e,.int .i64 fj.n.n,.slice Ak fj.n.d.length ck,.slice Bk fj.n.ks.length ek] 53)).alloc (.cells #[.int .i64 fj.m] 65)
    have k9:=Blk.fresh (w4.alloc (.cells #[.int .i64 fj.n.k,.int .i64 fj.n.e,.int .i64 fj.n.n,.slice Ak fj.n.d.length ck,.slice Bk fj.n.ks.length ek] 53)) #[.int .i64 fj.m] 65
    rw [World.size_alloc] at k9
    have hz4:=HB.out.size
    have hbv:=(HB.out.alloc HB.out.size (.cells #[.int .i64 fj.n.k,.int .i64 fj.n.e,.int .i64 fj.n.n,.slice Ak fj.n.d.length ck,.slice Bk fj.n.ks.length ek] 53)).alloc (by simp;omega) (.cells #[.int .i64 fj.m] 65)
    generalize (w4.alloc (.cells #[.int .i64 fj.n.k,.int .i64 fj.n.e,.int .i64 fj.n.n,.slice Ak fj.n.d.length ck,.slice Bk fj.n.ks.length ek] 53)).alloc (.cells #[.int .i64 fj.m] 65)=V at k3 k4 k9 hbv ⊢
    have K3:=Lib.hid k3
    have K4:=Lib.hid k4
    have HBV:=Lib.hid hbv
    clear hbv
    obtain⟨x3,y3,z3⟩:=k3
    obtain⟨x4,y4,z4⟩:=k4
    obtain⟨x9,y9,z9⟩:=k9
    go_region
    go_wp2
    have HSE:Hid (sv=errV fj.m fj.e):=Lib.hid (by
     have h1:runK f m (j+1)=⟨[],fj.m,fj.e⟩:=by
      rw [runK_no (by rw [HRJ.out];exact HEJ.out) (by rw [HRJ.out,HFQ.out];exact HFE0.out),HRJ.out,HFQ.out]
     have h2:runK f m P=⟨[],fj.m,fj.e⟩:=by
      rw [runK_keep (i:=j+1) (by rw [h1];exact HFE0.out) (by omega),h1]
     rw [HSV.out,h2,if_pos HFE0.out])
    refine abs_post (F:=fun W=>Blk W (w.heap.size+1+1+1) #[.int .i64 0,.int .i64 0,.int .i64 0,.slice none 0 0,.slice none 0 0]∧Blk W (w.heap.size+1+1+1+1) #[.int .i64 fj.m]∧Below w.heap.size w W) ⟨?_,?_,?_⟩ ?_
    ·exact((((((K3.out.set 0 (by simp) _).set 1 (by simp) _).set 2 (by simp) _).set 3 (by simp) _).set 4 (by simp) _).other (by simp) _).drew
    ·exact((((((K4.out.other (by simp) _).other (by simp) _).other (by simp) _).other (by simp) _).other (by simp) _).set 0 (by simp) _).drew
    ·refine bel_drew (Below.setCell (Below.setCell (Below.setCell (Below.setCell (Below.setCell (Below.setCell HBV.out ?_ _) ?_ _) ?_ _) ?_ _) ?_ _) ?_ _)<;>(simp;omega)
    rintro W5 ⟨B6,B7,hbw⟩
    exact bodyPost_ret (v:=.tuple #[.agg #[.int .i64 0,.int .i64 0,.int .i64 0,.slice none 0 0,.slice none 0 0],.agg #[.int .i64 fj.m],.int .i64 fj.e]) (by simp [results,Tryz.results59,go_sem,B6.cell,B7.cell]) rfl ⟨_,by rw [HSE.out];rfl,by rw [HSE.out];exact nod_zero _ _,hbw⟩
  ·have hPj:P=j:=by omega
   have hpi:¬(j:Int)<o.p:=by rw [HPE.out];omega
   have hpe:(o.p:Int)=j:=by rw [HPE.out,hPj]
   have HPJ:=Lib.hid hPj
   clear hPj hpe
   have hjl:=runK_length HEJ.out
   obtain⟨B9,c9,rfl,hl9,hm9,hn9⟩:=HOW.out.slice
   have hgd:Got wr (w.heap.size+6) 5 .u8 (.slice A2 (bytesOf dw).length c2) (bytesOf dw):=got_agree (HDT.out.cast (by rw [HDLE.out]) rfl) fun g h1 h2=>HDA.out g h1 h2
   have HN:=Lib.hid ((HOW.out.mono (base':=w.heap.size+6) (by omega)).node (k:=1) (e:=0) (n:=0) (by decide) (by decide) (by decide) hgd (bytesOf_bts dw))
   have HSE:Hid (sv=⟨.mk 1 0 0 (bytesOf dw) (runK f m j).ks,(runK f m j).m,0⟩):=Lib.hid (by
    rw [HSV.out,HPJ.out,if_neg (by rw [HEJ.out];simp)])
   clear hgd
   obtain⟨x5,y5,z5⟩:=K5.out
   obtain⟨x3,y3,z3⟩:=K3.out
   obtain⟨x4,y4,z4⟩:=K4.out
   rw [hjl] at x5
   go_wp2
   go_region
   go_wp2
   refine abs_post (F:=fun W=>Blk W (w.heap.size+1+1+1) #[.int .i64 1,.int .i64 0,.int .i64 0,.slice A2 dl c2,.slice B9 j c9]∧Blk W (w.heap.size+1+1+1+1) #[.int .i64 (runK f m j).m]∧NdO (w.heap.size+6) W.heap.size W A2 c2 B9 c9 (.mk 1 0 0 (bytesOf dw) (runK f m j).ks)∧Below w.heap.size w W) ⟨?_,?_,?_,?_⟩ ?_
   ·exact((((((K3.out.set 0 (by simp) _).set 1 (by simp) _).set 2 (by simp) _).set 3 (by simp) _).set 4 (by simp) _).other (by simp) _).drew
   ·exact((((((K4.out.other (by simp) _).other (by simp) _).other (by simp) _).other (by simp) _).other (by simp) _).set 0 (by simp) _).drew
   ·refine(HN.out.to fun q q1 _=>?_).wide (Nat.le_refl _) (by simp [World.setCell,World.drew])
    show (((((((wr.setCell _ _).setCell _ _).setCell _ _).setCell _ _).setCell _ _).setCell _ _).drew).heap[q]?=wr.heap[q]?
    rw [show ∀W:World,W.drew.heap=W.heap from fun _=>rfl,Below.heap_setCell _ _ _ _ (by simp;omega),Below.heap_setCell _ _ _ _ (by simp;omega),Below.heap_setCell _ _ _ _ (by simp;omega),Below.heap_setCell _ _ _ _ (by simp;omega),Below.heap_setCell _ _ _ _ (by simp;omega),Below.heap_setCell _ _ _ _ (by simp;omega)]
   ·refine bel_drew (Below.setCell (Below.setCell (Below.setCell (Below.setCell (Below.setCell (Below.setCell HB.out ?_ _) ?_ _) ?_ _) ?_ _) ?_ _) ?_ _)<;>(simp;omega)
   rintro W5 ⟨B6,B7,hN,hbw⟩
   have hve:Value.agg #[.int .i64 1,.int .i64 0,.int .i64 0,.slice A2 dl c2,.slice B9 j c9]=.agg #[.int .i64 (Nd.mk 1 0 0 (bytesOf dw) (runK f m j).ks).k,.int .i64 (Nd.mk 1 0 0 (bytesOf dw) (runK f m j).ks).e,.int .i64 (Nd.mk 1 0 0 (bytesOf dw) (runK f m j).ks).n,.slice A2 (Nd.mk 1 0 0 (bytesOf dw) (runK f m j).ks).d.length c2,.slice B9 (Nd.mk 1 0 0 (bytesOf dw) (runK f m j).ks).ks.length c9]:=by
    simp only [Nd.k,Nd.e,Nd.n,Nd.d,Nd.ks,HDLE.out,hjl]
   exact bodyPost_ret (v:=.tuple #[.agg #[.int .i64 1,.int .i64 0,.int .i64 0,.slice A2 dl c2,.slice B9 j c9],.agg #[.int .i64 (runK f m j).m],.int .i64 0]) (by simp [results,Tryz.results59,go_sem,B6.cell,B7.cell]) rfl ⟨_,by rw [HSE.out],by rw [HSE.out];exact⟨A2,c2,B9,c9,_,hve,Nat.le_refl _,hN.wide (by omega) (Nat.le_refl _)⟩,hbw⟩
end Go.Proofs.YtfaflahfjgnphaaGreatDoor
