/- The texts DenG, DenH, DenK, DenL, DenP (what is wanted of them), one after the other. -/
import Derived.Test.YtfaflahfjgnphaaGreatDoorMg29
import Derived.Test.YtfaflahfjgnphaaGreatDoorMg35
import Derived.Test.YtfaflahfjgnphaaGreatDoorMg38
namespace Go.Proofs.YtfaflahfjgnphaaGreatDoor
open Go.ChangeShapes Go.WideShapes Go.ChangeAt Go.RowKit
set_option linter.unusedVariables false
set_option linter.unusedSimpArgs false
set_option maxRecDepth 100000
section
attribute [local simp] AllK KnowsV look Is
theorem object_any (b:Nat)(A:Option Addr)(c:Nat)(ls:List (List Int))(D X O:Int)(w0:World)(E:EnvD b A ls w0)(m s a dep:Int)(w:World)(hb:Below b w0 w)(hk:Blk w b #[.slice A ls.length c,.int .i64 D,.int .i64 X,.int .i64 O,.int .i64 m])
  (hm0:0≤m) (hm1:m≤4611686018427387904) (hs0:0≤s) (hs1:s≤1000) (ha0:0≤a) (ha1:a≤200000000000) :
  Calls Tryz.prog 43 #[.pointer (some ⟨b,0,none⟩),.int .i64 s,.int .i64 a,.int .i64 dep] w fun e w'=>Keeps (KB b) w w'∧Blk w' b #[.slice A ls.length c,.int .i64 D,.int .i64 X,.int .i64 O,.int .i64 (locD ls D m s a dep).m] ∧
   (((locD ls D m s a dep).e=0∧e=.returned (obV (locD ls D m s a dep).o))∨((locD ls D m s a dep).e≠0∧e=failE (locD ls D m s a dep).e)):=
 object_walk b A ls.length c D X O m s a dep (followF ls s a) (objF ls s a) w0 w hb hk
  (Lib.hid (fun w2 h=>FFollow_any A c ls s a w2 (E.sgAt h) E.wd E.m2 E.f2 (by omega) (by omega) (by omega) (by omega)))
  (Lib.hid (fun w2 h=>RObject_any A c ls s a w2 (E.tabAt h) (E.sgAt h) E.wd E.m2 E.f2 (by omega) (by omega) (by omega) (by omega)))
  (Lib.hid (fun w2=>BCharge_any m _ w2 (by omega) (by omega) (objF_num E.wd E.m E.f s a rfl).2.2.2.2.2.2.2.2.2.2.2.2.2.2.1))
theorem datD_inB {ls:List (List Int)}{s a n:Int}(h:inB ls s a n=true):(datW ls s a n).length=n.toNat:=by
 have h9:=inB_iff.1 h
 unfold datW
 rw [if_pos h]
 unfold sliceL
 rw [List.length_take,List.length_drop]
 omega
theorem loc_ok {ls:List (List Int)}(hw:Wd2 ls)(hm:ls.length≤40)(hf:∀j,(seg ls j).length≤20000000)(D m s a dep:Int)(hm0:0≤m)(L:Loc)(hL:locD ls D m s a dep=L)(he:L.e=0):
  ObOK ls L.o∧0≤L.m∧L.m≤m∧L.o.at'≤281474976710656∧(0<(ptrO L.o).2→dep≤D)∧(L.o.el=7→dep≤D∧∀j:Nat,(j:Int)<L.o.n→ObOK ls (eleO L.o j)):=by
 have hC:=objF_cases hw (by omega) (fun j=>by have:=hf j;omega) s a
 have hN:=objF_num hw hm hf s a rfl
 have h0:ObOK ls ob0:=⟨by decide,by decide,by decide,by decide,by decide,by decide,by decide,fun h=>absurd h (by decide)⟩
 have h1:¬0<(ptrO ob0).2:=by decide
 have h2:ob0.el≠7:=by decide
 subst hL
 unfold locD locQ at he ⊢
 generalize followF ls s a=q at *
 generalize objF ls s a=r at *
 by_cases c1:q.e≠0∨q.w=0
 ·simp only [if_pos c1] at he ⊢
  exact⟨h0,hm0,Int.le_refl _,by decide,fun h=>absurd h h1,fun h=>absurd h h2⟩
 by_cases c2:D<dep
 ·simp only [if_neg c1,if_pos c2] at he
  exact absurd he (by decide)
 by_cases c3:r.2≠0
 ·simp only [if_neg c1,if_neg c2,if_pos c3] at he
  exact absurd he c3
 by_cases c4:m<r.1.cost
 ·simp only [if_neg c1,if_neg c2,if_neg c3,if_pos c4] at he
  exact absurd he (by decide)
 simp only [if_neg c1,if_neg c2,if_neg c3,if_neg c4] at he ⊢
 obtain⟨⟨k,sg,at',d,p,el,n,cost⟩,e⟩:=r
 simp only [ob0,Ob.mk.injEq] at hC hN c3 c4 ⊢
 obtain⟨n1,n2,n3,n4,n5,n6,n7,n8,n9,n10,n11,n12,n13,n14,n15,n16,n17,n18,n19,n20⟩:=hN
 refine⟨⟨⟨n1,n2⟩,⟨n3,n4⟩,⟨n5,by show at'≤100000000000;omega⟩,⟨n7,n8⟩,⟨n9,n10⟩,⟨n11,n12⟩,⟨n13,n14⟩,fun hk hel=>?_⟩,by show 0≤m-cost;omega,by show m-cost≤m;omega,by show at'≤281474976710656;omega,fun _=>by omega,fun hel=>⟨by omega,fun j hj=>?_⟩⟩
 ·simp only at hk hel ⊢
  rcases hC with ⟨⟨rfl,rfl,rfl,rfl,rfl,rfl,rfl,rfl⟩,-⟩|⟨-,h4,-⟩|⟨-,-,h4,h5,h6,h7,rfl,rfl,rfl,h8⟩|⟨-,-,h4,-⟩
  ·exact absurd hk (by decide)
  ·omega
  ·rw [datD_inB h8]
   have h9:=inB_iff.1 h8
   have h10:=bitsI_mul el n h6
   unfold wordsI bytesI at *
   rw [if_neg (by omega)] at *
   omega
  ·omega
 ·have hj:(j:Int)<n:=hj
  have hdp:0≤d+p:=by omega
  have h5:(j:Int)*(d+p)≤n*(d+p):=Int.mul_le_mul_of_nonneg_right (by omega) hdp
  have h6:0≤(j:Int)*(d+p):=Int.mul_nonneg (by omega) hdp
  exact⟨by show (0:Int)≤1∧(1:Int)≤2;omega,by show 0≤sg∧sg≤40;omega,by show 0≤at'+j*(d+p)∧at'+j*(d+p)≤100000000000;omega,by show 0≤d∧d≤65535;omega,by show 0≤p∧p≤65535;omega,by show (0:Int)≤0∧(0:Int)≤7;omega,by show (0:Int)≤0∧(0:Int)≤536870911;omega,fun h=>absurd h (by show (1:Int)≠2;omega)⟩
end
section
attribute [local simp] AllK KnowsV look Is
set_option maxHeartbeats 4000000 in
theorem caughtD_idle (p:Addr)(w:World):
  CallsD Tryz.prog 41 #[.pointer (some p)] .returning w fun e u' w'=>e=.returned (.tuple #[])∧u'=.returning∧w'=w:=by
 refine callsD_of_wpS Tryz.func41 rfl fun c₀ cs hu=>?_
 apply wpS_seq
 apply wpS_region
 simp [wpOpsS,go_sem,recoverD,hu,Tryz.ntmps41,Exit.thenS]
 apply wpS_of_wp
 go_wp2
 cases c₀
 simp_all [bodyPostS,results,Tryz.results41]
theorem assertD (v:Value)(w:World):(Instr.typeAssert (.iface 79 v) 20 79 true).run Tryz.prog w=.ok (.tuple #[v,.bool true]) w:=by kernel_rfl
set_option maxHeartbeats 4000000 in
theorem caughtD_mal (p:Nat)(er:Int)(x:Value)(older:List PanicEntry)(w:World)(hp:w.cell? ⟨p,0,none⟩=some x)(hpz:w.frozen? ⟨p,0,none⟩=false):
  CallsD Tryz.prog 41 #[.pointer (some ⟨p,0,none⟩)] (.panicking ({ v:=.iface 79 (.agg #[.int .i64 er]),recovered:=false }::older)) w fun e u' w'=>
   e=.returned (.tuple #[])∧u'=.panicking ({ v:=.iface 79 (.agg #[.int .i64 er]),recovered:=true }::older)∧w'=(w.setCell ⟨p,0,none⟩ (.int .i64 er)).alloc (.cells #[.int .i64 er] 79):=by
 have hta:=assertD
 have hpl:p<w.heap.size:=World.block_lt_of_cell? w ⟨p,0,none⟩ hp
 have hb:Below w.heap.size w (w.alloc (.cells #[.int .i64 er] 79)):=(Below.refl _ _).alloc (Nat.le_refl _) _
 have h1:(w.alloc (.cells #[.int .i64 er] 79)).cell? ⟨p,0,none⟩=some x:=(hb.cell (p:=⟨p,0,none⟩) hpl).trans hp
 have h2:(w.alloc (.cells #[.int .i64 er] 79)).frozen? ⟨p,0,none⟩=false:=(hb.frozen (p:=⟨p,0,none⟩) hpl).trans hpz
 clear hb
 refine callsD_of_wpS Tryz.func41 rfl fun c₀ cs hu=>?_
 apply wpS_seq
 apply wpS_region
 simp [wpOpsS,go_sem,recoverD,hu,Tryz.ntmps41,Exit.thenS]
 change Code.wpS Tryz.prog _ _ { tmps:=#[.pointer (some ⟨p,0,none⟩),.iface 79 (.agg #[.int .i64 er]),undef,undef,.iface 79 (.agg #[.int .i64 er]),undef,undef,undef,undef,undef,undef,undef,undef,undef,undef,undef,undef],defers:=[] } _ _
 apply wpS_of_wp
 go_wp2
 cases c₀
 simp [bodyPostS,results,Tryz.results41]
set_option maxHeartbeats 1000000 in
theorem attempt_meas (nb:Nat)(caps:Array Value)(er:Int)(PO:World→Prop)(w:World)(hnb:nb<w.heap.size)(hP1:∀W o,PO W→PO (W.alloc o))(hP2:∀W v,PO W→PO (W.setCell ⟨w.heap.size,0,none⟩ v))
  (HR:Hid (Calls Tryz.prog 24 caps (w.alloc (.cells #[.int .i64 0] 28)) fun e w'=>Keeps (KB nb) (w.alloc (.cells #[.int .i64 0] 28)) w'∧PO w'∧((er=0∧e=.returned (.tuple #[]))∨(er≠0∧e=failE er)))) :
  Calls Tryz.prog 23 #[.func (.func 24) #[] caps] w fun e w'=>e=.returned (.int .i64 er)∧Keeps (KB nb) w w'∧PO w':=by
 have hmf:∀(fn:Fn) (first cap:Array Value) (w:World),(Instr.makeFunc fn first cap).run Tryz.prog w=.ok (.func fn first cap) w:=fun _ _ _ _=>rfl
 have HK1:Hid (Keeps (KB nb) w (w.alloc (.cells #[.int .i64 0] 28))):=Lib.hid (keeps_alloc (Keeps.refl _ _) _)
 have HB1:Hid (Blk (w.alloc (.cells #[.int .i64 0] 28)) w.heap.size #[.int .i64 0]):=Lib.hid (Blk.fresh _ _ _)
 have HNP:Hid (¬KB nb w.heap.size):=Lib.hid (by unfold KB;omega)
 have HP1:=Lib.hid hP1
 have HP2:=Lib.hid hP2
 clear hnb hP1 hP2
 go_enter_defers Tryz.func23,Tryz.ntmps23
 go_wp2_with fail
 refine HR.out.mono ?_
 rintro e w2 ⟨hk2,hpo,⟨he,rfl⟩|⟨he,rfl⟩⟩
 ·obtain⟨x2,y2,z2⟩:=HB1.out.keeps hk2 HNP.out
  have c2:=x2 0
  have f2:=y2 0
  have HK2:=Lib.hid (HK1.out.trans hk2)
  have HPO:=Lib.hid hpo
  clear hk2 hpo HR HB1 x2 y2 z2
  go_wp2
  refine leaves_cons (f:=41) (args:=#[.pointer (some ⟨w.heap.size,0,none⟩)]) (by simp) (by simp [go_sem]) ?_
  refine(caughtD_idle _ _).mono ?_
  rintro e u' w'' ⟨rfl,rfl,rfl⟩
  have k1:(w2.setCell ⟨w.heap.size,0,none⟩ (.int .i64 0)).cell? ⟨w.heap.size,0,none⟩=some (.int .i64 0):=World.cell?_setCell_same' _ _ _ (by rw [c2];rfl)
  have HF:Hid (Keeps (KB nb) w (w2.setCell ⟨w.heap.size,0,none⟩ (.int .i64 0))∧PO (w2.setCell ⟨w.heap.size,0,none⟩ (.int .i64 0))):=Lib.hid ⟨keeps_set HK2.out (.inr (Nat.le_refl _)) _,HP2.out _ _ HPO.out⟩
  clear c2 f2 HK2 HPO HK1
  generalize w2.setCell ⟨w.heap.size,0,none⟩ (.int .i64 0)=V at *
  simp [Leaves,settle,results,Tryz.results23,go_sem,k1]
  exact⟨he.symm,HF.out.1,HF.out.2⟩
 ·obtain⟨x2,y2,z2⟩:=HB1.out.keeps hk2 HNP.out
  have c2:=x2 0
  have f2:=y2 0
  have HK2:=Lib.hid (HK1.out.trans hk2)
  have HPO:=Lib.hid hpo
  clear hk2 hpo HR HB1 x2 y2 z2
  unfold failE
  go_wp2
  refine leaves_cons (f:=41) (args:=#[.pointer (some ⟨w.heap.size,0,none⟩)]) (by simp) (by simp [go_sem]) ?_
  refine(caughtD_mal w.heap.size er _ [] w2 c2 f2).mono ?_
  rintro e u' w'' ⟨rfl,rfl,rfl⟩
  have d1:(w2.setCell ⟨w.heap.size,0,none⟩ (.int .i64 er)).cell? ⟨w.heap.size,0,none⟩=some (.int .i64 er):=World.cell?_setCell_same' _ _ _ (by rw [c2];rfl)
  have HF:Hid (Keeps (KB nb) w ((w2.setCell ⟨w.heap.size,0,none⟩ (.int .i64 er)).alloc (.cells #[.int .i64 er] 79))∧PO ((w2.setCell ⟨w.heap.size,0,none⟩ (.int .i64 er)).alloc (.cells #[.int .i64 er] 79))):=Lib.hid ⟨keeps_alloc (keeps_set HK2.out (.inr (Nat.le_refl _)) _) _,HP1.out _ _ (HP2.out _ _ HPO.out)⟩
  clear c2 f2 HK2 HPO HK1
  generalize w2.setCell ⟨w.heap.size,0,none⟩ (.int .i64 er)=U at *
  have k1:(U.alloc (.cells #[.int .i64 er] 79)).cell? ⟨w.heap.size,0,none⟩=some (.int .i64 er):=(((Below.refl U.heap.size U).alloc (Nat.le_refl _) (.cells #[.int .i64 er] 79)).cell (p:=⟨w.heap.size,0,none⟩) (World.block_lt_of_cell? U ⟨w.heap.size,0,none⟩ d1)).trans d1
  clear d1
  generalize U.alloc (.cells #[.int .i64 er] 79)=V at *
  simp [Leaves,settle,results,Tryz.results23,go_sem,k1]
  exact⟨HF.out.1,HF.out.2⟩
end
def ChgL (b:Nat)(A:Option Addr)(c:Nat)(ls:List (List Int))(D X O:Int)(w0:World)(r:Nat):Prop:=∀(m s a dep:Int) (w:World),Below b w0 w→Blk w b #[.slice A ls.length c,.int .i64 D,.int .i64 X,.int .i64 O,.int .i64 m] →
 0≤m→m≤4611686018427387904→0≤s→s≤1000→0≤a→a≤200000000000→0≤dep→dep≤901→(D-dep+1).toNat=r →
 Calls Tryz.prog 26 #[.pointer (some ⟨b,0,none⟩),.int .i64 s,.int .i64 a,.int .i64 dep] w fun e w'=>Keeps (KB b) w w'∧Blk w' b #[.slice A ls.length c,.int .i64 D,.int .i64 X,.int .i64 O,.int .i64 (valV ls r m s a).m]∧(((valV ls r m s a).e=0∧e=.returned (.tuple #[]))∨((valV ls r m s a).e≠0∧e=failE (valV ls r m s a).e))
set_option maxHeartbeats 4000000 in
theorem chargeKids_any (b:Nat)(A:Option Addr)(c:Nat)(ls:List (List Int))(D X O:Int)(w0:World)(r:Nat)(E:EnvD b A ls w0)(m:Int)(o:Ob)(dep:Int)(hV:0<(ptrO o).2→dep≤900∧ChgL b A c ls D X O w0 r)(w:World)(hb:Below b w0 w)(hk:Blk w b #[.slice A ls.length c,.int .i64 D,.int .i64 X,.int .i64 O,.int .i64 m])
  (hm0:0≤m) (hm1:m≤4611686018427387904) (ho:ObOK ls o) (hd0:0≤dep) (hd1:dep≤901) (hr:(D-dep).toNat=r) :
  Calls Tryz.prog 44 #[.pointer (some ⟨b,0,none⟩),.agg #[.int .i64 o.k,.int .i64 o.sg,.int .i64 o.at',.int .i64 o.d,.int .i64 o.p,.int .i64 o.el,.int .i64 o.n,.int .i64 o.cost],.int .i64 dep] w fun e w'=>Keeps (KB b) w w'∧Blk w' b #[.slice A ls.length c,.int .i64 D,.int .i64 X,.int .i64 O,.int .i64 (kidR (valV ls r) o m).m]∧(((kidR (valV ls r) o m).e=0∧e=.returned (.tuple #[]))∨((kidR (valV ls r) o m).e≠0∧e=failE (kidR (valV ls r) o m).e)):=by
 have hlt:=hk.lt
 obtain⟨x,y,hxy⟩:∃x y,ptrO o=(x,y):=⟨_,_,rfl⟩
 obtain⟨hx0,hx1,hy0,hy1⟩:=ptrO_bd ho hxy
 obtain⟨n,rfl⟩:=Int.eq_ofNat_of_zero_le hy0
 have hn1:n≤536870911:=by omega
 have hkR:kidR (valV ls r) o m=runK (fun (m:Int) (i:Nat)=>valV ls r m o.sg (x+(i:Int))) m n:=by unfold kidR;rw [hxy];simp
 rw [hkR]
 have hval:=valV_m E.wd E.m E.f r
 obtain⟨f,hf⟩:∃f:Int→Nat→Val,f=fun (m:Int) (i:Nat)=>valV ls r m o.sg (x+(i:Int)):=⟨_,rfl⟩
 have HMR:Hid (∀j,0≤(runK f m j).m∧(runK f m j).m≤m):=Lib.hid (fun j=>runK_ind (fun z=>0≤z∧z≤m) ⟨hm0,Int.le_refl _⟩ j (fun m' i _ hm=>by
  subst hf
  have:=hval m' o.sg (x+i) hm.1
  exact⟨this.1,Int.le_trans this.2 hm.2⟩))
 have HV:Hid (∀(R:Int) (j:Nat) (wr:World),Below b w0 wr→Blk wr b #[.slice A ls.length c,.int .i64 D,.int .i64 X,.int .i64 O,.int .i64 R]→0≤R→R≤m→j<n →
   Calls Tryz.prog 26 #[.pointer (some ⟨b,0,none⟩),.int .i64 o.sg,.int .i64 (x+j),.int .i64 (dep+1)] wr fun e w'=>Keeps (KB b) wr w'∧Blk w' b #[.slice A ls.length c,.int .i64 D,.int .i64 X,.int .i64 O,.int .i64 (f R j).m]∧(((f R j).e=0∧e=.returned (.tuple #[]))∨((f R j).e≠0∧e=failE (f R j).e))):=Lib.hid (fun R j wr h1 h2 h3 h4 h5=>by
  subst hf
  obtain⟨hdd,hVV⟩:=hV (by rw [hxy];show (0:Int)<n;omega)
  exact hVV R o.sg (x+j) (dep+1) wr h1 h2 h3 (by omega) (by have:=ho.sg;omega) (by have:=ho.sg;omega) (by omega) (by omega) (by omega) (by omega) (by rw [←hr];congr 1;omega))
 rw [←hf]
 have HPT:=Lib.hid (fun w2=>RPointers_is o.k o.sg o.at' o.d o.p o.el o.n o.cost x n w2 ho.at'.1 (by have:=ho.at';omega) ho.d.1 ho.d.2 hxy)
 have HB1:=Lib.hid ((Below.refl w.heap.size w).alloc (Nat.le_refl _) (.cells (obA o) 48))
 have HT1:=Lib.hid (hk.alloc (.cells (obA o) 48))
 have HO1:Hid (Blk (w.alloc (.cells (obA o) 48)) w.heap.size (obA o)):=Lib.hid (Blk.fresh _ _ _)
 have HB0:=Lib.hid (fun (wr:World) (h:Keeps (KB b) w wr)=>hb.trans (bel_keeps h (Nat.le_of_lt hlt)))
 have HL:Hid (b<w.heap.size):=Lib.hid hlt
 unfold obA at HB1 HT1 HO1
 clear hb hk hlt hkR hval hV hr ho hxy hy0 hy1 hf E
 obtain⟨x2,y2,z2⟩:=HO1.out
 go_enter Tryz.func44,Tryz.ntmps44
 go_wp2_with fail
 refine(HPT.out _).mono ?_
 rintro e w1 ⟨rfl,hb1⟩
 have HT3:=Lib.hid (HT1.out.below hb1)
 have HO3:=Lib.hid (HO1.out.below hb1)
 have HK3:Hid (Keeps (KB b) w w1):=Lib.hid (keeps_of (bel_on HB1.out hb1))
 clear HT1 HO1 HB1 hb1 x2 y2 z2 HPT
 go_wp2_with fail
 go_loopw [15] (fun i wr=>∃j:Nat,j≤n∧i=.int .i64 j∧(runK f m j).e=0∧Blk wr b #[.slice A ls.length c,.int .i64 D,.int .i64 X,.int .i64 O,.int .i64 (runK f m j).m]∧Keeps (KB b) w wr∧Blk wr w.heap.size #[.int .i64 o.k,.int .i64 o.sg,.int .i64 o.at',.int .i64 o.d,.int .i64 o.p,.int .i64 o.el,.int .i64 o.n,.int .i64 o.cost]) (fun i _=>n-(intOf i).toNat)
 case atStart=>exact⟨0,by omega,rfl,rfl,HT3.out,HK3.out,HO3.out⟩
 case round=>
  clear HT3 HO3 HK3
  obtain⟨j,hj,rfl,he,hbt,hkp,hbo⟩:=hrel
  have HRE:=Lib.hid he
  have HT:=Lib.hid hbt
  have HK:=Lib.hid hkp
  have HO:=Lib.hid hbo
  clear he hbt hkp
  by_cases hlt:j<n
  ·have hj1:(j:Int)<(n:Int):=by omega
   have hj2:(j:Int)<536870912:=by omega
   have HMJ:=Lib.hid (HMR.out j)
   have HNX:Hid (∀h:(f (runK f m j).m j).e=0,runK f m (j+1)=⟨(runK f m j).ks++[(f (runK f m j).m j).n],(f (runK f m j).m j).m,0⟩):=Lib.hid (fun h=>runK_ok HRE.out h)
   have HNO:Hid (∀h:(f (runK f m j).m j).e≠0,(runK f m n).m=(f (runK f m j).m j).m∧(runK f m n).e=(f (runK f m j).m j).e):=Lib.hid (fun h=>by
    have h1:=runK_no HRE.out h
    have h2:runK f m n=runK f m (j+1):=runK_keep (by rw [h1];exact h) (by omega)
    rw [h2,h1]
    exact⟨rfl,rfl⟩)
   obtain⟨x2,y2,z2⟩:=hbo
   go_wp2_with fail
   refine(HV.out (runK f m j).m j wr (HB0.out _ HK.out) HT.out HMJ.out.1 HMJ.out.2 hlt).mono ?_
   rintro e w4 ⟨hk4,hbt4,⟨he4,rfl⟩|⟨he4,rfl⟩⟩
   ·have HT4:=Lib.hid hbt4
    have HK4:=Lib.hid (HK.out.trans hk4)
    have HO4:=Lib.hid (HO.out.keeps hk4 (by have:=HL.out;unfold KB;omega))
    have HN4:=Lib.hid (HNX.out he4)
    clear hk4 hbt4 x2 y2 z2 HT HK HO HNX HNO he4
    generalize (f (runK f m j).m j).n=kx at *
    generalize (f (runK f m j).m j).m=m4 at *
    go_wp2
    go_roundw
    case rel=>exact⟨j+1,by omega,by go_num,by rw [HN4.out],by rw [HN4.out];exact HT4.out,HK4.out,HO4.out⟩
    case measure=>simp [intOf];omega
   ·obtain⟨h1,h2⟩:=HNO.out he4
    have HK4:=Lib.hid (HK.out.trans hk4)
    rw [←h1] at hbt4
    rw [←h2] at he4
    unfold failE
    go_wp2
    exact⟨rfl,HK4.out,hbt4,.inr ⟨he4,by rw [h2];rfl⟩⟩
  ·obtain rfl:j=n:=by omega
   go_wp2
   go_end0
   exact⟨HK.out,HT.out,.inl ⟨HRE.out,rfl⟩⟩
theorem contK_me (val:Int→Int→Int→Val)(ls:List (List Int))(m:Int)(o:Ob):(contK val ls m o).m=(kidR val o m).m∧(contK val ls m o).e=(kidR val o m).e:=by
 unfold contK
 by_cases h:(kidR val o m).e≠0
 ·rw [if_pos h]
  exact⟨rfl,rfl⟩
 ·rw [if_neg h]
  exact⟨rfl,(Classical.byContradiction fun g=>h (fun e=>g e.symm):(0:Int)=_)⟩
theorem runK_stay {f:Int→Nat→Val}{m:Int}(h:∀i,(f m i).m=m∧(f m i).e=0):∀n,(runK f m n).m=m∧(runK f m n).e=0
 | 0=>⟨rfl,rfl⟩
 | n+1=>by
  obtain⟨h1,h2⟩:=runK_stay h n
  have h3:=h n
  rw [runK_ok h2 (by rw [h1];exact h3.2),h1]
  exact⟨h3.1,rfl⟩
theorem elsR_noptr (val:Int→Int→Int→Val)(ls:List (List Int))(m:Int)(o:Ob)(hp:¬0<o.p):(elsR val ls o m).m=m∧(elsR val ls o m).e=0:=by
 unfold elsR
 refine runK_stay (fun i=>?_) _
 have hR:kidR val (eleO o i) m=⟨[],m,0⟩:=by
  have h0:ptrO (eleO o i)=(0,0):=by
   unfold ptrO eleO
   rw [if_neg (fun h=>hp h.2),if_neg (fun h=>absurd h.1 (by show (1:Int)≠2;decide))]
  unfold kidR
  rw [h0]
  rfl
 have h:=contK_me val ls m (eleO o i)
 rw [hR] at h
 exact h
theorem bodyK_me (val:Int→Int→Int→Val)(ls:List (List Int))(m:Int)(o:Ob):(o.el=7→(bodyK val ls m o).m=(elsR val ls o m).m∧(bodyK val ls m o).e=(elsR val ls o m).e)∧(o.el≠7→(bodyK val ls m o).m=(kidR val o m).m∧(bodyK val ls m o).e=(kidR val o m).e):=by
 refine⟨fun h=>?_,fun h=>?_⟩
 ·unfold bodyK
  rw [if_pos h]
  by_cases h:(elsR val ls o m).e≠0
  ·rw [if_pos h]
   exact⟨rfl,rfl⟩
  ·rw [if_neg h]
   exact⟨rfl,(Classical.byContradiction fun g=>h (fun e=>g e.symm):(0:Int)=_)⟩
 ·unfold bodyK
  rw [if_neg h]
  exact contK_me val ls m o
set_option maxHeartbeats 4000000 in
theorem charge_step (b:Nat)(A:Option Addr)(c:Nat)(ls:List (List Int))(D X O:Int)(w0:World)(r:Nat)(E:EnvD b A ls w0)(hD:D≤900)(hV:∀r',r=r'+1→ChgL b A c ls D X O w0 r'):ChgL b A c ls D X O w0 r:=by
 intro m s a dep w hb hk hm0 hm1 hs0 hs1 ha0 ha1 hd0 hd1 hr
 have hlt:=hk.lt
 have hVL:=valV_loc E.wd E.m E.f D m s a dep r hr
 have hOK:=loc_ok E.wd E.m E.f D m s a dep hm0
 have HOB:=Lib.hid (fun w2 h1 h2=>object_any b A c ls D X O w0 E m s a dep w2 h1 h2 hm0 hm1 hs0 hs1 ha0 ha1)
 generalize locD ls D m s a dep=L at *
 obtain⟨o,lm,le⟩:=L
 simp only at *
 have hr1:(D-dep).toNat=r-1:=by omega
 have hVr:dep≤D→ChgL b A c ls D X O w0 (r-1):=fun h=>hV (r-1) (by omega)
 have hval:=contK_m E.wd E.m E.f (r-1)
 have HCO:=Lib.hid (fun (he:le=0) (h7:o.el≠7) w2 h1 h2=>chargeKids_any b A c ls D X O w0 (r-1) E lm o dep (fun h=>⟨by have:=(hOK ⟨o,lm,le⟩ rfl he).2.2.2.2.1 h;omega,hVr ((hOK ⟨o,lm,le⟩ rfl he).2.2.2.2.1 h)⟩) w2 h1 h2 (hOK ⟨o,lm,le⟩ rfl he).2.1 (by have:lm≤m:=(hOK ⟨o,lm,le⟩ rfl he).2.2.1;omega) (hOK ⟨o,lm,le⟩ rfl he).1 hd0 hd1 hr1)
 obtain⟨f,hf⟩:∃f:Int→Nat→Val,f=fun (m:Int) (i:Nat)=>contK (valV ls (r-1)) ls m (eleO o (i:Int)):=⟨_,rfl⟩
 have HMR:Hid (le=0→∀j,0≤(runK f lm j).m∧(runK f lm j).m≤lm):=Lib.hid (fun he j=>runK_ind (fun z=>0≤z∧z≤lm) ⟨(hOK ⟨o,lm,le⟩ rfl he).2.1,Int.le_refl _⟩ j (fun m' i _ hm=>by
  subst hf
  have:=hval m' (eleO o (i:Int)) hm.1
  exact⟨this.1,Int.le_trans this.2 hm.2⟩))
 have HEL:Hid (le=0→o.el=7→∀(R:Int) (j:Nat) (wr:World),Below b w0 wr→Blk wr b #[.slice A ls.length c,.int .i64 D,.int .i64 X,.int .i64 O,.int .i64 R]→0≤R→R≤lm→(j:Int)<o.n →
   Calls Tryz.prog 44 #[.pointer (some ⟨b,0,none⟩),.agg #[.int .i64 1,.int .i64 o.sg,.int .i64 (o.at'+j*(o.d+o.p)),.int .i64 o.d,.int .i64 o.p,.int .i64 0,.int .i64 0,.int .i64 0],.int .i64 dep] wr fun e w'=>Keeps (KB b) wr w'∧Blk w' b #[.slice A ls.length c,.int .i64 D,.int .i64 X,.int .i64 O,.int .i64 (f R j).m]∧(((f R j).e=0∧e=.returned (.tuple #[]))∨((f R j).e≠0∧e=failE (f R j).e))):=Lib.hid (fun he h7 R j wr h1 h2 h3 h4 h5=>by
  have hq:=hOK ⟨o,lm,le⟩ rfl he
  have hlm:lm≤m:=hq.2.2.1
  have hdd:dep≤D:=(hq.2.2.2.2.2 h7).1
  subst hf
  obtain⟨e1,e2⟩:=contK_me (valV ls (r-1)) ls R (eleO o (j:Int))
  have:=chargeKids_any b A c ls D X O w0 (r-1) E R (eleO o (j:Int)) dep (fun _=>⟨by omega,hVr hdd⟩) wr h1 h2 h3 (by omega) ((hq.2.2.2.2.2 h7).2 j h5) hd0 (by omega) hr1
  rw [←e1,←e2] at this
  exact this)
 have HEM:=Lib.hid (fun (he:le=0) w2 (j:Nat) (hj:(j:Int)<o.n)=>RElement_any o.k o.sg o.at' o.d o.p o.el o.n o.cost j w2 (by omega) (by have:o.n≤536870911:=(hOK ⟨o,lm,le⟩ rfl he).1.n.2;omega) (hOK ⟨o,lm,le⟩ rfl he).1.at'.1 (hOK ⟨o,lm,le⟩ rfl he).2.2.2.1 (hOK ⟨o,lm,le⟩ rfl he).1.d.1 (hOK ⟨o,lm,le⟩ rfl he).1.d.2 (hOK ⟨o,lm,le⟩ rfl he).1.p.1 (hOK ⟨o,lm,le⟩ rfl he).1.p.2)
 have HON:Hid (le=0→0≤o.n∧o.n≤536870911):=Lib.hid (fun he=>(hOK ⟨o,lm,le⟩ rfl he).1.n)
 obtain⟨hb7,hb6⟩:=bodyK_me (valV ls (r-1)) ls lm o
 have hNP:=elsR_noptr (valV ls (r-1)) ls lm o
 have hER:elsR (valV ls (r-1)) ls o lm=runK f lm o.n.toNat:=by subst hf;rfl
 have hVE:le≠0→valV ls r m s a=errV lm le:=fun h=>by rw [hVL,if_pos h]
 have hVB:le=0→valV ls r m s a=bodyK (valV ls (r-1)) ls lm o:=fun h=>by rw [hVL,if_neg (by rw [h];simp)]
 rw [hER] at hb7 hNP
 have HVC:Hid (le=0→o.el≠7→(valV ls r m s a).m=(kidR (valV ls (r-1)) o lm).m∧(valV ls r m s a).e=(kidR (valV ls (r-1)) o lm).e):=Lib.hid (fun h h7=>by rw [hVB h];exact hb6 h7)
 have HVB:Hid (le=0→o.el=7→(valV ls r m s a).m=(runK f lm o.n.toNat).m∧(valV ls r m s a).e=(runK f lm o.n.toNat).e):=Lib.hid (fun h h7=>by rw [hVB h];exact hb7 h7)
 have HNP:=Lib.hid hNP
 have HVE:=Lib.hid hVE
 generalize valV ls r m s a=CV at *
 generalize kidR (valV ls (r-1)) o lm=KV at *
 have HB0:=Lib.hid (fun (wr:World) (h:Keeps (KB b) w wr)=>hb.trans (bel_keeps h (Nat.le_of_lt hlt)))
 have HT1:=Lib.hid hk
 have HNR:Hid (b<w.heap.size):=Lib.hid hlt
 clear hb hk hlt hm0 hm1 hs0 hs1 ha0 ha1 hd0 hd1 hr hV hVL hOK hr1 hVr hVE hVB hb7 hb6 hNP hER hf hval E hD
 go_enter Tryz.func26,Tryz.ntmps26
 go_wp2_with fail
 refine(HOB.out _ (HB0.out _ (Keeps.refl _ _)) HT1.out).mono ?_
 rintro e w3 ⟨hk3,hbt3,⟨hle,rfl⟩|⟨hle,rfl⟩⟩
 rotate_left
 ·have h1:=HVE.out hle
  unfold failE
  go_wp2
  rw [h1]
  exact⟨rfl,hk3,hbt3,.inr ⟨hle,rfl⟩⟩
 have HLE:=Lib.hid hle
 have HT3:=Lib.hid (hbt3.alloc (.cells #[.int .i64 o.k,.int .i64 o.sg,.int .i64 o.at',.int .i64 o.d,.int .i64 o.p,.int .i64 o.el,.int .i64 o.n,.int .i64 o.cost] 48))
 have HK3:=Lib.hid (keeps_alloc hk3 (.cells #[.int .i64 o.k,.int .i64 o.sg,.int .i64 o.at',.int .i64 o.d,.int .i64 o.p,.int .i64 o.el,.int .i64 o.n,.int .i64 o.cost] 48))
 have HO3:Hid (Blk (w3.alloc (.cells #[.int .i64 o.k,.int .i64 o.sg,.int .i64 o.at',.int .i64 o.d,.int .i64 o.p,.int .i64 o.el,.int .i64 o.n,.int .i64 o.cost] 48)) w3.heap.size #[.int .i64 o.k,.int .i64 o.sg,.int .i64 o.at',.int .i64 o.d,.int .i64 o.p,.int .i64 o.el,.int .i64 o.n,.int .i64 o.cost]):=Lib.hid (Blk.fresh _ _ _)
 have HZ3:Hid (b<w3.heap.size∧w.heap.size≤w3.heap.size):=Lib.hid ⟨hbt3.lt,hk3.size⟩
 clear hk3 hbt3 hle HT1 HOB HVE
 unfold obV
 obtain⟨x2,y2,z2⟩:=HO3.out
 by_cases h7:o.el=7
 ·have t7:(o.el != 7)=false:=by simpa using h7
  by_cases hp:0<o.p
  ·have HE1:=Lib.hid (HEL.out HLE.out h7)
   have HV1:=Lib.hid (HVB.out HLE.out h7)
   have HM1:=Lib.hid (HMR.out HLE.out)
   have HE2:=Lib.hid (HEM.out HLE.out)
   obtain⟨n0,n1⟩:=HON.out HLE.out
   obtain⟨n,hn⟩:=Int.eq_ofNat_of_zero_le n0
   have hn1:n≤536870911:=by omega
   clear h7 HEL HVB HVC HCO HNP HLE HMR HEM HON
   obtain⟨on,hon⟩:∃on,on=o.n:=⟨_,rfl⟩
   rw [←hon] at HE1 HV1 HE2 hn HT3 HK3 HO3 x2 n0 n1 ⊢
   subst hn
   rw [show ((n:Int)).toNat=n from rfl] at HV1
   clear hon
   go_wp2_with fail
   go_loopw [29] (fun i wr=>∃j:Nat,j≤n∧i=.int .i64 j∧(runK f lm j).e=0∧Blk wr b #[.slice A ls.length c,.int .i64 D,.int .i64 X,.int .i64 O,.int .i64 (runK f lm j).m]∧Keeps (KB b) w wr∧Blk wr w3.heap.size #[.int .i64 o.k,.int .i64 o.sg,.int .i64 o.at',.int .i64 o.d,.int .i64 o.p,.int .i64 o.el,.int .i64 n,.int .i64 o.cost]) (fun i _=>n-(intOf i).toNat)
   case atStart=>exact⟨0,by omega,rfl,rfl,HT3.out,HK3.out,HO3.out⟩
   case round=>
    clear HT3 HK3 HO3 x2 y2 z2
    obtain⟨j,hj,rfl,he,hbt,hkp,hbo⟩:=hrel
    have HRE:=Lib.hid he
    have HT:=Lib.hid hbt
    have HK:=Lib.hid hkp
    have HO:=Lib.hid hbo
    clear he hbt hkp
    by_cases hlt:j<n
    ·have hj1:(j:Int)<(n:Int):=by omega
     have hj2:(j:Int)<536870912:=by omega
     have HMJ:=Lib.hid (HM1.out j)
     have HNX:Hid (∀h:(f (runK f lm j).m j).e=0,runK f lm (j+1)=⟨(runK f lm j).ks++[(f (runK f lm j).m j).n],(f (runK f lm j).m j).m,0⟩):=Lib.hid (fun h=>runK_ok HRE.out h)
     have HNO:Hid (∀h:(f (runK f lm j).m j).e≠0,(runK f lm n).m=(f (runK f lm j).m j).m∧(runK f lm n).e=(f (runK f lm j).m j).e):=Lib.hid (fun h=>by
      have h1:=runK_no HRE.out h
      have h2:runK f lm n=runK f lm (j+1):=runK_keep (by rw [h1];exact h) (by omega)
      rw [h2,h1]
      exact⟨rfl,rfl⟩)
     obtain⟨x2,y2,z2⟩:=hbo
     go_wp2_with fail
     refine(HE2.out wr j hj1).mono ?_
     rintro e wd ⟨rfl,hbd⟩
     have HVJ:=Lib.hid (HE1.out (runK f lm j).m j wd)
     generalize o.at'+(j:Int)*(o.d+o.p)=a2 at HVJ ⊢
     have HTd:=Lib.hid (HT.out.below hbd)
     have HKd:=Lib.hid (keeps_on HK.out hbd)
     have HOd:=Lib.hid (HO.out.below hbd)
     clear HT HK HO hbd x2 y2 z2
     go_wp2_with fail
     refine(HVJ.out (HB0.out _ HKd.out) HTd.out HMJ.out.1 HMJ.out.2 hj1).mono ?_
     rintro e w4 ⟨hk4,hbt4,⟨he4,rfl⟩|⟨he4,rfl⟩⟩
     ·have HT4:=Lib.hid hbt4
      have HK4:=Lib.hid (HKd.out.trans hk4)
      have HO4:=Lib.hid (HOd.out.keeps hk4 (by have:=HZ3.out;unfold KB;omega))
      have HN4:=Lib.hid (HNX.out he4)
      clear hk4 hbt4 HTd HKd HOd HNX HNO he4 HVJ
      generalize (f (runK f lm j).m j).n=kx at *
      generalize (f (runK f lm j).m j).m=m4 at *
      go_wp2
      go_roundw
      case rel=>exact⟨j+1,by omega,by go_num,by rw [HN4.out],by rw [HN4.out];exact HT4.out,HK4.out,HO4.out⟩
      case measure=>simp [intOf];omega
     ·obtain⟨h1,h2⟩:=HNO.out he4
      have HK4:=Lib.hid (HKd.out.trans hk4)
      rw [←h1,←HV1.out.1] at hbt4
      rw [←h2,←HV1.out.2] at he4
      have h3:CV.e=(f (runK f lm j).m j).e:=HV1.out.2.trans h2
      unfold failE
      go_wp2
      exact⟨rfl,HK4.out,hbt4,.inr ⟨he4,by rw [h3];rfl⟩⟩
    ·obtain rfl:j=n:=by omega
     go_wp2
     go_end0
     refine⟨HK.out,by rw [HV1.out.1];exact HT.out,.inl ⟨by rw [HV1.out.2];exact HRE.out,rfl⟩⟩
  ·have HV1:=Lib.hid (HVB.out HLE.out h7)
   have HN1:=Lib.hid (HNP.out (by omega))
   clear h7 HEL HVB HVC HCO HNP HLE HMR HEM HON
   have t8:decide (0<o.p)=false:=decide_eq_false hp
   go_wp2
   go_end0
   refine⟨HK3.out,by rw [HV1.out.1,HN1.out.1];exact HT3.out,.inl ⟨by rw [HV1.out.2,HN1.out.2],rfl⟩⟩
 ·have t7:(o.el != 7)=true:=by simpa using h7
  have HC:=Lib.hid (HCO.out HLE.out h7)
  have HCV:=Lib.hid (HVC.out HLE.out h7)
  clear h7 HEL HVB HVC HCO HNP HLE HMR HEM HON
  go_wp2_with fail
  refine(HC.out _ (HB0.out _ HK3.out) HT3.out).mono ?_
  rintro e w5 ⟨hk5,hbt5,⟨he5,rfl⟩|⟨he5,rfl⟩⟩
  ·have HK5:=Lib.hid (HK3.out.trans hk5)
   rw [←HCV.out.1] at hbt5
   rw [←HCV.out.2] at he5
   have HT5:=Lib.hid hbt5
   have HE5:=Lib.hid he5
   clear hk5 hbt5 he5
   go_wp2
   go_end0
   exact⟨HK5.out,HT5.out,.inl ⟨HE5.out,rfl⟩⟩
  ·have HKK:=HK3.out.trans hk5
   have h1:=HCV.out
   rw [←h1.1] at hbt5
   rw [←h1.2] at he5
   unfold failE
   go_wp2
   exact⟨rfl,HKK,hbt5,.inr ⟨he5,by rw [h1.2];rfl⟩⟩
theorem charge_any (b:Nat)(A:Option Addr)(c:Nat)(ls:List (List Int))(D X O:Int)(w0:World)(E:EnvD b A ls w0)(hD:D≤900):∀r,ChgL b A c ls D X O w0 r
 | 0=>charge_step b A c ls D X O w0 0 E hD (fun r' h=>by omega)
 | r+1=>charge_step b A c ls D X O w0 (r+1) E hD (fun r' h=>by
  obtain rfl:r=r':=by omega
  exact charge_any b A c ls D X O w0 E hD r)
section
section
attribute [local simp] AllK KnowsV look Is
theorem wp_region_t6_1 {P:Program}{id:Nat}{o0 o1 o2 o3 o4 o5 t0:Oper}(late:List Nat){Q:Exit→Act→World→Prop}{a:Act}{w:World}(hm:P.follows .mixedOrders=true)(hB:chainTB a.tmps.size late [o0,o1,o2,o3,o4,o5] [t0]=true)
  (h:ChainT P #[o0,o1,o2,o3,o4,o5,t0] late a w.drew (fun a w=>wpList P #[o0,o1,o2,o3,o4,o5,t0] (OnlyN fun a w=>Q .normal a w) [t0] a w) [o0,o1,o2,o3,o4,o5] 0 [] []):(Code.region id #[o0,o1,o2,o3,o4,o5,t0] true).wp P Q a w:=
 wp_region_t [o0,o1,o2,o3,o4,o5] [t0] late rfl (by simp) hm hB h
theorem BUsed2 (d x o m:Int)(w:World)(hm0:0≤m)(hm1:m≤9223372036854775807)(hx2:x≤9223372036854775807):
  Calls Tryz.prog 27 #[.agg #[.int .i64 d,.int .i64 x,.int .i64 o],.agg #[.int .i64 m]] w fun e w'=>e=.returned (.int .i64 (startI x-m))∧Below w.heap.size w w':=by
 have hs0:0≤startI x:=by unfold startI;split<;>omega
 have hs1:startI x≤9223372036854775807:=by unfold startI;split<;>omega
 go_enter Tryz.func27,Tryz.ntmps27
 go_wp2_with fail
 have z0:=blk_alloc (blk_new w #[.int .i64 d,.int .i64 x,.int .i64 o] 24) (by simp) (.cells #[.int .i64 m] 65)
 have z1:=blk_new (w.alloc (.cells #[.int .i64 d,.int .i64 x,.int .i64 o] 24)) #[.int .i64 m] 65
 have B1:Below w.heap.size w ((w.alloc (.cells #[.int .i64 d,.int .i64 x,.int .i64 o] 24)).alloc (.cells #[.int .i64 m] 65)):=((Below.refl _ _).alloc (Nat.le_refl _) _).alloc (by simp) _
 have HB1:=Lib.hid B1
 clear B1
 rename_i KK hKK
 refine wp_region_chain (by kernel_rfl) (by kernel_rfl) ?_
 refine chain_val (u:=?_) [2] rfl (by kernel_rfl) trivial (fun ρ wc hbc hcn hk=>?_) ?_;rotate_left
 ·obtain⟨hcn,-⟩:=hcn
  simp at hk
  obtain⟨hcc,-⟩:=bcell hbc
  simp at hcc
  go_simp
  rfl
 refine chain_call (T:=Is ?_) 42 [5] rfl (by kernel_rfl) trivial (stable_is _) (fun ρ wc hbc hcn hk=>?_) ?_;rotate_left
 ·obtain⟨hcn,hfn⟩:=hcn
  simp at hk
  refine⟨_,by go_simp;rfl,?_⟩
  refine(BStart_any _ _ _ _).mono ?_
  rintro e w' ⟨rfl,hbq⟩
  refine⟨_,rfl,?_,hbq⟩
  unfold Is
  rfl
 refine chain_val (u:=?_) [6] rfl (by kernel_rfl) trivial (fun ρ wc hbc hcn hk=>?_) ?_;rotate_left
 ·obtain⟨hcn,-⟩:=hcn
  simp at hk
  go_simp
  rfl
 refine chain_val (u:=?_) [3] rfl (by kernel_rfl) trivial (fun ρ wc hbc hcn hk=>?_) ?_;rotate_left
 ·obtain⟨hcn,-⟩:=hcn
  simp at hk
  go_simp
  rfl
 refine chain_val (u:=?_) [8] rfl (by kernel_rfl) trivial (fun ρ wc hbc hcn hk=>?_) ?_;rotate_left
 ·obtain⟨hcn,-⟩:=hcn
  simp at hk
  obtain⟨hcc,-⟩:=bcell hbc
  simp at hcc
  go_simp
  rfl
 refine chain_val (u:=?_) [7,9] rfl (by kernel_rfl) trivial (fun ρ wc hbc hcn hk=>?_) ?_;rotate_left
 ·obtain⟨hcn,-⟩:=hcn
  simp at hk
  go_simp
  rfl
 refine chain_val (u:=?_) [10] rfl (by kernel_rfl) trivial (fun ρ wc hbc hcn hk=>?_) ?_;rotate_left
 ·obtain⟨hcn,-⟩:=hcn
  simp at hk
  go_simp
  rfl
 refine chain_end_lit 11 rfl (fun ff w5 hb5 hk=>?_)
 refine hKK _ _ ?_
 clear hKK KK
 simp [AllN] at hk
 simp only [frameL,hk]
 have HB5:=Lib.hid hb5
 clear hb5 hk
 go_wp2
 go_ret
 have hw:IntKind.i64.wrap (startI x-m)=startI x-m:=by rw [IntKind.wrap_i64];omega
 exact⟨by simp [hw],(bel_drew HB1.out).trans (HB5.out.mono (bel_drew HB1.out).size)⟩
set_option maxHeartbeats 4000000 in
theorem measRun (s l nb:Nat)(A:Option Addr)(c:Nat)(ls:List (List Int))(D X O:Int)(w:World)(hT:TabOK w)(hs:Sg w A ls)(hw:Wd2 ls)(hm:ls.length≤40)(hf:∀j,(seg ls j).length≤20000000)(hD:D≤900)(hX:X≤1000000)
  (h1:Blk w s #[.slice A ls.length c]) (h2:Blk w l #[.int .i64 D,.int .i64 X,.int .i64 O]) (h3:Blk w nb #[.int .i64 0]) (hln:l≠nb) :
  Calls Tryz.prog 24 #[.pointer (some ⟨s,0,none⟩),.pointer (some ⟨l,0,none⟩),.pointer (some ⟨nb,0,none⟩)] w fun e w'=>Keeps (KB nb) w w'∧Blk w' nb #[.int .i64 (measV ls D X).1] ∧
   (((measV ls D X).2=0∧e=.returned (.tuple #[]))∨((measV ls D X).2≠0∧e=failE (measV ls D X).2)):=by
 have hx0:0≤startI X∧startI X≤1000000:=by unfold startI;split<;>omega
 have HST:=Lib.hid (start_any A c ls D X O w hT hs hw hm hf hD)
 have hmv:=measV_nulL ls D X
 have HVA:Hid (∀b A2 c2 w0 W,EnvD b A2 (nulL ls) w0→Below b w0 W→Blk W b #[.slice A2 (nulL ls).length c2,.int .i64 D,.int .i64 X,.int .i64 O,.int .i64 (startI X)] →
   Calls Tryz.prog 26 #[.pointer (some ⟨b,0,none⟩),.int .i64 0,.int .i64 0,.int .i64 1] W fun e w'=>Keeps (KB b) W w'∧Blk w' b #[.slice A2 (nulL ls).length c2,.int .i64 D,.int .i64 X,.int .i64 O,.int .i64 (valV (nulL ls) D.toNat (startI X) 0 0).m] ∧
    (((valV (nulL ls) D.toNat (startI X) 0 0).e=0∧e=.returned (.tuple #[]))∨((valV (nulL ls) D.toNat (startI X) 0 0).e≠0∧e=failE (valV (nulL ls) D.toNat (startI X) 0 0).e))∧(0≤(valV (nulL ls) D.toNat (startI X) 0 0).m∧(valV (nulL ls) D.toNat (startI X) 0 0).m≤startI X)):=Lib.hid (fun b A2 c2 w0 W E hb hk=>
  (charge_any b A2 c2 (nulL ls) D X O w0 E hD D.toNat (startI X) 0 0 1 W hb hk hx0.1 (by omega) (by omega) (by omega) (by omega) (by omega) (by omega) (by omega) (by congr 1;omega)).mono fun e w' h=>⟨h.1,h.2.1,h.2.2,valV_m E.wd E.m E.f D.toNat (startI X) 0 0 hx0.1⟩)
 generalize valV (nulL ls) D.toNat (startI X) 0 0=sv at *
 generalize measV ls D X=mv at *
 have HM1:Hid (sv.e≠0→mv=(0,sv.e)):=Lib.hid (fun h=>by rw [hmv,if_pos h])
 have HM2:Hid (sv.e=0→mv=(startI X-sv.m,0)):=Lib.hid (fun h=>by rw [hmv,if_neg (by rw [h];simp)])
 have HXX:=Lib.hid hX
 clear hmv
 have HN3:=Lib.hid h3
 have HL3:=Lib.hid h2
 have hnb:=h3.lt
 have hlb:=h2.lt
 clear hT hs hw hf hD hX
 obtain⟨x1,y1,z1⟩:=h1
 obtain⟨x2,y2,z2⟩:=h2
 go_enter Tryz.func24,Tryz.ntmps24
 go_wp2_with fail
 refine HST.out.mono ?_
 rintro e w3 ⟨b,A2,c2,ls2,w0,rfl,rfl,E,hb0,hk,hz,hbel⟩
 have HB3:=Lib.hid hbel
 have HN4:=Lib.hid (HN3.out.below hbel)
 have HL4:=Lib.hid (HL3.out.below hbel)
 have HV:=Lib.hid (HVA.out b A2 c2 w0 w3 E hb0 hk)
 have hne:b≠nb:=by omega
 have hne2:b≠l:=by omega
 have HZ:Hid (w.heap.size≤b∧w.heap.size≤w3.heap.size):=Lib.hid ⟨hz,hbel.size⟩
 clear hb0 hk E hz hbel x1 y1 z1 x2 y2 z2 HST HVA HN3 HL3 h3
 go_wp2_with fail
 refine HV.out.mono ?_
 rintro e w4 ⟨hk4,hbt4,⟨he4,rfl⟩|⟨he4,rfl⟩,hsm⟩
 rotate_left
 ·have HB4:=HB3.out.trans (bel_of_keeps hk4 HZ.out.2 HZ.out.1)
  have HN5:=HN4.out.keeps hk4 (by unfold KB;omega)
  have h5:=HM1.out he4
  unfold failE
  go_wp2
  rw [h5]
  exact⟨rfl,keeps_of HB4,HN5,.inr ⟨he4,rfl⟩⟩
 have HB4:=Lib.hid (HB3.out.trans (bel_of_keeps hk4 HZ.out.2 HZ.out.1))
 have HN5:=Lib.hid (HN4.out.keeps hk4 (by unfold KB;omega))
 have HL5:=Lib.hid (HL4.out.keeps hk4 (by unfold KB;omega))
 have HT5:=Lib.hid hbt4
 have H5:=Lib.hid (HM2.out he4)
 have HUS:=Lib.hid (fun w2=>BUsed2 D X O sv.m w2 hsm.1 (by omega) (by have:=HXX.out;omega))
 clear HM1 HM2 hk4 he4 hbt4 HV HN4 HL4 HB3 hsm HXX
 go_wp2_with fail
 refine wp_region_t6_1 [] (by kernel_rfl) (by kernel_rfl) ?_
 refine t_val (u:=?_) [1] (by kernel_rfl) rfl (by kernel_rfl) trivial (fun ρ wc hbc hcn hq=>?_) ?_;rotate_left
 ·obtain⟨hcn,hfn⟩:=hcn
  simp at hq
  have x1:=(HL5.out.drew.below hbc).cell
  have x2:=(HT5.out.drew.below hbc).cell
  go_simp
  rfl
 refine t_val (u:=?_) [3] (by kernel_rfl) rfl (by kernel_rfl) trivial (fun ρ wc hbc hcn hq=>?_) ?_;rotate_left
 ·obtain⟨hcn,hfn⟩:=hcn
  simp at hq
  go_simp
  rfl
 refine t_val (u:=?_) [10] (by kernel_rfl) rfl (by kernel_rfl) trivial (fun ρ wc hbc hcn hq=>?_) ?_;rotate_left
 ·obtain⟨hcn,hfn⟩:=hcn
  simp at hq
  go_simp
  rfl
 refine t_val (u:=?_) [11] (by kernel_rfl) rfl (by kernel_rfl) trivial (fun ρ wc hbc hcn hq=>?_) ?_;rotate_left
 ·obtain⟨hcn,hfn⟩:=hcn
  simp at hq
  go_simp
  rfl
 refine t_val (u:=?_) [12] (by kernel_rfl) rfl (by kernel_rfl) trivial (fun ρ wc hbc hcn hq=>?_) ?_;rotate_left
 ·obtain⟨hcn,hfn⟩:=hcn
  simp at hq
  have x1:=(HL5.out.drew.below hbc).cell
  have x2:=(HT5.out.drew.below hbc).cell
  go_simp
  rfl
 refine t_call (T:=Is (.int .i64 (startI X-sv.m))) (Is (.int .i64 (startI X-sv.m))) 27 [9,13] (by kernel_rfl) rfl (by kernel_rfl) trivial (stable_is _) (free_is _) (fun _ _ h=>h) (fun ρ wc hbc hcn hq=>?_) ?_
 ·obtain⟨hcn,hfn⟩:=hcn
  simp at hq
  refine⟨_,by go_simp;rfl,?_⟩
  refine(HUS.out _).mono ?_
  rintro e w' ⟨rfl,hbq⟩
  exact⟨_,rfl,rfl,hbq⟩
 refine t_end_lit 15 rfl (fun ff w5 hb5 hk=>?_)
 have hb5':=bel_undrew hb5
 have HN6:=Lib.hid (HN5.out.below hb5')
 have HB6:=Lib.hid (bel_on HB4.out hb5')
 clear hb5 hb5' HN5 HL5 HT5 HB4 HUS
 simp [AllN] at hk
 simp only [frameL,hk,Nat.zero_add,Nat.reduceAdd]
 clear hk
 obtain⟨x3,y3,z3⟩:=HN6.out
 go_wp2_with fail
 refine⟨rfl,?_⟩
 go_wp2_with fail
 refine abs_post (F:=fun W=>Blk W nb #[.int .i64 (startI X-sv.m)]∧Keeps (KB nb) w W) ⟨?_,?_⟩ ?_
 ·exact HN6.out.set 0 (by simp) _
 ·exact keeps_set (p:=⟨nb,0,none⟩) (keeps_of HB6.out) (.inl rfl) _
 rintro V ⟨B6,hkv⟩
 go_end0
 refine⟨hkv,?_,?_⟩
 ·rw [H5.out]
  exact B6
 ·rw [H5.out]
  exact .inl ⟨rfl,rfl⟩
end
set_option maxHeartbeats 4000000 in
theorem measure_any (A:Option Addr)(c:Nat)(ls:List (List Int))(D X O:Int)(w:World)(hT:TabOK w)(hs:Sg w A ls)(hw:Wd2 ls)(hm:ls.length≤40)(hf:∀j,(seg ls j).length≤20000000)(hD:D≤900)(hX:X≤1000000):
  Calls Tryz.prog 14 #[.slice A ls.length c,.agg #[.int .i64 D,.int .i64 X,.int .i64 O]] w fun e w'=>e=.returned (.tuple #[.int .i64 (measV ls D X).1,.int .i64 (measV ls D X).2])∧Below w.heap.size w w':=by
 have hmf:∀(fn:Fn) (first cap:Array Value) (w:World),(Instr.makeFunc fn first cap).run Tryz.prog w=.ok (.func fn first cap) w:=fun _ _ _ _=>rfl
 have HB1:=Lib.hid ((((Below.refl w.heap.size w).alloc (Nat.le_refl _) (.cells #[.slice A ls.length c] 22)).alloc (by simp) (.cells #[.int .i64 D,.int .i64 X,.int .i64 O] 24)).alloc (by simp;omega) (.cells #[.int .i64 0] 3))
 have HS1:Hid (Blk (((w.alloc (.cells #[.slice A ls.length c] 22)).alloc (.cells #[.int .i64 D,.int .i64 X,.int .i64 O] 24)).alloc (.cells #[.int .i64 0] 3)) w.heap.size #[.slice A ls.length c]):=Lib.hid (((Blk.fresh _ _ _).alloc _).alloc _)
 have HL1:Hid (Blk (((w.alloc (.cells #[.slice A ls.length c] 22)).alloc (.cells #[.int .i64 D,.int .i64 X,.int .i64 O] 24)).alloc (.cells #[.int .i64 0] 3)) (w.heap.size+1) #[.int .i64 D,.int .i64 X,.int .i64 O]):=Lib.hid ((Blk.new (by simp)).alloc _)
 have HN1:Hid (Blk (((w.alloc (.cells #[.slice A ls.length c] 22)).alloc (.cells #[.int .i64 D,.int .i64 X,.int .i64 O] 24)).alloc (.cells #[.int .i64 0] 3)) (w.heap.size+1+1) #[.int .i64 0]):=Lib.hid (Blk.new (by simp))
 have HALL:Hid (∀W:World,W.heap.size=w.heap.size+1+1+1→Below w.heap.size w W→Blk W w.heap.size #[.slice A ls.length c]→Blk W (w.heap.size+1) #[.int .i64 D,.int .i64 X,.int .i64 O]→Blk W (w.heap.size+1+1) #[.int .i64 0] →
   Calls Tryz.prog 23 #[.func (.func 24) #[] #[.pointer (some ⟨w.heap.size,0,none⟩),.pointer (some ⟨w.heap.size+1,0,none⟩),.pointer (some ⟨w.heap.size+1+1,0,none⟩)]] W fun e w'=>e=.returned (.int .i64 (measV ls D X).2)∧Keeps (KB (w.heap.size+1+1)) W w'∧Blk w' (w.heap.size+1+1) #[.int .i64 (measV ls D X).1]):=Lib.hid (fun W hz hb k1 k2 k3=>
  attempt_meas (w.heap.size+1+1) _ _ _ W (by omega) (fun V o h=>h.alloc o) (fun V u h=>h.other (p:=⟨W.heap.size,0,none⟩) (by show W.heap.size≠_;omega) u) (Lib.hid (by
   have hbb:=hb.alloc hb.size (.cells #[.int .i64 0] 28)
   exact measRun w.heap.size (w.heap.size+1) (w.heap.size+1+1) A c ls D X O (W.alloc (.cells #[.int .i64 0] 28)) (hT.on hbb) (hs.below hbb (Nat.le_refl _)) hw hm hf hD hX (k1.alloc _) (k2.alloc _) (k3.alloc _) (by omega))))
 generalize measV ls D X=mv at *
 clear hT hs hw hm hf hD hX
 go_enter Tryz.func14,Tryz.ntmps14
 go_wp2_with fail
 refine(HALL.out _ (by simp) HB1.out HS1.out HL1.out HN1.out).mono ?_
 rintro e w2 ⟨rfl,hk2,hmp⟩
 have HB2:=Lib.hid (HB1.out.trans (bel_of_keeps (N:=w.heap.size) hk2 (by simp;omega) (by omega)))
 clear HALL HB1 HS1 HL1 HN1 hk2
 have HN:=Lib.hid hmp
 obtain⟨x3,y3,z3⟩:=hmp
 go_wp2_with fail
 refine abs_post (F:=fun W=>Blk W (w.heap.size+1+1) #[.int .i64 mv.1]∧Below w.heap.size w W) ⟨?_,?_⟩ ?_
 ·exact HN.out.set 0 (by simp) _
 ·exact Below.setCell HB2.out (by show w.heap.size≤w.heap.size+1+1;omega) _
 rintro V ⟨B6,hbv⟩
 exact bodyPost_ret (v:=.tuple #[.int .i64 mv.1,.int .i64 mv.2]) (by simp [results,Tryz.results14,go_sem,B6.cell]) rfl ⟨rfl,hbv⟩
end
theorem DMeasure_any (A:Option Addr)(c:Nat)(ls:List (List Int))(D X O:Int)(w:World)(hT:TabOK w)(hs:Sg w A ls)(hw:Wd2 ls)(hm:ls.length≤40)(hf:∀j,(seg ls j).length≤20000000)(hD:D≤900)(hX:X≤1000000):
  Calls Tryz.prog 14 #[.slice A ls.length c,.agg #[.int .i64 D,.int .i64 X,.int .i64 O]] w fun e w'=>e=.returned (.tuple #[.int .i64 (measV ls D X).1,.int .i64 (measV ls D X).2])∧Below w.heap.size w w':=
 measure_any A c ls D X O w hT hs hw hm hf hD hX
end Go.Proofs.YtfaflahfjgnphaaGreatDoor
