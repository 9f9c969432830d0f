/- The texts Ref10, Den2, Ref12m, Den3, DenM, Write3, Write4, Eq, DenE, Byt0 (what is wanted of them), one after the other. -/
import Derived.Test.YtfaflahfjgnphaaGreatDoorMg23
import Derived.Test.YtfaflahfjgnphaaGreatDoorMg28
namespace Go.Proofs.YtfaflahfjgnphaaGreatDoor
open Go.ChangeShapes Go.WideShapes Go.ChangeAt Go.RowKit
set_option linter.unusedVariables false
set_option linter.unusedSimpArgs false
set_option maxRecDepth 100000
theorem targN_def (k e n:Int)(d:List Int)(ks:List Nd):targN (.mk k e n d ks)=if k=2∧e=7 then kk ks else ks:=rfl
theorem runK_all {f:Int→Nat→Val}{m:Int}(Q:Nd→Prop):∀n,(∀m i,i<n→(f m i).e=0→Q (f m i).n)→∀y∈(runK f m n).ks,Q y
 | 0,_,y,hy=>by cases hy
 | n+1,hs,y,hy=>by
  have ih:=runK_all (f:=f) (m:=m) Q n (fun m i hi=>hs m i (by omega))
  by_cases h1:(runK f m n).e=0
  ·by_cases h2:(f (runK f m n).m n).e=0
   ·rw [runK_ok h1 h2] at hy
    rcases List.mem_append.1 hy with h|h
    ·exact ih y h
    ·rw [List.mem_singleton] at h
     subst h
     exact hs _ n (by omega) h2
   ·rw [runK_no h1 h2] at hy
    cases hy
  ·rw [runK_keep h1 (Nat.le_succ n)] at hy
   exact ih y hy
theorem validK_allD {k e:Int}:∀ks:List Nd,(∀y∈ks,validN y=true∧(k=2→e=7→y.k=1))→validK k e ks=true
 | [],_=>by simp [validK]
 | x::xs,h=>by
  have h1:=h x (List.mem_cons_self ..)
  have h2:=validK_allD (k:=k) (e:=e) xs (fun y hy=>h y (List.mem_cons_of_mem _ hy))
  simp only [validK,h1.1,h2,Bool.true_and,Bool.and_true,Bool.not_eq_true',decide_eq_false_iff_not]
  intro h3
  exact h3.2.2 (h1.2 h3.1 h3.2.1)
theorem valid_nd0:validN nd0=true:=by decide
theorem datW_le (ls:List (List Int))(s a n:Int):(datW ls s a n).length≤n.toNat:=by
 unfold datW
 split
 ·unfold sliceL
  rw [List.length_take]
  omega
 ·simp
theorem trimL_twice (b:List Int)(e c:Int):trimL (trimL b e c) e c=trimL b e c:=by
 apply ext_zat
 ·rw [trimL_length,trimL_length]
 ·intro i hi
  rw [trimL_length] at hi
  rw [trimL_zat _ _ _ _ hi,trimL_zat _ _ _ _ hi]
  unfold trimAt
  rw [trimL_zat _ _ _ _ hi]
  unfold trimAt
  split
  ·rw [Int.emod_emod_of_dvd _ (Int.dvd_refl _)]
  ·rfl
theorem structV_valid {val:Int→Int→Int→Val}(hv:∀m s a,validN (val m s a).n=true)(ls:List (List Int))(m:Int)(o:Ob)(h1:0≤o.d)(h2:o.d≤65535)(h3:0≤o.p)(h4:o.p≤65535):
  validN (structV val ls m o).n=true∧((structV val ls m o).e=0→(structV val ls m o).n.k=1):=by
 unfold structV
 split
 ·rename_i h
  exact⟨valid_nd0,fun h0=>absurd h0 h⟩
 ·rename_i h
  have h0:(runK (fun m i=>val m o.sg (o.at'+o.d+i)) m o.p.toNat).e=0:=Classical.byContradiction h
  have hl:=runK_length h0
  have hk:validK 1 0 (runK (fun m i=>val m o.sg (o.at'+o.d+i)) m o.p.toNat).ks=true:=validK_allD _ fun y hy=>⟨runK_all (fun y=>validN y=true) _ (fun m i _ _=>hv _ _ _) y hy,fun h=>by omega⟩
  have hd:=datW_le ls o.sg o.at' o.d
  refine⟨?_,fun _=>rfl⟩
  show (validK 1 0 _&&headB 1 0 0 _ _)=true
  rw [hk,Bool.true_and]
  unfold headB
  rw [if_neg (by omega),if_pos rfl,decide_eq_true_iff,bytesOf_length,hl]
  omega
theorem listV_valid {val:Int→Int→Int→Val}(hv:∀m s a,validN (val m s a).n=true)(ls:List (List Int))(m:Int)(o:Ob)(h1:0≤o.d)(h2:o.d≤65535)(h3:0≤o.p)(h4:o.p≤65535)(h5:0≤o.n)(h6:o.n≤536870911)(h7:6≤o.el)(h8:o.el≤7):
  validN (listV val ls m o).n=true:=by
 unfold listV
 split
 ·exact valid_nd0
 ·rename_i h
  have h0:(runK (elemV val ls o) m o.n.toNat).e=0:=Classical.byContradiction h
  have hl:=runK_length h0
  have hk:validK 2 o.el (runK (elemV val ls o) m o.n.toNat).ks=true:=validK_allD _ fun y hy=>runK_all (fun y=>validN y=true∧((2:Int)=2→o.el=7→y.k=1)) _ (fun m i _=>by
   unfold elemV
   split
   ·rename_i h9
    exact fun _=>⟨hv _ _ _,fun _ h=>by omega⟩
   ·have h9:=structV_valid hv ls m (eleO o i) h1 h2 h3 h4
    exact fun he=>⟨h9.1,fun _ _=>h9.2 he⟩) y hy
  show (validK 2 o.el _&&headB 2 o.el o.n [] _)=true
  rw [hk,Bool.true_and]
  unfold headB
  rw [if_neg (by omega),if_neg (by omega),if_pos rfl,decide_eq_true_iff,hl]
  refine⟨h5,h6,by omega,h8,fun _=>⟨rfl,by omega⟩,fun h=>by omega⟩
theorem valV_valid {ls:List (List Int)}(hw:Wd2 ls)(hm:ls.length≤40)(hf:∀j,(seg ls j).length≤20000000):∀r m s a,validN (valV ls r m s a).n=true
 | 0,m,s,a=>by
  unfold valV
  split<;>exact valid_nd0
 | r+1,m,s,a=>by
  have ih:=fun m s a=>valV_valid hw hm hf r m s a
  have hb:=objF_num hw hm hf s a rfl
  unfold valV
  split
  ·exact valid_nd0
  ·unfold bodyV
   generalize objF ls s a=q at *
   split
   ·exact valid_nd0
   ·split
    ·exact valid_nd0
    ·split
     ·exact(structV_valid ih ls _ q.1 (by omega) (by omega) (by omega) (by omega)).1
     ·split
      ·rename_i h
       have hz:=trimL_length (bytesOf (datW ls q.1.sg q.1.at' q.1.cost)) q.1.el q.1.n
       have hy:0≤bytesI q.1.el q.1.n:=by
        have:=bitsI_mul q.1.el q.1.n (by omega)
        unfold bytesI
        omega
       show (validK 2 q.1.el []&&headB 2 q.1.el q.1.n _ [])=true
       unfold headB
       rw [if_neg (by omega),if_neg (by omega),if_pos rfl]
       simp only [validK,Bool.true_and]
       rw [decide_eq_true_iff,trimL_twice,hz]
       refine⟨by omega,by omega,by omega,by omega,fun h=>by omega,fun _=>⟨rfl,by omega,rfl⟩⟩
      ·exact listV_valid ih ls _ q.1 (by omega) (by omega) (by omega) (by omega) (by omega) (by omega) (by omega) (by omega)
theorem runK_size {f:Int→Nat→Val}{m b:Int}(hb:0≤b):∀n,(∀m i,i<n→(f m i).m≤m∧(sizeN (f m i).n:Int)≤b+10*(m-(f m i).m))→(runK f m n).m≤m∧(sizeK (runK f m n).ks:Int)≤n*b+10*(m-(runK f m n).m)
 | 0,_=>⟨Int.le_refl _,by simp [runK,sizeK]⟩
 | n+1,hs=>by
  have ih:=runK_size (f:=f) (m:=m) hb n (fun m i hi=>hs m i (by omega))
  have hnb:((n+1:Nat):Int)*b=n*b+b:=by rw [Int.natCast_add,Int.add_mul];simp
  by_cases h1:(runK f m n).e=0
  ·have h3:=hs (runK f m n).m n (by omega)
   by_cases h2:(f (runK f m n).m n).e=0
   ·rw [runK_ok h1 h2,hnb]
    simp only [sizeK_append,sizeK,Nat.add_zero,Int.natCast_add]
    omega
   ·rw [runK_no h1 h2,hnb]
    have h4:0≤(n:Int)*b:=Int.mul_nonneg (by omega) hb
    simp only [sizeK]
    omega
  ·rw [runK_keep h1 (Nat.le_succ n),hnb]
   omega
theorem sizeN_mk (k e n:Int)(d:List Int)(ks:List Nd):sizeN (.mk k e n d ks)=1+d.length+sizeK ks:=by simp [sizeN]
theorem structV_size {val:Int→Int→Int→Val}(hv:∀m s a,(val m s a).m≤m∧(sizeN (val m s a).n:Int)≤1+10*(m-(val m s a).m))(ls:List (List Int))(m:Int)(o:Ob)(h1:0≤o.d)(h3:0≤o.p):
  (structV val ls m o).m≤m∧(sizeN (structV val ls m o).n:Int)≤1+8*o.d+o.p+10*(m-(structV val ls m o).m):=by
 have hr:=runK_size (f:=fun m i=>val m o.sg (o.at'+o.d+i)) (m:=m) (b:=1) (by omega) o.p.toNat (fun m i _=>hv _ _ _)
 have hd:=datW_le ls o.sg o.at' o.d
 unfold structV
 split
 ·refine⟨hr.1,?_⟩
  show (1:Int)≤1+8*o.d+o.p+10*(m-(runK (fun m i=>val m o.sg (o.at'+o.d+i)) m o.p.toNat).m)
  omega
 ·refine⟨hr.1,?_⟩
  show ((sizeN (.mk 1 0 0 (bytesOf (datW ls o.sg o.at' o.d)) (runK (fun m i=>val m o.sg (o.at'+o.d+i)) m o.p.toNat).ks):Nat):Int)≤1+8*o.d+o.p+10*(m-(runK (fun m i=>val m o.sg (o.at'+o.d+i)) m o.p.toNat).m)
  rw [sizeN_mk,bytesOf_length]
  omega
theorem listV_size {val:Int→Int→Int→Val}(hv:∀m s a,(val m s a).m≤m∧(sizeN (val m s a).n:Int)≤1+10*(m-(val m s a).m))(ls:List (List Int))(m:Int)(o:Ob)(h1:0≤o.d)(h3:0≤o.p)(h5:0≤o.n):
  (listV val ls m o).m≤m∧(sizeN (listV val ls m o).n:Int)≤1+o.n*(1+8*o.d+o.p)+10*(m-(listV val ls m o).m):=by
 have hr:=runK_size (f:=elemV val ls o) (m:=m) (b:=1+8*o.d+o.p) (by omega) o.n.toNat (fun m i _=>by
  unfold elemV
  split
  ·have:=hv m o.sg (o.at'+i);omega
  ·exact structV_size hv ls m (eleO o i) h1 h3)
 have hn:((o.n.toNat:Nat):Int)=o.n:=by omega
 rw [hn] at hr
 have h6:0≤o.n*(1+8*o.d+o.p):=Int.mul_nonneg h5 (by omega)
 unfold listV
 split
 ·refine⟨hr.1,?_⟩
  show (1:Int)≤1+o.n*(1+8*o.d+o.p)+10*(m-(runK (elemV val ls o) m o.n.toNat).m)
  omega
 ·refine⟨hr.1,?_⟩
  show ((sizeN (.mk 2 o.el o.n [] (runK (elemV val ls o) m o.n.toNat).ks):Nat):Int)≤1+o.n*(1+8*o.d+o.p)+10*(m-(runK (elemV val ls o) m o.n.toNat).m)
  rw [sizeN_mk]
  simp only [List.length_nil]
  omega
theorem objF_cover {ls:List (List Int)}(hw:Wd2 ls)(hm:ls.length≤40)(hf:∀j,(seg ls j).length≤20000000)(s a:Int)(q:Ob×Int)(hq:objF ls s a=q)(h1:¬q.2≠0):
  (q.1.k=1→8*q.1.d+q.1.p≤10*q.1.cost)∧(¬q.1.k=1→q.1.n*(1+8*q.1.d+q.1.p)≤10*q.1.cost∨q.1.el<6)∧(¬q.1.k=1→q.1.el<6→bytesI q.1.el q.1.n≤8*q.1.cost):=by
 have h:=objF_cases hw (by omega) (fun j=>by have:=hf j;omega) s a
 rw [hq] at h
 obtain⟨⟨k,sg,at',d,p,el,n,cost⟩,e⟩:=q
 simp only [ob0,Ob.mk.injEq] at h h1 ⊢
 rcases h with ⟨⟨rfl,rfl,rfl,rfl,rfl,rfl,rfl,rfl⟩,h4⟩|⟨-,rfl,rfl,rfl,h5,h6,h7,h8,rfl,h9⟩|⟨-,rfl,h4,h5,h6,h7,rfl,rfl,rfl,h8⟩|⟨-,rfl,rfl,h4,h5,h6,h7,h8,h9,c,h10,h11,h12,h13,rfl⟩
 ·exact⟨fun h=>by omega,fun _=>.inr (by omega),fun _ _=>by show (0:Int)≤_;omega⟩
 ·exact⟨fun _=>by omega,fun h=>absurd rfl h,fun h=>absurd rfl h⟩
 ·have hb:=bitsI_mul el n h6
  refine⟨fun h=>by omega,fun _=>?_,fun _ hl=>?_⟩
  ·by_cases hl:el<6
   ·exact .inr hl
   ·have he:el=6:=by omega
    subst he
    left
    unfold wordsI bitsI
    simp
    omega
  ·unfold wordsI bytesI
   rw [if_neg (by omega)]
   omega
 ·refine⟨fun h=>by omega,fun _=>.inl ?_,fun _ h=>by omega⟩
  have e1:n*(1+8*d+p)=n+8*(n*d)+n*p:=by rw [Int.mul_add,Int.mul_add,Int.mul_one,←Int.mul_assoc,Int.mul_comm n 8,Int.mul_assoc]
  have e2:n*(d+p)=n*d+n*p:=Int.mul_add _ _ _
  have h14:0≤n*d:=Int.mul_nonneg h4 h6
  have h15:0≤n*p:=Int.mul_nonneg h4 h8
  rw [e1]
  split
  ·omega
  ·rename_i hdp
   have h16:n*1≤n*(d+p):=Int.mul_le_mul_of_nonneg_left (by omega) h4
   omega
theorem valV_size {ls:List (List Int)}(hw:Wd2 ls)(hm:ls.length≤40)(hf:∀j,(seg ls j).length≤20000000):∀r m s a,(valV ls r m s a).m≤m∧(sizeN (valV ls r m s a).n:Int)≤1+10*(m-(valV ls r m s a).m)
 | 0,m,s,a=>by
  unfold valV
  split<;>exact⟨Int.le_refl _,by show (1:Int)≤1+10*(m-m);omega⟩
 | r+1,m,s,a=>by
  have ih:=fun m s a=>valV_size hw hm hf r m s a
  have hb:=objF_num hw hm hf s a rfl
  have hc:=objF_cover hw hm hf s a _ rfl
  unfold valV
  split
  ·exact⟨Int.le_refl _,by show (1:Int)≤1+10*(m-m);omega⟩
  ·unfold bodyV
   generalize objF ls s a=q at *
   split
   ·exact⟨Int.le_refl _,by show (1:Int)≤1+10*(m-m);omega⟩
   ·rename_i h1
    have hc:=hc h1
    split
    ·exact⟨Int.le_refl _,by show (1:Int)≤1+10*(m-m);omega⟩
    ·split
     ·rename_i h3
      have h4:=structV_size ih ls (m-q.1.cost) q.1 (by omega) (by omega)
      have h5:=hc.1 h3
      omega
     ·rename_i h3
      split
      ·rename_i h4
       have h5:=hc.2.2 h3 h4
       refine⟨by show m-q.1.cost≤m;omega,?_⟩
       show ((sizeN (.mk 2 q.1.el q.1.n (trimL (bytesOf (datW ls q.1.sg q.1.at' q.1.cost)) q.1.el q.1.n) []):Nat):Int)≤1+10*(m-(m-q.1.cost))
       rw [sizeN_mk,trimL_length]
       simp only [sizeK]
       omega
      ·rename_i h4
       have h5:=(hc.2.1 h3).resolve_right h4
       have h6:=listV_size ih ls (m-q.1.cost) q.1 (by omega) (by omega) (by omega)
       omega
section
attribute [local simp] AllK KnowsV look Is
def msgV (ls:List (List Int))(D X:Int):Nd×Int:=if 0<ls.length∧(seg ls 0).length=0 then (nd0,0) else if (valV ls D.toNat (startI X) 0 0).e≠0 then (nd0,(valV ls D.toNat (startI X) 0 0).e) else (trimN (valV ls D.toNat (startI X) 0 0).n,0)
set_option maxHeartbeats 8000000 in
set_option maxRecDepth 100000 in
theorem RefMessage12_some (A:Option Addr)(c:Nat)(ls:List (List Int))(D X O:Int)(hw:Wd2 ls)(hm:ls.length≤40)(hf:∀j,(seg ls j).length≤20000000)(hD:D≤900)(hX:X≤1000000)(w:World)(hs:Sg w A ls)(hz:¬(seg ls 0).length=0)(hl:0<ls.length):
  Calls Tryz.prog 17 #[.slice A ls.length c,.agg #[.int .i64 D,.int .i64 X,.int .i64 O]] w fun e w'=>∃v,e=.returned (.tuple #[v,.int .i64 (msgV ls D X).2])∧NodF w.heap.size (msgV ls D X).1 v w'∧Below w.heap.size w w':=by
 have hx0:0≤startI X∧startI X≤1000000:=by unfold startI;split<;>omega
 have Hs:=Lib.hid hs
 have HVC:=Lib.hid (fun w' hs'=>RefValue12 A c ls D X O hw hm hf hD D.toNat (startI X) 0 0 1 w' hs' hx0.1 (by omega) (by omega) (by omega) (by congr 1;omega))
 have HSZ:=Lib.hid (valV_size hw hm hf D.toNat (startI X) 0 0)
 have HVA:=Lib.hid (valV_valid hw hm hf D.toNat (startI X) 0 0)
 have HVM:=Lib.hid (valV_m hw hm hf D.toNat (startI X) 0 0 hx0.1)
 have HMS:Hid (msgV ls D X=if (valV ls D.toNat (startI X) 0 0).e≠0 then (nd0,(valV ls D.toNat (startI X) 0 0).e) else (trimN (valV ls D.toNat (startI X) 0 0).n,0)):=Lib.hid (by unfold msgV;rw [if_neg (by omega)])
 generalize valV ls D.toNat (startI X) 0 0=sv at *
 generalize msgV ls D X=mv at *
 obtain⟨b,off,A',c',rfl,hc,-,-,-,-⟩:=(((Hs.out.below ((Below.refl _ _).alloc (Nat.le_refl _) (.cells #[.int .i64 D,.int .i64 X,.int .i64 O] 24)) (Nat.le_refl _)).below ((Below.refl _ _).alloc (Nat.le_refl _) (.cells #[.int .i64 0,.int .i64 0,.int .i64 0,.slice none 0 0,.slice none 0 0] 53)) (Nat.le_refl _))).one hl
 simp only [Nat.add_zero] at hc
 have t1:decide ((0:Int)<ls.length)=true:=decide_eq_true (by omega)
 have t2:(((seg ls 0).length:Int)==0)=false:=beq_eq_false_iff_ne.2 (by omega)
 clear hs hw hf
 generalize (seg ls 0).length=l0 at *
 go_enter Tryz.func17,Tryz.ntmps17
 go_wp2_with fail
 refine abs_code10 (F:=fun W=>Blk W w.heap.size #[.int .i64 D,.int .i64 X,.int .i64 O]∧Blk W (w.heap.size+1) #[.int .i64 0,.int .i64 0,.int .i64 0,.slice none 0 0,.slice none 0 0]∧Below w.heap.size w W) ⟨?_,?_,?_⟩ ?_
 ·exact(Blk.fresh _ _ _).alloc _
 ·exact Blk.new (by simp)
 ·exact((Below.refl _ _).alloc (Nat.le_refl _) _).alloc (by simp) _
 rintro W ⟨h0,h1,hb⟩
 have K1:=Lib.hid h1
 have hz1:=h1.lt
 obtain⟨x0,y0,z0⟩:=h0
 refine wp_region_u11_3 [7,8] (by kernel_rfl) (by kernel_rfl) ?_
 refine u_val (u:=?_) [0] (by kernel_rfl) rfl (by kernel_rfl) (fun _=>trivial) (fun av ρ wc hbc hcn hq=>?_) ?_;rotate_left
 ·obtain⟨hcn,-⟩:=hcn
  simp at hq
  obtain⟨hcc,-⟩:=bcell hbc
  simp at hcc
  go_simp
  rfl
 refine u_val (u:=?_) [3] (by kernel_rfl) rfl (by kernel_rfl) (fun _=>trivial) (fun av ρ wc hbc hcn hq=>?_) ?_;rotate_left
 ·obtain⟨hcn,-⟩:=hcn
  simp at hq
  obtain⟨hcc,-⟩:=bcell hbc
  simp at hcc
  go_simp
  rfl
 refine u_val (u:=?_) [3] (by kernel_rfl) rfl (by kernel_rfl) (fun _=>trivial) (fun av ρ wc hbc hcn hq=>?_) ?_;rotate_left
 ·obtain⟨hcn,-⟩:=hcn
  simp at hq
  obtain⟨hcc,-⟩:=bcell hbc
  simp at hcc
  go_simp
  rfl
 refine u_call (T:=fun _=>Is (.agg #[.int .i64 (startI X)])) (Is (.agg #[.int .i64 (startI X)])) 35 [23] (by kernel_rfl) rfl (by kernel_rfl) (fun _=>trivial) (stableU_of (stable_is _)) (free_is _) (fun _ _ _ h=>h) (fun av ρ wc hav hbc hcn hq=>?_) ?_
 ·obtain⟨hcn,hfn⟩:=hcn
  simp at hq
  refine⟨_,by go_simp;rfl,?_⟩
  refine(RefStart_any D X O _).mono ?_
  rintro e w' ⟨rfl,hbq⟩
  exact⟨_,rfl,rfl,hbq⟩
 refine u_call (T:=Tup3Av W.heap.size sv.n (.agg #[.int .i64 sv.m]) (.int .i64 sv.e)) (Tup3W (.agg #[.int .i64 sv.m]) (.int .i64 sv.e)) 34 [21,22,24] (by kernel_rfl) rfl (by kernel_rfl) (fun _=>trivial) (stable_tup3Av _ _ _ _) (free_tup3W _ _) (fun _ _ _ h=>h.w) (fun av ρ wc hav hbc hcn hq=>?_) ?_
 ·obtain⟨hcn,hfn⟩:=hcn
  simp at hq
  refine⟨_,by go_simp;rfl,?_⟩
  refine(HVC.out wc (Hs.out.below (bel_on (bel_drew hb) hbc) (Nat.le_refl _))).mono ?_
  rintro e w' ⟨v,rfl,hn,hbq⟩
  exact⟨_,rfl,⟨v,rfl,NodAv.of hn hav hbc.size⟩,hbq⟩
 refine u_new (T:=Tup3Av W.heap.size sv.n (.agg #[.int .i64 sv.m]) (.int .i64 sv.e)) (Tup3W (.agg #[.int .i64 sv.m]) (.int .i64 sv.e)) [25] (by kernel_rfl) rfl (by kernel_rfl) (fun _=>trivial) (stable_tup3Av _ _ _ _) (free_tup3W _ _) (fun _ _ _ h=>h.w) (fun av ρ wc hav hbc hcn hq=>?_) ?_
 ·obtain⟨hcn,hfn⟩:=hcn
  simp at hq
  exact⟨ρ (.tmp 25),wc,by go_simp,hq,Below.refl _ _⟩
 refine u_new (T:=NodAv W.heap.size sv.n) Any [20] (by kernel_rfl) rfl (by kernel_rfl) (fun _=>trivial) (stable_nodAv _ _) free_any (fun _ _ _ _=>trivial) (fun av ρ wc hav hbc hcn hq=>?_) ?_
 ·obtain⟨hcn,hfn⟩:=hcn
  simp at hq
  obtain⟨x,hx,hn⟩:=hq
  exact⟨x,wc,by go_simp,hn,Below.refl _ _⟩
 refine u_pure (u:=.agg #[.int .i64 sv.m]) [20] (by kernel_rfl) rfl (by kernel_rfl) rfl (fun ρ wc hcn hq=>?_) ?_
 ·obtain⟨hcn,hfn⟩:=hcn
  simp at hq
  obtain⟨x,hx⟩:=hq
  go_simp
 refine u_pure (u:=.int .i64 sv.e) [20] (by kernel_rfl) rfl (by kernel_rfl) rfl (fun ρ wc hcn hq=>?_) ?_
 ·obtain⟨hcn,hfn⟩:=hcn
  simp at hq
  obtain⟨x,hx⟩:=hq
  go_simp
 refine u_alloc (T:=VarAv W.heap.size #[.int .i64 0,.int .i64 0,.int .i64 0,.slice none 0 0,.slice none 0 0]) Any [] (by kernel_rfl) rfl (by kernel_rfl) (fun _=>trivial) (stable_varAv _ _) free_any (fun _ _ _ _=>trivial) (fun av ρ wc hav hbc hcn hq=>?_) ?_
 ·obtain⟨hcn,-⟩:=hcn
  exact⟨.pointer (some ⟨wc.heap.size,0,none⟩),wc.alloc (.cells #[.int .i64 0,.int .i64 0,.int .i64 0,.slice none 0 0,.slice none 0 0] 53),by go_simp,⟨_,List.mem_cons_self ..,rfl,hbc.size,Blk.fresh _ _ _⟩,(Below.refl _ _).alloc (Nat.le_refl _) _,by simp⟩
 refine u_alloc (T:=VarAv W.heap.size #[.int .i64 0]) Any [] (by kernel_rfl) rfl (by kernel_rfl) (fun _=>trivial) (stable_varAv _ _) free_any (fun _ _ _ _=>trivial) (fun av ρ wc hav hbc hcn hq=>?_) ?_
 ·obtain⟨hcn,-⟩:=hcn
  exact⟨.pointer (some ⟨wc.heap.size,0,none⟩),wc.alloc (.cells #[.int .i64 0] 65),by go_simp,⟨_,List.mem_cons_self ..,rfl,hbc.size,Blk.fresh _ _ _⟩,(Below.refl _ _).alloc (Nat.le_refl _) _,by simp⟩
 refine u_end_lit 35 rfl (fun av ff w4 hav hb7 hq=>?_)
 have h26:NodAv W.heap.size sv.n av (ff 26) w4:=allN_atF hq 26 (by decide) (by decide)
 have h6:VarAv W.heap.size #[.int .i64 0,.int .i64 0,.int .i64 0,.slice none 0 0,.slice none 0 0] av (ff 6) w4:=allN_atF hq 6 (by decide) (by decide)
 have h7:VarAv W.heap.size #[.int .i64 0] av (ff 7) w4:=allN_atF hq 7 (by decide) (by decide)
 have hb4:Below W.heap.size W w4:=⟨hb7.os,hb7.tape,hb7.output,hb7.size,hb7.block⟩
 simp [AllN] at hq
 simp only [frameL,hq,Nat.zero_add,Nat.reduceAdd]
 clear hq hb7 x0 y0 z0
 obtain⟨Ak,ck,Bk,ek,lok,hik,e26,hlk,hhk,hok,hapart⟩:=h26
 obtain⟨b6,m6,e6,hb6,hv6⟩:=h6
 obtain⟨b7,m7,e7,hb7,hv7⟩:=h7
 have a6:=hapart b6 m6
 have a7:=hapart b7 m7
 generalize ff 20=u20
 generalize ff 25=u25
 generalize ff 26=u26 at *
 generalize ff 6=u6 at *
 generalize ff 7=u7 at *
 subst e26 e6 e7
 have n1:b6≠b7:=by
  rintro rfl
  have h1:=hv6.cell 1
  rw [hv7.cell 1] at h1
  simp at h1
 have n2:b7≠b6:=fun h=>n1 h.symm
 have k1:=h1.below hb4
 have K1:=Lib.hid k1
 have HB:=Lib.hid (bel_on hb hb4)
 have hsz4:=hb4.size
 have HNK:=Lib.hid hok
 have K6:=Lib.hid hv6
 have K7:=Lib.hid hv7
 clear h1 hb hb4 hok hapart m6 m7 hav
 obtain⟨x6,y6,z6⟩:=hv6
 obtain⟨x7,y7,z7⟩:=hv7
 obtain⟨x1,y1,z1⟩:=k1
 have n3:b6≠w.heap.size+1:=by omega
 have n4:b7≠w.heap.size+1:=by omega
 by_cases he:sv.e=0
 ·have HE:=Lib.hid he
  have t3:(sv.e != 0)=false:=by rw [he];rfl
  rw [if_neg (by rw [he];simp)] at HMS
  clear he
  go_wp2_with fail
  refine⟨rfl,?_⟩
  go_wp2_with fail
  refine abs_world (F:=fun V=>Blk V (w.heap.size+1) #[.int .i64 0,.int .i64 0,.int .i64 0,.slice none 0 0,.slice none 0 0]∧NdR V Ak ck Bk ek sv.n∧Below w.heap.size w V) ⟨?_,?_,?_⟩ ?_
  ·exact(((((K1.out.other (by simp;omega) _).other (by simp;omega) _).other (by simp;omega) _).other (by simp;omega) _).other (by simp;omega) _).other (by simp;omega) _
  ·refine(HNK.out.to fun g h1 h2=>?_).nd
   rw [Below.heap_setCell _ _ _ _ (by simp;omega),Below.heap_setCell _ _ _ _ (by simp;omega),Below.heap_setCell _ _ _ _ (by simp;omega),Below.heap_setCell _ _ _ _ (by simp;omega),Below.heap_setCell _ _ _ _ (by simp;omega),Below.heap_setCell _ _ _ _ (by simp;omega)]
  ·refine Below.setCell (Below.setCell (Below.setCell (Below.setCell (Below.setCell (Below.setCell HB.out ?_ _) ?_ _) ?_ _) ?_ _) ?_ _) ?_ _<;>(simp;omega)
  clear K1 HB HNK K6 K7 x6 y6 z6 x7 y7 z7 x1 y1 z1
  rintro V ⟨h1,hnk,hbv⟩
  refine(RefTrim11_node sv.n Ak ck Bk ek V hnk (by have:=HSZ.out;have:=HVM.out;omega) HVA.out).mono ?_
  rintro e V2 ⟨v,rfl,⟨At,ct,Bt,et,hit,rfl,hht,hot⟩,hbt⟩
  have B1:=h1.below hbt
  have HB:=Lib.hid (hbv.trans (hbt.mono hbv.size))
  have K1:=Lib.hid B1
  have hl1:=h1.lt
  have HOT:=Lib.hid hot
  clear h1 hnk hbv hbt hot
  obtain⟨x1,y1,z1⟩:=B1
  go_wp2_with fail
  refine abs_post (F:=fun U=>Blk U (w.heap.size+1) #[.int .i64 (trimN sv.n).k,.int .i64 (trimN sv.n).e,.int .i64 (trimN sv.n).n,.slice At (trimN sv.n).d.length ct,.slice Bt (trimN sv.n).ks.length et]∧NodF V.heap.size (trimN sv.n) (.agg #[.int .i64 (trimN sv.n).k,.int .i64 (trimN sv.n).e,.int .i64 (trimN sv.n).n,.slice At (trimN sv.n).d.length ct,.slice Bt (trimN sv.n).ks.length et]) U∧Below w.heap.size w U) ⟨?_,?_,?_⟩ ?_
  ·exact((((K1.out.set 0 (by simp) _).set 1 (by simp) _).set 2 (by simp) _).set 3 (by simp) _).set 4 (by simp) _
  ·refine⟨At,ct,Bt,et,hit,rfl,by simpa [World.setCell] using hht,HOT.out.to fun g h1 h2=>?_⟩
   rw [Below.heap_setCell _ _ _ _ (by simp;omega),Below.heap_setCell _ _ _ _ (by simp;omega),Below.heap_setCell _ _ _ _ (by simp;omega),Below.heap_setCell _ _ _ _ (by simp;omega),Below.heap_setCell _ _ _ _ (by simp;omega)]
  ·refine Below.setCell (Below.setCell (Below.setCell (Below.setCell (Below.setCell HB.out ?_ _) ?_ _) ?_ _) ?_ _) ?_ _<;>(simp)
  rintro U ⟨B6,hnt,hbw⟩
  exact bodyPost_ret (v:=.tuple #[.agg #[.int .i64 (trimN sv.n).k,.int .i64 (trimN sv.n).e,.int .i64 (trimN sv.n).n,.slice At (trimN sv.n).d.length ct,.slice Bt (trimN sv.n).ks.length et],.int .i64 0]) (by simp [results,Tryz.results17,go_sem,B6.cell]) rfl ⟨_,by rw [HMS.out],by rw [HMS.out];exact hnt.lower (by omega),hbw⟩
 ·have t3:(sv.e != 0)=true:=bne_iff_ne.2 he
  rw [if_pos he] at HMS
  clear he
  go_wp2_with fail
  refine⟨rfl,?_⟩
  go_wp2_with fail
  refine abs_post (F:=fun U=>Blk U (w.heap.size+1) #[.int .i64 0,.int .i64 0,.int .i64 0,.slice none 0 0,.slice none 0 0]∧Below w.heap.size w U) ⟨?_,?_⟩ ?_
  ·have h:=(((((K1.out.other (p:=⟨b6,0,none⟩) (by simp;omega) (.int .i64 sv.n.k)).other (p:=⟨b6,1,none⟩) (by simp;omega) (.int .i64 sv.n.e)).other (p:=⟨b6,2,none⟩) (by simp;omega) (.int .i64 sv.n.n)).other (p:=⟨b6,3,none⟩) (by simp;omega) (.slice Ak sv.n.d.length ck)).other (p:=⟨b6,4,none⟩) (by simp;omega) (.slice Bk sv.n.ks.length ek)).other (p:=⟨b7,0,none⟩) (by simp;omega) (.int .i64 sv.m)
   exact((((h.set 0 (by simp) _).set 1 (by simp) _).set 2 (by simp) _).set 3 (by simp) _).set 4 (by simp) _
  ·refine Below.setCell (Below.setCell (Below.setCell (Below.setCell (Below.setCell (Below.setCell (Below.setCell (Below.setCell (Below.setCell (Below.setCell (Below.setCell HB.out ?_ _) ?_ _) ?_ _) ?_ _) ?_ _) ?_ _) ?_ _) ?_ _) ?_ _) ?_ _) ?_ _<;>(simp;try omega)
  rintro U ⟨B6,hbw⟩
  exact bodyPost_ret (v:=.tuple #[.agg #[.int .i64 0,.int .i64 0,.int .i64 0,.slice none 0 0,.slice none 0 0],.int .i64 sv.e]) (by simp [results,Tryz.results17,go_sem,B6.cell]) rfl ⟨_,by rw [HMS.out],by rw [HMS.out];exact nod_zero _ _,hbw⟩
set_option maxHeartbeats 8000000 in
set_option maxRecDepth 100000 in
theorem RefMessage12_none (A:Option Addr)(c:Nat)(ls:List (List Int))(D X O:Int)(hw:Wd2 ls)(hm:ls.length≤40)(hf:∀j,(seg ls j).length≤20000000)(hD:D≤900)(hX:X≤1000000)(w:World)(hs:Sg w A ls)(hl:ls.length=0):
  Calls Tryz.prog 17 #[.slice A ls.length c,.agg #[.int .i64 D,.int .i64 X,.int .i64 O]] w fun e w'=>∃v,e=.returned (.tuple #[v,.int .i64 (msgV ls D X).2])∧NodF w.heap.size (msgV ls D X).1 v w'∧Below w.heap.size w w':=by
 have hx0:0≤startI X∧startI X≤1000000:=by unfold startI;split<;>omega
 have Hs:=Lib.hid hs
 have HVC:=Lib.hid (fun w' hs'=>RefValue12 A c ls D X O hw hm hf hD D.toNat (startI X) 0 0 1 w' hs' hx0.1 (by omega) (by omega) (by omega) (by congr 1;omega))
 have HSZ:=Lib.hid (valV_size hw hm hf D.toNat (startI X) 0 0)
 have HVA:=Lib.hid (valV_valid hw hm hf D.toNat (startI X) 0 0)
 have HVM:=Lib.hid (valV_m hw hm hf D.toNat (startI X) 0 0 hx0.1)
 have HMS:Hid (msgV ls D X=if (valV ls D.toNat (startI X) 0 0).e≠0 then (nd0,(valV ls D.toNat (startI X) 0 0).e) else (trimN (valV ls D.toNat (startI X) 0 0).n,0)):=Lib.hid (by unfold msgV;rw [if_neg (by omega)])
 generalize valV ls D.toNat (startI X) 0 0=sv at *
 generalize msgV ls D X=mv at *
 have t1:¬((0:Int)<ls.length):=by omega
 clear hs hw hf hl
 go_enter Tryz.func17,Tryz.ntmps17
 go_wp2_with fail
 refine abs_code10 (F:=fun W=>Blk W w.heap.size #[.int .i64 D,.int .i64 X,.int .i64 O]∧Blk W (w.heap.size+1) #[.int .i64 0,.int .i64 0,.int .i64 0,.slice none 0 0,.slice none 0 0]∧Below w.heap.size w W) ⟨?_,?_,?_⟩ ?_
 ·exact(Blk.fresh _ _ _).alloc _
 ·exact Blk.new (by simp)
 ·exact((Below.refl _ _).alloc (Nat.le_refl _) _).alloc (by simp) _
 rintro W ⟨h0,h1,hb⟩
 have K1:=Lib.hid h1
 have hz1:=h1.lt
 obtain⟨x0,y0,z0⟩:=h0
 refine wp_region_u11_3 [7,8] (by kernel_rfl) (by kernel_rfl) ?_
 refine u_val (u:=?_) [0] (by kernel_rfl) rfl (by kernel_rfl) (fun _=>trivial) (fun av ρ wc hbc hcn hq=>?_) ?_;rotate_left
 ·obtain⟨hcn,-⟩:=hcn
  simp at hq
  obtain⟨hcc,-⟩:=bcell hbc
  simp at hcc
  go_simp
  rfl
 refine u_val (u:=?_) [3] (by kernel_rfl) rfl (by kernel_rfl) (fun _=>trivial) (fun av ρ wc hbc hcn hq=>?_) ?_;rotate_left
 ·obtain⟨hcn,-⟩:=hcn
  simp at hq
  obtain⟨hcc,-⟩:=bcell hbc
  simp at hcc
  go_simp
  rfl
 refine u_val (u:=?_) [3] (by kernel_rfl) rfl (by kernel_rfl) (fun _=>trivial) (fun av ρ wc hbc hcn hq=>?_) ?_;rotate_left
 ·obtain⟨hcn,-⟩:=hcn
  simp at hq
  obtain⟨hcc,-⟩:=bcell hbc
  simp at hcc
  go_simp
  rfl
 refine u_call (T:=fun _=>Is (.agg #[.int .i64 (startI X)])) (Is (.agg #[.int .i64 (startI X)])) 35 [23] (by kernel_rfl) rfl (by kernel_rfl) (fun _=>trivial) (stableU_of (stable_is _)) (free_is _) (fun _ _ _ h=>h) (fun av ρ wc hav hbc hcn hq=>?_) ?_
 ·obtain⟨hcn,hfn⟩:=hcn
  simp at hq
  refine⟨_,by go_simp;rfl,?_⟩
  refine(RefStart_any D X O _).mono ?_
  rintro e w' ⟨rfl,hbq⟩
  exact⟨_,rfl,rfl,hbq⟩
 refine u_call (T:=Tup3Av W.heap.size sv.n (.agg #[.int .i64 sv.m]) (.int .i64 sv.e)) (Tup3W (.agg #[.int .i64 sv.m]) (.int .i64 sv.e)) 34 [21,22,24] (by kernel_rfl) rfl (by kernel_rfl) (fun _=>trivial) (stable_tup3Av _ _ _ _) (free_tup3W _ _) (fun _ _ _ h=>h.w) (fun av ρ wc hav hbc hcn hq=>?_) ?_
 ·obtain⟨hcn,hfn⟩:=hcn
  simp at hq
  refine⟨_,by go_simp;rfl,?_⟩
  refine(HVC.out wc (Hs.out.below (bel_on (bel_drew hb) hbc) (Nat.le_refl _))).mono ?_
  rintro e w' ⟨v,rfl,hn,hbq⟩
  exact⟨_,rfl,⟨v,rfl,NodAv.of hn hav hbc.size⟩,hbq⟩
 refine u_new (T:=Tup3Av W.heap.size sv.n (.agg #[.int .i64 sv.m]) (.int .i64 sv.e)) (Tup3W (.agg #[.int .i64 sv.m]) (.int .i64 sv.e)) [25] (by kernel_rfl) rfl (by kernel_rfl) (fun _=>trivial) (stable_tup3Av _ _ _ _) (free_tup3W _ _) (fun _ _ _ h=>h.w) (fun av ρ wc hav hbc hcn hq=>?_) ?_
 ·obtain⟨hcn,hfn⟩:=hcn
  simp at hq
  exact⟨ρ (.tmp 25),wc,by go_simp,hq,Below.refl _ _⟩
 refine u_new (T:=NodAv W.heap.size sv.n) Any [20] (by kernel_rfl) rfl (by kernel_rfl) (fun _=>trivial) (stable_nodAv _ _) free_any (fun _ _ _ _=>trivial) (fun av ρ wc hav hbc hcn hq=>?_) ?_
 ·obtain⟨hcn,hfn⟩:=hcn
  simp at hq
  obtain⟨x,hx,hn⟩:=hq
  exact⟨x,wc,by go_simp,hn,Below.refl _ _⟩
 refine u_pure (u:=.agg #[.int .i64 sv.m]) [20] (by kernel_rfl) rfl (by kernel_rfl) rfl (fun ρ wc hcn hq=>?_) ?_
 ·obtain⟨hcn,hfn⟩:=hcn
  simp at hq
  obtain⟨x,hx⟩:=hq
  go_simp
 refine u_pure (u:=.int .i64 sv.e) [20] (by kernel_rfl) rfl (by kernel_rfl) rfl (fun ρ wc hcn hq=>?_) ?_
 ·obtain⟨hcn,hfn⟩:=hcn
  simp at hq
  obtain⟨x,hx⟩:=hq
  go_simp
 refine u_alloc (T:=VarAv W.heap.size #[.int .i64 0,.int .i64 0,.int .i64 0,.slice none 0 0,.slice none 0 0]) Any [] (by kernel_rfl) rfl (by kernel_rfl) (fun _=>trivial) (stable_varAv _ _) free_any (fun _ _ _ _=>trivial) (fun av ρ wc hav hbc hcn hq=>?_) ?_
 ·obtain⟨hcn,-⟩:=hcn
  exact⟨.pointer (some ⟨wc.heap.size,0,none⟩),wc.alloc (.cells #[.int .i64 0,.int .i64 0,.int .i64 0,.slice none 0 0,.slice none 0 0] 53),by go_simp,⟨_,List.mem_cons_self ..,rfl,hbc.size,Blk.fresh _ _ _⟩,(Below.refl _ _).alloc (Nat.le_refl _) _,by simp⟩
 refine u_alloc (T:=VarAv W.heap.size #[.int .i64 0]) Any [] (by kernel_rfl) rfl (by kernel_rfl) (fun _=>trivial) (stable_varAv _ _) free_any (fun _ _ _ _=>trivial) (fun av ρ wc hav hbc hcn hq=>?_) ?_
 ·obtain⟨hcn,-⟩:=hcn
  exact⟨.pointer (some ⟨wc.heap.size,0,none⟩),wc.alloc (.cells #[.int .i64 0] 65),by go_simp,⟨_,List.mem_cons_self ..,rfl,hbc.size,Blk.fresh _ _ _⟩,(Below.refl _ _).alloc (Nat.le_refl _) _,by simp⟩
 refine u_end_lit 35 rfl (fun av ff w4 hav hb7 hq=>?_)
 have h26:NodAv W.heap.size sv.n av (ff 26) w4:=allN_atF hq 26 (by decide) (by decide)
 have h6:VarAv W.heap.size #[.int .i64 0,.int .i64 0,.int .i64 0,.slice none 0 0,.slice none 0 0] av (ff 6) w4:=allN_atF hq 6 (by decide) (by decide)
 have h7:VarAv W.heap.size #[.int .i64 0] av (ff 7) w4:=allN_atF hq 7 (by decide) (by decide)
 have hb4:Below W.heap.size W w4:=⟨hb7.os,hb7.tape,hb7.output,hb7.size,hb7.block⟩
 simp [AllN] at hq
 simp only [frameL,hq,Nat.zero_add,Nat.reduceAdd]
 clear hq hb7 x0 y0 z0
 obtain⟨Ak,ck,Bk,ek,lok,hik,e26,hlk,hhk,hok,hapart⟩:=h26
 obtain⟨b6,m6,e6,hb6,hv6⟩:=h6
 obtain⟨b7,m7,e7,hb7,hv7⟩:=h7
 have a6:=hapart b6 m6
 have a7:=hapart b7 m7
 generalize ff 20=u20
 generalize ff 25=u25
 generalize ff 26=u26 at *
 generalize ff 6=u6 at *
 generalize ff 7=u7 at *
 subst e26 e6 e7
 have n1:b6≠b7:=by
  rintro rfl
  have h1:=hv6.cell 1
  rw [hv7.cell 1] at h1
  simp at h1
 have n2:b7≠b6:=fun h=>n1 h.symm
 have k1:=h1.below hb4
 have K1:=Lib.hid k1
 have HB:=Lib.hid (bel_on hb hb4)
 have hsz4:=hb4.size
 have HNK:=Lib.hid hok
 have K6:=Lib.hid hv6
 have K7:=Lib.hid hv7
 clear h1 hb hb4 hok hapart m6 m7 hav
 obtain⟨x6,y6,z6⟩:=hv6
 obtain⟨x7,y7,z7⟩:=hv7
 obtain⟨x1,y1,z1⟩:=k1
 have n3:b6≠w.heap.size+1:=by omega
 have n4:b7≠w.heap.size+1:=by omega
 by_cases he:sv.e=0
 ·have HE:=Lib.hid he
  have t3:(sv.e != 0)=false:=by rw [he];rfl
  rw [if_neg (by rw [he];simp)] at HMS
  clear he
  go_wp2_with fail
  refine⟨rfl,?_⟩
  go_wp2_with fail
  refine abs_world (F:=fun V=>Blk V (w.heap.size+1) #[.int .i64 0,.int .i64 0,.int .i64 0,.slice none 0 0,.slice none 0 0]∧NdR V Ak ck Bk ek sv.n∧Below w.heap.size w V) ⟨?_,?_,?_⟩ ?_
  ·exact(((((K1.out.other (by simp;omega) _).other (by simp;omega) _).other (by simp;omega) _).other (by simp;omega) _).other (by simp;omega) _).other (by simp;omega) _
  ·refine(HNK.out.to fun g h1 h2=>?_).nd
   rw [Below.heap_setCell _ _ _ _ (by simp;omega),Below.heap_setCell _ _ _ _ (by simp;omega),Below.heap_setCell _ _ _ _ (by simp;omega),Below.heap_setCell _ _ _ _ (by simp;omega),Below.heap_setCell _ _ _ _ (by simp;omega),Below.heap_setCell _ _ _ _ (by simp;omega)]
  ·refine Below.setCell (Below.setCell (Below.setCell (Below.setCell (Below.setCell (Below.setCell HB.out ?_ _) ?_ _) ?_ _) ?_ _) ?_ _) ?_ _<;>(simp;omega)
  clear K1 HB HNK K6 K7 x6 y6 z6 x7 y7 z7 x1 y1 z1
  rintro V ⟨h1,hnk,hbv⟩
  refine(RefTrim11_node sv.n Ak ck Bk ek V hnk (by have:=HSZ.out;have:=HVM.out;omega) HVA.out).mono ?_
  rintro e V2 ⟨v,rfl,⟨At,ct,Bt,et,hit,rfl,hht,hot⟩,hbt⟩
  have B1:=h1.below hbt
  have HB:=Lib.hid (hbv.trans (hbt.mono hbv.size))
  have K1:=Lib.hid B1
  have hl1:=h1.lt
  have HOT:=Lib.hid hot
  clear h1 hnk hbv hbt hot
  obtain⟨x1,y1,z1⟩:=B1
  go_wp2_with fail
  refine abs_post (F:=fun U=>Blk U (w.heap.size+1) #[.int .i64 (trimN sv.n).k,.int .i64 (trimN sv.n).e,.int .i64 (trimN sv.n).n,.slice At (trimN sv.n).d.length ct,.slice Bt (trimN sv.n).ks.length et]∧NodF V.heap.size (trimN sv.n) (.agg #[.int .i64 (trimN sv.n).k,.int .i64 (trimN sv.n).e,.int .i64 (trimN sv.n).n,.slice At (trimN sv.n).d.length ct,.slice Bt (trimN sv.n).ks.length et]) U∧Below w.heap.size w U) ⟨?_,?_,?_⟩ ?_
  ·exact((((K1.out.set 0 (by simp) _).set 1 (by simp) _).set 2 (by simp) _).set 3 (by simp) _).set 4 (by simp) _
  ·refine⟨At,ct,Bt,et,hit,rfl,by simpa [World.setCell] using hht,HOT.out.to fun g h1 h2=>?_⟩
   rw [Below.heap_setCell _ _ _ _ (by simp;omega),Below.heap_setCell _ _ _ _ (by simp;omega),Below.heap_setCell _ _ _ _ (by simp;omega),Below.heap_setCell _ _ _ _ (by simp;omega),Below.heap_setCell _ _ _ _ (by simp;omega)]
  ·refine Below.setCell (Below.setCell (Below.setCell (Below.setCell (Below.setCell HB.out ?_ _) ?_ _) ?_ _) ?_ _) ?_ _<;>(simp)
  rintro U ⟨B6,hnt,hbw⟩
  exact bodyPost_ret (v:=.tuple #[.agg #[.int .i64 (trimN sv.n).k,.int .i64 (trimN sv.n).e,.int .i64 (trimN sv.n).n,.slice At (trimN sv.n).d.length ct,.slice Bt (trimN sv.n).ks.length et],.int .i64 0]) (by simp [results,Tryz.results17,go_sem,B6.cell]) rfl ⟨_,by rw [HMS.out],by rw [HMS.out];exact hnt.lower (by omega),hbw⟩
 ·have t3:(sv.e != 0)=true:=bne_iff_ne.2 he
  rw [if_pos he] at HMS
  clear he
  go_wp2_with fail
  refine⟨rfl,?_⟩
  go_wp2_with fail
  refine abs_post (F:=fun U=>Blk U (w.heap.size+1) #[.int .i64 0,.int .i64 0,.int .i64 0,.slice none 0 0,.slice none 0 0]∧Below w.heap.size w U) ⟨?_,?_⟩ ?_
  ·have h:=(((((K1.out.other (p:=⟨b6,0,none⟩) (by simp;omega) (.int .i64 sv.n.k)).other (p:=⟨b6,1,none⟩) (by simp;omega) (.int .i64 sv.n.e)).other (p:=⟨b6,2,none⟩) (by simp;omega) (.int .i64 sv.n.n)).other (p:=⟨b6,3,none⟩) (by simp;omega) (.slice Ak sv.n.d.length ck)).other (p:=⟨b6,4,none⟩) (by simp;omega) (.slice Bk sv.n.ks.length ek)).other (p:=⟨b7,0,none⟩) (by simp;omega) (.int .i64 sv.m)
   exact((((h.set 0 (by simp) _).set 1 (by simp) _).set 2 (by simp) _).set 3 (by simp) _).set 4 (by simp) _
  ·refine Below.setCell (Below.setCell (Below.setCell (Below.setCell (Below.setCell (Below.setCell (Below.setCell (Below.setCell (Below.setCell (Below.setCell (Below.setCell HB.out ?_ _) ?_ _) ?_ _) ?_ _) ?_ _) ?_ _) ?_ _) ?_ _) ?_ _) ?_ _) ?_ _<;>(simp;try omega)
  rintro U ⟨B6,hbw⟩
  exact bodyPost_ret (v:=.tuple #[.agg #[.int .i64 0,.int .i64 0,.int .i64 0,.slice none 0 0,.slice none 0 0],.int .i64 sv.e]) (by simp [results,Tryz.results17,go_sem,B6.cell]) rfl ⟨_,by rw [HMS.out],by rw [HMS.out];exact nod_zero _ _,hbw⟩
set_option maxRecDepth 100000 in
set_option maxHeartbeats 1000000 in
theorem RefMessage12_nul (A:Option Addr)(c:Nat)(ls:List (List Int))(D X O:Int)(w:World)(hs:Sg w A ls)(hz:(seg ls 0).length=0)(hl:0<ls.length):
  Calls Tryz.prog 17 #[.slice A ls.length c,.agg #[.int .i64 D,.int .i64 X,.int .i64 O]] w fun e w'=>∃v,e=.returned (.tuple #[v,.int .i64 (msgV ls D X).2])∧NodF w.heap.size (msgV ls D X).1 v w'∧Below w.heap.size w w':=by
 have HMS:Hid (msgV ls D X=(nd0,0)):=Lib.hid (by unfold msgV;rw [if_pos ⟨hl,hz⟩])
 generalize msgV ls D X=mv at *
 obtain⟨b,off,A',c',rfl,hc,-,-,-,-⟩:=(((hs.below ((Below.refl _ _).alloc (Nat.le_refl _) (.cells #[.int .i64 D,.int .i64 X,.int .i64 O] 24)) (Nat.le_refl _)).below ((Below.refl _ _).alloc (Nat.le_refl _) (.cells #[.int .i64 0,.int .i64 0,.int .i64 0,.slice none 0 0,.slice none 0 0] 53)) (Nat.le_refl _))).one hl
 simp only [Nat.add_zero] at hc
 have t1:decide ((0:Int)<ls.length)=true:=decide_eq_true (by omega)
 rw [hz] at hc
 clear hs hz
 go_enter Tryz.func17,Tryz.ntmps17
 go_wp2_with fail
 refine abs_post (F:=fun U=>Blk U (w.heap.size+1) #[.int .i64 0,.int .i64 0,.int .i64 0,.slice none 0 0,.slice none 0 0]∧Below w.heap.size w U) ⟨?_,?_⟩ ?_
 ·exact Blk.new (by simp)
 ·exact((Below.refl _ _).alloc (Nat.le_refl _) _).alloc (by simp) _
 rintro U ⟨B6,hbw⟩
 exact bodyPost_ret (v:=.tuple #[.agg #[.int .i64 0,.int .i64 0,.int .i64 0,.slice none 0 0,.slice none 0 0],.int .i64 0]) (by simp [results,Tryz.results17,go_sem,B6.cell]) rfl ⟨_,by rw [HMS.out],by rw [HMS.out];exact nod_zero _ _,hbw⟩
theorem RefMessage12 (A:Option Addr)(c:Nat)(ls:List (List Int))(D X O:Int)(w:World)(hs:Sg w A ls)(hw:Wd2 ls)(hm:ls.length≤40)(hf:∀j,(seg ls j).length≤20000000)(hD:D≤900)(hX:X≤1000000):
  Calls Tryz.prog 17 #[.slice A ls.length c,.agg #[.int .i64 D,.int .i64 X,.int .i64 O]] w fun e w'=>∃v,e=.returned (.tuple #[v,.int .i64 (msgV ls D X).2])∧NodF w.heap.size (msgV ls D X).1 v w'∧Below w.heap.size w w':=by
 by_cases hl:ls.length=0
 ·exact RefMessage12_none A c ls D X O hw hm hf hD hX w hs hl
 ·by_cases hz:(seg ls 0).length=0
  ·exact RefMessage12_nul A c ls D X O w hs hz (by omega)
  ·exact RefMessage12_some A c ls D X O hw hm hf hD hX w hs hz (by omega)
end
theorem depthK_all {r:Nat}:∀ks:List Nd,(∀y∈ks,depthN y≤r)→depthK ks≤r
 | [],_=>Nat.zero_le _
 | x::xs,h=>by
  have h1:=h x (List.mem_cons_self ..)
  have h2:=depthK_all xs fun y hy=>h y (List.mem_cons_of_mem _ hy)
  show max (depthN x) (depthK xs)≤r
  omega
theorem depthG_all {r:Nat}:∀ks:List Nd,(∀y∈ks,depthK y.ks≤r)→depthG ks≤r
 | [],_=>Nat.zero_le _
 | .mk k e n d l::xs,h=>by
  have h1:depthK l≤r:=h _ (List.mem_cons_self ..)
  have h2:=depthG_all xs fun y hy=>h y (List.mem_cons_of_mem _ hy)
  show max (depthK l) (depthG xs)≤r
  omega
theorem structV_depth {val:Int→Int→Int→Val}{r:Nat}(hv:∀m s a,depthN (val m s a).n≤r)(ls:List (List Int))(m:Int)(o:Ob):depthN (structV val ls m o).n≤r+1∧depthK (structV val ls m o).n.ks≤r:=by
 unfold structV
 split
 ·exact⟨Nat.zero_le _,Nat.zero_le _⟩
 ·have h:depthK (runK (fun m i=>val m o.sg (o.at'+o.d+i)) m o.p.toNat).ks≤r:=depthK_all _ (runK_all (fun y=>depthN y≤r) _ fun m i _ _=>hv m _ _)
  refine⟨?_,h⟩
  show (if (1:Int)=0 then 0 else 1+if (1:Int)=2∧(0:Int)=7 then _ else depthK _)≤r+1
  rw [if_neg (by omega),if_neg (by omega)]
  omega
theorem listV_depth {val:Int→Int→Int→Val}{r:Nat}(hv:∀m s a,depthN (val m s a).n≤r)(ls:List (List Int))(m:Int)(o:Ob)(h6:6≤o.el)(h7:o.el≤7):depthN (listV val ls m o).n≤r+1:=by
 unfold listV
 split
 ·exact Nat.zero_le _
 ·show (if (2:Int)=0 then 0 else 1+if (2:Int)=2∧o.el=7 then depthG _ else depthK _)≤r+1
  rw [if_neg (by omega)]
  split
  ·rename_i h
   have hg:depthG (runK (elemV val ls o) m o.n.toNat).ks≤r:=depthG_all _ (runK_all (fun y=>depthK y.ks≤r) _ fun m i _ _=>by
    unfold elemV
    rw [if_neg (by omega)]
    exact(structV_depth hv ls m (eleO o i)).2)
   omega
  ·rename_i h
   have hk:depthK (runK (elemV val ls o) m o.n.toNat).ks≤r:=depthK_all _ (runK_all (fun y=>depthN y≤r) _ fun m i _ _=>by
    unfold elemV
    rw [if_pos (by omega)]
    exact hv m _ _)
   omega
theorem valV_depth {ls:List (List Int)}(hw:Wd2 ls)(hm:ls.length≤40)(hf:∀j,(seg ls j).length≤20000000):∀r m s a,depthN (valV ls r m s a).n≤r
 | 0,m,s,a=>by
  unfold valV
  split<;>exact Nat.zero_le _
 | r+1,m,s,a=>by
  have ih:=fun m s a=>valV_depth hw hm hf r m s a
  have hb:=objF_num hw hm hf s a rfl
  unfold valV
  split
  ·exact Nat.zero_le _
  ·unfold bodyV
   generalize objF ls s a=q at *
   split
   ·exact Nat.zero_le _
   ·split
    ·exact Nat.zero_le _
    ·split
     ·exact(structV_depth ih ls _ q.1).1
     ·split
      ·rename_i h
       show (if (2:Int)=0 then 0 else 1+if (2:Int)=2∧q.1.el=7 then _ else depthK [])≤r+1
       rw [if_neg (by omega),if_neg (by omega)]
       show 1+0≤r+1
       omega
      ·exact listV_depth ih ls _ q.1 (by omega) (by omega)
theorem runK_succ0 {f:Int→Nat→Val}{m:Int}{n:Nat}(h:(runK f m (n+1)).e=0):(runK f m n).e=0∧(f (runK f m n).m n).e=0:=by
 by_cases h1:(runK f m n).e=0
 ·by_cases h2:(f (runK f m n).m n).e=0
  ·exact⟨h1,h2⟩
  ·rw [runK_no h1 h2] at h;exact absurd h h2
 ·rw [runK_keep h1 (Nat.le_succ n)] at h;exact absurd h h1
structure ExtM (ls ls':List (List Int)):Prop where
 has:∀s a,hasB ls s a=true→hasB ls' s a=true
 word:∀s a,hasB ls s a=true→wordV ls' s a=wordV ls s a
 inb:∀s a n,inB ls s a n=true→inB ls' s a n=true
 dat:∀s a n,inB ls s a n=true→sliceL ls' s a n=sliceL ls s a n
theorem ExtM.refl (ls:List (List Int)):ExtM ls ls:=⟨fun _ _ h=>h,fun _ _ _=>rfl,fun _ _ _ h=>h,fun _ _ _ _=>rfl⟩
theorem ExtM.datW {ls ls':List (List Int)}(h:ExtM ls ls')(s a n:Int)(hi:inB ls s a n=true):datW ls' s a n=datW ls s a n:=by
 unfold Proofs.YtfaflahfjgnphaaGreatDoor.datW
 rw [if_pos hi,if_pos (h.inb s a n hi),h.dat s a n hi]
section
section
variable {ls:List (List Int)} (hw:Wd2 ls) (hm:ls.length≤40) (hf:∀j,(seg ls j).length≤20000000) (D X:Int)
theorem startI_bd (X:Int):0≤startI X:=by unfold startI;split<;>omega
theorem msg_same (ls:List (List Int))(D X:Int):(msgV ls D X).2=(measV ls D X).2:=by
 unfold msgV measV
 split
 ·rfl
 ·split<;>rfl
include hw hm hf
theorem msg_valid:validN (msgV ls D X).1=true∧trimmedN (msgV ls D X).1=true∧depthN (msgV ls D X).1≤D.toNat:=by
 have h0:validN nd0=true∧trimmedN nd0=true∧depthN nd0≤D.toNat:=⟨by decide,by decide,Nat.zero_le _⟩
 unfold msgV
 split
 ·exact h0
 ·split
  ·exact h0
  ·have hv:=valV_valid hw hm hf D.toNat (startI X) 0 0
   refine⟨valid_trim _ hv,trimmed_trim _ hv,?_⟩
   rw [depth_trim]
   exact valV_depth hw hm hf _ _ _ _
theorem msg_size:(sizeN (msgV ls D X).1:Int)≤1+10*startI X:=by
 have h0:(sizeN nd0:Int)=1:=by decide
 have h1:=startI_bd X
 unfold msgV
 split
 ·show (sizeN nd0:Int)≤_;omega
 ·split
  ·show (sizeN nd0:Int)≤_;omega
  ·have hs:=(valV_size hw hm hf D.toNat (startI X) 0 0).2
   have hv:=valV_m hw hm hf D.toNat (startI X) 0 0 h1
   have ht:=size_trim (valV ls D.toNat (startI X) 0 0).n
   show (sizeN (trimN (valV ls D.toNat (startI X) 0 0).n):Int)≤_
   omega
theorem meas_bd:0≤(measV ls D X).1∧(measV ls D X).1≤startI X:=by
 have h1:=startI_bd X
 have hv:=valV_m hw hm hf D.toNat (startI X) 0 0 h1
 unfold measV
 split
 ·exact⟨Int.le_refl _,h1⟩
 ·split
  ·exact⟨Int.le_refl _,h1⟩
  ·show 0≤startI X-_∧startI X-_≤startI X
   omega
end
end
theorem one_in {W:List Int}{a n:Nat}(h:a+n≤W.length):inB [W] 0 (a:Int) (n:Int)=true:=by
 refine inB_iff.2 ⟨by omega,by simp,by omega,by omega,?_⟩
 show (a:Int)+n≤(W.length:Int)
 omega
theorem one_has {W:List Int}{a:Nat}(h:a<W.length):hasB [W] 0 (a:Int)=true:=by
 unfold hasB
 rw [decide_eq_true_iff]
 refine⟨by omega,by simp,by omega,?_⟩
 show (a:Int)<(W.length:Int)
 omega
theorem one_word {W:List Int}{a:Nat}(h:a<W.length):wordV [W] 0 (a:Int)=zat W a:=by
 unfold wordV
 rw [one_has h,if_pos rfl]
 rfl
theorem one_dat {W:List Int}{q n:Nat}{l:List Int}(h:Has W q l)(hl:l.length=n):datW [W] 0 (q:Int) (n:Int)=l:=by
 subst hl
 unfold datW
 rw [one_in h.1,if_pos rfl]
 show (W.drop (q:Int).toNat).take (l.length:Int).toNat=l
 rw [Int.toNat_natCast,Int.toNat_natCast]
 exact h.slice
theorem pad_bytes {d:List Int}(hb:Bts d){A:Nat}(h:d.length≤8*A):bytesOf (padW d A)=d++List.replicate (8*A-d.length) 0:=by
 unfold padW
 refine bytesOf_wordsOf _ ?_ ?_
 ·intro z hz
  rcases List.mem_append.1 hz with hz|hz
  ·exact hb z hz
  ·rw [List.eq_of_mem_replicate hz];omega
 ·rw [List.length_append,List.length_replicate];omega
theorem valid_null (q:Nat):∀t∈List.replicate q nd0,validN t=true:=by
 intro t ht
 rw [List.eq_of_mem_replicate ht]
 decide
theorem struct_read {val:Int→Int→Int→Val}{W:List Int}{d:List Int}{ks:List Nd}{A b q p pos nx:Nat}(hv:∀t∈ks,Reads val W t)(hnull:Reads val W nd0)(hval:∀t∈ks,validN t=true)(hq:q+A=p+pos)(hd:Has W q (padW d A))(hA:d.length≤8*A)(h8:d.length % 8=0)(hb:Bts d)
  (hp:Has W (p+pos) (ptrsW pos nx (ks++List.replicate (b-ks.length) nd0))) (hkb:ks.length≤b) (ho:Has W (p+nx) (objK ks)) (ht:trimmedN (.mk 1 0 0 d ks)=true) (m c:Int) (hm:costK ks≤m) :
  ∃v,structV val [W] m ⟨1,0,q,A,b,0,0,c⟩=⟨v,m-costK ks,0⟩∧trimN v=.mk 1 0 0 d ks:=by
 have hE:(ks++List.replicate (b-ks.length) nd0).length=b:=by rw [List.length_append,List.length_replicate];omega
 obtain⟨ks',h1,h2⟩:=kids_read (val:=val) (W:=W) (ts:=ks++List.replicate (b-ks.length) nd0) (p:=p) (pos:=pos) (nx:=nx) (fun t ht=>by
  rcases List.mem_append.1 ht with ht|ht
  ·exact hv t ht
  ·rw [List.eq_of_mem_replicate ht];exact hnull) (fun t ht=>by
  rcases List.mem_append.1 ht with ht|ht
  ·exact hval t ht
  ·exact valid_null _ t ht) hp (by rw [objK_nulls];exact ho) m (by rw [costK_nulls];exact hm)
 rw [hE,costK_nulls] at h1
 have hf:(fun (m:Int) (i:Nat)=>val m 0 ((q:Int)+(A:Int)+(i:Int)))=fun (m:Int) (i:Nat)=>val m 0 (((p+pos:Nat):Int)+(i:Int)):=by
  funext m i
  congr 1
  omega
 refine⟨.mk 1 0 0 (bytesOf (datW [W] 0 q A)) ks',?_,?_⟩
 ·unfold structV
  simp only [Int.toNat_natCast]
  rw [hf,h1]
  simp
 ·rw [one_dat hd (padW_length hA),pad_bytes hb hA]
  exact trim_back h8 ht _ _ h2
theorem Has.els {W:List Int}{A b:Nat}:∀{ys:List Nd} {P:Nat} {pos nx:Int},(∀y∈ys,y.d.length≤8*A∧y.ks.length≤b)→Has W P (elsW A b pos nx ys)→∀j (hj:j<ys.length),
  Has W (P+j*(A+b)) (padW ys[j].d A)∧Has W (P+j*(A+b)+A) (ptrsW (pos+j*(A+b)+A) (nx+canK (kk (ys.take j))) (ys[j].ks++List.replicate (b-ys[j].ks.length) nd0))
 | [],_,_,_,_,_,j,hj=>by simp at hj
 | y::ys,P,pos,nx,hf,h,j,hj=>by
  have h0:=hf y (List.mem_cons_self ..)
  simp only [elsW] at h
  have h1:=h.left
  have h2:=h.right
  rw [padW_length h0.1] at h2
  have h3:=h2.left
  have h4:=h2.right
  rw [ptrsW_length,List.length_append,List.length_replicate] at h4
  cases j with
  | zero=>
   simp only [Nat.zero_mul,Nat.add_zero,List.getElem_cons_zero,List.take_zero]
   refine⟨h1,?_⟩
   have e1:pos+((0:Nat):Int)*((A:Int)+b)+A=pos+A:=by simp
   have e2:nx+canK (kk [])=nx:=by simp [kk,canK]
   rw [e1,e2]
   exact h3
  | succ j=>
   have ih:=Has.els (fun z hz=>hf z (List.mem_cons_of_mem _ hz)) h4 j (by simpa using hj)
   have e0:P+A+(y.ks.length+(b-y.ks.length))+j*(A+b)=P+(j+1)*(A+b):=by rw [Nat.add_mul];omega
   have e1:pos+(A:Int)+b+(j:Int)*((A:Int)+b)+A=pos+((j+1:Nat):Int)*((A:Int)+b)+A:=by
    have:((j+1:Nat):Int)*((A:Int)+b)=(j:Int)*((A:Int)+b)+((A:Int)+b):=by rw [Int.natCast_succ,Int.add_mul,Int.one_mul]
    rw [this]
    omega
   have e2:nx+canK y.ks+canK (kk (ys.take j))=nx+canK (kk ((y::ys).take (j+1))):=by
    have:kk ((y::ys).take (j+1))=y.ks++kk (ys.take j):=by simp [kk]
    rw [this,canK_append]
    omega
   rw [e0,e1,e2] at ih
   exact ih
theorem kkw_split (l:List Nd)(j:Nat)(h:j<l.length):kk l=kk (l.take j)++(l[j].ks++kk (l.drop (j+1))):=by
 have h1:l=l.take j++l[j]::l.drop (j+1):=by rw [List.getElem_cons_drop];exact(List.take_append_drop j l).symm
 calc kk l=kk (l.take j++l[j]::l.drop (j+1)):=by rw [←h1]
  _=_:=by unfold kk;rw [List.flatMap_append,List.flatMap_cons]
theorem els_read {val:Int→Int→Int→Val}{W:List Int}{ks:List Nd}{A b p nx:Nat}(hv:∀t∈kk ks,Reads val W t)(hnull:Reads val W nd0)(hval:∀t∈kk ks,validN t=true)(hfit:∀y∈ks,y.d.length≤8*A∧y.ks.length≤b)
  (hel:∀y∈ks,∃d' ks',y=.mk 1 0 0 d' ks'∧d'.length % 8=0∧Bts d'∧trimmedN y=true) (hp:Has W (p+1) (elsW A b 1 nx ks)) (ho:Has W (p+nx) (objK (kk ks))) (n c:Int) (m:Int) (hm:costK (kk ks)≤m) :
  ∃ks',runK (elemV val [W] ⟨2,0,((p+1:Nat):Int),A,b,7,n,c⟩) m ks.length=⟨ks',m-costK (kk ks),0⟩∧ks'.map trimN=ks:=by
 obtain⟨f,hfe⟩:∃f:Int→Nat→Val,f=elemV val [W] ⟨2,0,((p+1:Nat):Int),A,b,7,n,c⟩:=⟨_,rfl⟩
 rw [←hfe]
 have:∀j,j≤ks.length→∃ks',runK f m j=⟨ks',m-costK (kk (ks.take j)),0⟩∧ks'.map trimN=ks.take j:=by
  intro j
  induction j with
  | zero=>intro _;exact⟨[],by simp [runK,costK,canK,exK,kk],by simp⟩
  | succ j ih=>
   intro hj
   obtain⟨ks',h1,h2⟩:=ih (by omega)
   have hj2:j<ks.length:=by omega
   obtain⟨g1,g2⟩:=hp.els hfit j hj2
   have hsp:=kkw_split ks j hj2
   have g3:=ho
   rw [hsp,objK_append,objK_append] at g3
   have g4:=g3.right.left
   have hvt:∀t∈kk (ks.take j),validN t=true:=fun t ht=>hval t (by rw [hsp];exact List.mem_append_left _ ht)
   have hl:((objK (kk (ks.take j))).length:Int)=canK (kk (ks.take j)):=objK_length (fun y hy=>objW_length y (hvt y hy))
   have hkt:=kk_take ks j hj2
   have hc:costK (kk (ks.take (j+1)))=costK (kk (ks.take j))+costK ks[j].ks:=by rw [hkt,costK_append]
   have hle:costK (kk (ks.take (j+1)))≤costK (kk ks):=by
    have e:kk ks=kk (ks.take (j+1))++kk (ks.drop (j+1)):=by rw [hsp,hkt,List.append_assoc]
    have e2:kk (ks.take (j+1))=(kk ks).take (kk (ks.take (j+1))).length:=by rw [e,List.take_left]
    rw [e2]
    exact(costK_take_le hval _).2
   have hyv:∀t∈ks[j].ks,t∈kk ks:=fun t ht=>List.mem_flatMap.2 ⟨ks[j],List.getElem_mem hj2,ht⟩
   obtain⟨d',kk',hy,h8,hb,htr⟩:=hel ks[j] (List.getElem_mem hj2)
   obtain⟨hf1,hf2⟩:=hfit ks[j] (List.getElem_mem hj2)
   have hyd:ks[j].d=d':=by rw [hy];rfl
   have hyk:ks[j].ks=kk':=by rw [hy];rfl
   rw [hyd] at g1 hf1
   rw [hyk] at g2 g4 hc hf2 hyv
   rw [hy] at htr
   have e1:(1:Int)+(j:Int)*((A:Int)+b)+A=((1+j*(A+b)+A:Nat):Int):=by simp
   have e2:(nx:Int)+canK (kk (ks.take j))=((nx+(objK (kk (ks.take j))).length:Nat):Int):=by rw [←hl];simp
   rw [e1,e2] at g2
   obtain⟨v,h3,h4⟩:=struct_read (val:=val) (W:=W) (d:=d') (ks:=kk') (A:=A) (b:=b) (q:=p+1+j*(A+b)) (p:=p) (pos:=1+j*(A+b)+A) (nx:=nx+(objK (kk (ks.take j))).length)
    (fun t ht=>hv t (hyv t ht)) hnull (fun t ht=>hval t (hyv t ht)) (by omega) g1 hf1 h8 hb (by rw [show p+(1+j*(A+b)+A)=p+1+j*(A+b)+A by omega];exact g2) hf2 (by rw [←Nat.add_assoc];exact g4) htr (m-costK (kk (ks.take j))) 0 (by omega)
   have hf:f (m-costK (kk (ks.take j))) j=⟨v,m-costK (kk (ks.take j))-costK kk',0⟩:=by
    rw [hfe]
    unfold elemV
    rw [if_neg (show ¬((7:Int)=6) by decide)]
    have e:eleO ⟨2,0,((p+1:Nat):Int),A,b,7,n,c⟩ (j:Int)=⟨1,0,((p+1+j*(A+b):Nat):Int),A,b,0,0,0⟩:=by
     unfold eleO
     simp
    rw [e]
    exact h3
   refine⟨ks'++[v],?_,?_⟩
   ·rw [runK_ok (by rw [h1]) (by rw [h1,hf]),h1,hf]
    simp only [hc,Vls.mk.injEq,true_and,and_true]
    omega
   ·rw [List.map_append,h2,List.take_succ_eq_append_getElem hj2,List.map_singleton,h4,hy]
 obtain⟨ks',h1,h2⟩:=this ks.length (Nat.le_refl _)
 rw [List.take_length] at h1 h2
 exact⟨ks',h1,h2⟩
theorem fol_read {W:List Int}{a:Nat}(ha:a<W.length)(hk:zat W a % 4≠2):followF [W] 0 (a:Int)=⟨zat W a,0,(a:Int)+1,0⟩:=by
 unfold followF
 have hb:(zat W a % 4==2)=false:=by simpa using hk
 rw [one_has ha,one_word ha,hb]
 simp
theorem val_null {W:List Int}{a:Nat}(ha:a<W.length)(hz:zat W a=0)(r:Nat)(m:Int):valV [W] r m 0 (a:Int)=⟨nd0,m,0⟩:=by
 have h:=fol_read ha (by rw [hz];decide)
 cases r with
 | zero=>unfold valV;rw [h,hz,if_pos (.inr rfl)];rfl
 | succ r=>unfold valV;rw [h,hz,if_pos (.inr rfl)];rfl
theorem val_obj {W:List Int}{a:Nat}(ha:a<W.length){q:Ptr}(hq:Vld q)(hk:q.k=0∨q.k=1)(hw:zat W a=encW q)(h0:encW q≠0)(r:Nat)(m:Int):
  valV [W] (r+1) m 0 (a:Int)=bodyV (valV [W] r) [W] m (objP [W] q 0 ((a:Int)+1)):=by
 have h4:zat W a % 4≠2:=by
  rw [hw]
  unfold encW
  rcases hk with hk|hk
  ·rw [if_pos hk];omega
  ·rw [if_neg (by omega),if_pos hk];omega
 have h:=fol_read ha h4
 have h1:¬((followF [W] 0 (a:Int)).e≠0∨(followF [W] 0 (a:Int)).w=0):=by
  rw [h]
  simp only [hw]
  intro h2
  rcases h2 with h2|h2
  ·exact h2 rfl
  ·exact h0 h2
 unfold valV
 rw [if_neg h1]
 unfold objF
 rw [if_neg h1,h]
 simp only [hw]
 rw [decP_encW q hq]
theorem depth_mem {l:List Nd}{r:Nat}(h:depthK l≤r):∀y∈l,depthN y≤r:=by
 induction l with
 | nil=>intro y hy;cases hy
 | cons x xs ih=>
  simp only [depthK] at h
  intro y hy
  rcases List.mem_cons.1 hy with rfl|hy
  ·omega
  ·exact ih (by omega) y hy
theorem reads_nd0 (W:List Int)(r:Nat):Reads (valV [W] r) W nd0:=by
 intro p a m ha hw hp hm
 refine⟨nd0,?_,rfl⟩
 have h0:costN nd0=0:=by decide
 rw [val_null ha (by rw [hw];rfl) r m,h0]
 simp
theorem padW_exact {d:List Int}(h8:d.length % 8=0):padW d (d.length / 8)=wordsOf d:=by
 unfold padW
 rw [show 8*(d.length / 8)-d.length=0 by omega]
 simp
theorem cost_le {x:Nd}(h:validN x=true):canO x+exO x+costK (targN x)=costN x∧0≤costK (targN x)∧0≤canO x∧0≤exO x:=by
 have h2:=costK_take_le (l:=targN x) (valid_targ h) (targN x).length
 rw [List.take_length] at h2
 exact⟨(costN_eq x).symm,h2.1,(canO_size h).1,exO_nonneg h⟩
theorem trimmed_mem14 {l:List Nd}(h:trimmedK l=true):∀y∈l,trimmedN y=true:=by
 intro y hy
 obtain⟨j,hj,rfl⟩:=List.getElem_of_mem hy
 rcases Bool.eq_false_or_eq_true (trimmedN l[j]) with h1|h1
 ·exact h1
 ·rw [trimmedK_no l j hj h1] at h;cases h
theorem trimmed_targ14 {x:Nd}(h:trimmedN x=true):∀y∈targN x,trimmedN y=true:=by
 obtain⟨k,e,n,d,ks⟩:=x
 simp only [trimmedN,Bool.and_eq_true] at h
 have h2:=trimmed_mem14 h.2
 intro y hy
 rw [targN_mk] at hy
 split at hy
 ·obtain⟨z,hz,hyz⟩:=List.mem_flatMap.1 hy
  have h3:=h2 z hz
  obtain⟨k',e',n',d',ks'⟩:=z
  simp only [trimmedN,Bool.and_eq_true] at h3
  exact trimmed_mem14 h3.2 y hyz
 ·exact h2 y hy
theorem ptrW_str (e n:Int)(d:List Int)(ks:List Nd)(o:Int):ptrW (.mk 1 e n d ks) o=encW ⟨0,if canO (.mk 1 e n d ks)=0 then -1 else o,((d.length / 8:Nat):Int),ks.length,0,0,false,0,0,0⟩:=by
 unfold ptrW ptrP
 simp only [Nd.k,Nd.d,Nd.ks]
 rw [if_neg (by decide),if_pos trivial]
theorem ptrW_lst (e n:Int)(d:List Int)(ks:List Nd)(o:Int):ptrW (.mk 2 e n d ks) o=encW ⟨1,o,0,0,e,if e=7 then canO (.mk 2 e n d ks)-1 else n,false,0,0,0⟩:=by
 unfold ptrW ptrP
 exact(if_neg (show ¬((2:Int)=0) by decide)).trans (congrArg encW (if_neg (show ¬((2:Int)=1) by decide)))
theorem str_read {d:List Int}{ks:List Nd}(hv:validN (.mk 1 0 0 d ks)=true)(ht:trimmedN (.mk 1 0 0 d ks)=true)(hb:bytN (.mk 1 0 0 d ks))(r:Nat)(W:List Int)(hW:W.length≤536870911)(hk:∀t∈ks,Reads (valV [W] r) W t):Reads (valV [W] (r+1)) W (.mk 1 0 0 d ks):=by
 intro p a m ha hw hp hm
 obtain⟨-,-,h8,hd5,hk5⟩:=head_str hv
 obtain⟨hc,hc0,hc1,-⟩:=cost_le hv
 have hT:targN (.mk 1 0 0 d ks)=ks:=by rw [targN_mk,if_neg (by decide)]
 have hO:canO (.mk 1 0 0 d ks)=((d.length / 8+ks.length:Nat):Int):=rfl
 have hE:exO (.mk 1 0 0 d ks)=0:=rfl
 rw [hT,hO,hE] at hc
 rw [hT] at hc0
 have hbl:=body_length hv
 rw [objW_eq,hT] at hp
 rw [hO] at hbl
 have hp1:Has W p (wordsOf d++ptrsW ((d.length / 8:Nat):Int) (((d.length / 8+ks.length:Nat):Int)) ks):=hp.left
 have hp2:=hp.right
 have hlen:=hp.left.1
 have hpv:∀t∈ks,validN t=true:=fun t hm=>valid_targ hv t (by rw [hT];exact hm)
 have hwd:=hp1.left
 have hpt:=hp1.right
 rw [wordsOf_length] at hpt
 have hv0:=Vld
 by_cases h0:d.length / 8+ks.length=0
 ·have hd0:d=[]:=List.eq_nil_of_length_eq_zero (by omega)
  have hk0:ks=[]:=List.eq_nil_of_length_eq_zero (by omega)
  subst hd0 hk0
  have hw2:zat W a=encW ⟨0,-1,0,0,0,0,false,0,0,0⟩:=by
   rw [hw,ptrW_str,if_pos (by rw [hO];rfl)]
   rfl
  refine⟨.mk 1 0 0 [] [],?_,rfl⟩
  rw [val_obj ha (q:=⟨0,-1,0,0,0,0,false,0,0,0⟩) (.inl (by decide)) (.inl rfl) hw2 (by decide) r m]
  have hin:inB [W] 0 ((a:Int)+1+-1) (0+0)=true:=by
   have:=one_in (W:=W) (a:=a) (n:=0) (by omega)
   rw [show (a:Int)+1+-1=a by omega]
   exact this
  unfold objP
  simp only
  rw [if_neg (by decide),if_pos trivial,if_pos hin]
  unfold bodyV
  simp only
  have hcz:costN (.mk 1 0 0 [] [])=0:=by decide
  rw [if_neg (by simp),if_neg (by rw [hcz] at hm;omega),if_pos trivial]
  unfold structV
  have hdz:datW [W] 0 ((a:Int)+1+-1) 0=[]:=by
   have:=one_dat (W:=W) (q:=a) (n:=0) (l:=[]) ⟨by simp;omega,fun i hi=>by simp at hi⟩ rfl
   rw [show (a:Int)+1+-1=a by omega]
   exact this
  simp only [Int.toNat_zero,runK,hdz,hcz]
  simp [bytesOf]
 ·have hw2:zat W a=encW ⟨0,(p:Int)-a-1,((d.length / 8:Nat):Int),(ks.length:Int),0,0,false,0,0,0⟩:=by
   rw [hw,ptrW_str,if_neg (by rw [hO];omega)]
  have hq:Vld ⟨0,(p:Int)-a-1,((d.length / 8:Nat):Int),(ks.length:Int),0,0,false,0,0,0⟩:=by
   left
   simp only
   refine⟨trivial,by omega,by omega,by omega,by omega,by omega,by omega,?_⟩
   simp
  have hne:encW ⟨0,(p:Int)-a-1,((d.length / 8:Nat):Int),(ks.length:Int),0,0,false,0,0,0⟩≠0:=by
   unfold encW
   simp only
   rw [if_pos trivial]
   omega
  rw [val_obj ha hq (.inl rfl) hw2 hne r m]
  have hin:inB [W] 0 ((a:Int)+1+((p:Int)-a-1)) (((d.length / 8:Nat):Int)+(ks.length:Int))=true:=by
   have:=one_in (W:=W) (a:=p) (n:=d.length / 8+ks.length) (by omega)
   rw [show (a:Int)+1+((p:Int)-a-1)=p by omega]
   simpa using this
  unfold objP
  simp only
  rw [if_neg (by decide),if_pos trivial,if_pos hin]
  unfold bodyV
  simp only
  rw [if_neg (by simp),if_neg (by omega),if_pos trivial,show (a:Int)+1+((p:Int)-a-1)=p by omega]
  have hbd:=bytN_d hb
  obtain⟨v,h1,h2⟩:=struct_read (val:=valV [W] r) (W:=W) (d:=d) (ks:=ks) (A:=d.length / 8) (b:=ks.length) (q:=p) (p:=p) (pos:=d.length / 8) (nx:=d.length / 8+ks.length) hk (reads_nd0 W r) hpv rfl (by rw [padW_exact h8];exact hwd) (by omega) h8 hbd (by rw [Nat.sub_self,List.replicate_zero,List.append_nil];exact hpt) (Nat.le_refl _)
   (by rw [show p+(d.length / 8+ks.length)=p+(bodyN (.mk 1 0 0 d ks)).length by omega];exact hp2) ht (m-(((d.length / 8:Nat):Int)+(ks.length:Int))) (((d.length / 8:Nat):Int)+(ks.length:Int)) (by omega)
  refine⟨v,?_,h2⟩
  rw [h1]
  simp only [Val.mk.injEq,true_and,and_true]
  omega
theorem enc_lst (o e c:Int):encW ⟨1,o,0,0,e,c,false,0,0,0⟩≠0:=by
 unfold encW
 simp only
 rw [if_neg (show ¬((1:Int)=0) by decide),if_pos trivial]
 omega
theorem obj_lst {W:List Int}{p a:Nat}{e n c:Int}(he:e≠7)(hc:wordsI e n=c)(h0:0≤c)(hW:p+c.toNat≤W.length):objP [W] ⟨1,(p:Int)-a-1,0,0,e,n,false,0,0,0⟩ 0 ((a:Int)+1)=(⟨2,0,p,0,0,e,n,c⟩,0):=by
 have hin:inB [W] 0 (p:Int) c=true:=by
  have:=one_in (W:=W) (a:=p) (n:=c.toNat) hW
  rw [Int.toNat_of_nonneg h0] at this
  exact this
 unfold objP
 simp only
 rw [if_neg (by decide),if_neg (by decide),show (a:Int)+1+((p:Int)-a-1)=p by omega,hc,hin,if_neg (by simp),if_neg he]
theorem trimL_pad {d:List Int}{e n:Int}(q:Nat)(h:bytesI e n=d.length):trimL (d++List.replicate q 0) e n=trimL d e n:=by
 apply ext_zat (by rw [trimL_length,trimL_length])
 intro i hi
 rw [trimL_length] at hi
 rw [trimL_zat _ _ _ _ hi,trimL_zat _ _ _ _ hi]
 unfold trimAt
 rw [zat_append_left _ _ _ (by omega)]
theorem lst_read {e n:Int}{d:List Int}{ks:List Nd}(hv:validN (.mk 2 e n d ks)=true)(he:e<6)(hb:bytN (.mk 2 e n d ks))(r:Nat)(W:List Int)(hW:W.length≤536870911):Reads (valV [W] (r+1)) W (.mk 2 e n d ks):=by
 intro p a m ha hw hp hm
 obtain⟨g1,g2,g3,g4,-,g6⟩:=head_lst hv
 obtain⟨g7,g8,g9⟩:=g6 he
 obtain rfl:ks=[]:=List.eq_nil_of_length_eq_zero g7
 obtain⟨hc,hc0,hc1,-⟩:=cost_le hv
 have hT:targN (.mk 2 e n d [])=[]:=by rw [targN_mk,if_neg (by omega)]
 have hO:canO (.mk 2 e n d [])=wordsI e n:=by show canOf 2 e n d []=_;unfold canOf;rw [if_neg (show ¬((2:Int)=0) by decide),if_neg (show ¬((2:Int)=1) by decide),if_neg (by omega)]
 have hE:exO (.mk 2 e n d [])=0:=by unfold exO;rw [if_neg];rintro⟨-,h,-⟩;simp only [Nd.e] at h;omega
 rw [hT,hO,hE] at hc
 rw [hO] at hc1
 have hk0:costK []=0:=by simp [costK,canK,exK]
 rw [hk0] at hc
 have hbl:=body_length hv
 rw [objW_eq,hT] at hp
 have hp1:=hp.left
 have hlen:=hp1.1
 rw [hO] at hbl
 have hbn:bodyN (.mk 2 e n d [])=padW d (wordsI e n).toNat:=by
  show bodyW 2 e n d []=_
  unfold bodyW
  rw [if_neg (show ¬((2:Int)=0) by decide),if_neg (show ¬((2:Int)=1) by decide),if_neg (by omega),if_neg (by omega)]
 rw [hbn] at hp1 hlen hbl
 have hbi:=bitsI_mul e n g1
 have hwI:wordsI e n=(bitsI e*n+63) / 64:=by unfold wordsI;rw [if_neg (by omega)]
 have hBI:bytesI e n=(bitsI e*n+7) / 8:=rfl
 have hA:d.length≤8*(wordsI e n).toNat:=by omega
 rw [padW_length hA] at hlen
 have hw2:zat W a=encW ⟨1,(p:Int)-a-1,0,0,e,n,false,0,0,0⟩:=by rw [hw,ptrW_lst,if_neg (by omega)]
 have hq:Vld ⟨1,(p:Int)-a-1,0,0,e,n,false,0,0,0⟩:=by
  right;left
  simp only
  refine⟨trivial,by omega,by omega,trivial,trivial,by omega,by omega,by omega,by omega,?_⟩
  simp
 rw [val_obj ha hq (.inr rfl) hw2 (enc_lst _ _ _) r m,obj_lst (by omega) rfl hc1 hlen]
 unfold bodyV
 simp only
 rw [if_neg (by simp),if_neg (by omega),if_neg (by decide),if_pos he]
 refine⟨_,by rw [show m-wordsI e n=m-costN (.mk 2 e n d []) by omega],?_⟩
 have hd:datW [W] 0 (p:Int) (wordsI e n)=padW d (wordsI e n).toNat:=by
  have:=one_dat hp1 (padW_length hA)
  rw [Int.toNat_of_nonneg hc1] at this
  exact this
 have hbd:Bts d:=bytN_d hb
 rw [hd,pad_bytes hbd hA]
 show trimN (.mk 2 e n (trimL (d++_) e n) [])=_
 rw [trimL_pad _ g8.symm,g9]
 simp [trimN,trimK]
theorem plist_read {n:Int}{d:List Int}{ks:List Nd}(hv:validN (.mk 2 6 n d ks)=true)(r:Nat)(W:List Int)(hW:W.length≤536870911)(hk:∀t∈ks,Reads (valV [W] r) W t):Reads (valV [W] (r+1)) W (.mk 2 6 n d ks):=by
 intro p a m ha hw hp hm
 obtain⟨g1,g2,-,-,g5,-⟩:=head_lst hv
 obtain⟨g7,g8⟩:=g5 (by decide)
 obtain rfl:d=[]:=List.eq_nil_of_length_eq_zero g7
 obtain⟨hc,hc0,hc1,-⟩:=cost_le hv
 have hT:targN (.mk 2 6 n [] ks)=ks:=by rw [targN_mk,if_neg (by omega)]
 have hwI:wordsI 6 n=n:=by simp [wordsI,bitsI];omega
 have hO:canO (.mk 2 6 n [] ks)=n:=by
  have h0:canO (.mk 2 6 n [] ks)=wordsI 6 n:=rfl
  rw [h0,hwI]
 have hE:exO (.mk 2 6 n [] ks)=0:=rfl
 rw [hT,hO,hE] at hc
 rw [hT] at hc0
 have hbl:=body_length hv
 rw [objW_eq,hT] at hp
 rw [hO] at hbl
 have hp2:=hp.right
 have hp1:Has W p (ptrsW 0 (canO (.mk 2 6 n [] ks)) ks):=hp.left
 have hlen:=hp.left.1
 have hpv:∀t∈ks,validN t=true:=fun t hm=>valid_targ hv t (by rw [hT];exact hm)
 have hw2:zat W a=encW ⟨1,(p:Int)-a-1,0,0,6,n,false,0,0,0⟩:=by rw [hw,ptrW_lst,if_neg (by decide)]
 have hq:Vld ⟨1,(p:Int)-a-1,0,0,6,n,false,0,0,0⟩:=by
  right;left
  simp only
  refine⟨trivial,by omega,by omega,trivial,trivial,by omega,by omega,by omega,by omega,?_⟩
  simp
 rw [val_obj ha hq (.inr rfl) hw2 (enc_lst _ _ _) r m,obj_lst (c:=n) (by decide) hwI (by omega) (by omega)]
 unfold bodyV
 simp only
 rw [if_neg (by simp),if_neg (by omega),if_neg (by decide),if_neg (by decide)]
 obtain⟨ks',h1,h2⟩:=kids_read (val:=valV [W] r) (W:=W) (ts:=ks) (p:=p) (pos:=0) (nx:=ks.length) hk hpv (by rw [hO,←g8] at hp1;exact hp1) (by rw [show p+ks.length=p+(bodyN (.mk 2 6 n [] ks)).length by omega];exact hp2) (m-n) (by omega)
 have hf:elemV (valV [W] r) [W] ⟨2,0,(p:Int),0,0,6,n,n⟩=fun (m:Int) (i:Nat)=>valV [W] r m 0 (((p+0:Nat):Int)+(i:Int)):=by
  funext m i
  unfold elemV
  rw [if_pos rfl]
  simp
 refine⟨.mk 2 6 n [] ks',?_,?_⟩
 ·unfold listV
  simp only
  rw [show n.toNat=ks.length by omega,hf,h1]
  simp only [ne_eq,not_true,if_false,Val.mk.injEq,true_and,and_true]
  omega
 ·simp only [trimN]
  rw [if_neg (by decide),if_neg (by decide),trimK_map,h2]
theorem clist_read {n:Int}{d:List Int}{ks:List Nd}(hv:validN (.mk 2 7 n d ks)=true)(ht:trimmedN (.mk 2 7 n d ks)=true)(hb:bytN (.mk 2 7 n d ks))(r:Nat)(W:List Int)(hW:W.length≤536870911)(hk:∀t∈kk ks,Reads (valV [W] r) W t):Reads (valV [W] (r+1)) W (.mk 2 7 n d ks):=by
 intro p a m ha hw hp hm
 obtain⟨g1,g2,-,-,g5,-⟩:=head_lst hv
 obtain⟨g7,g8⟩:=g5 (by decide)
 obtain rfl:d=[]:=List.eq_nil_of_length_eq_zero g7
 obtain⟨hc,hc0,hc1,hc2⟩:=cost_le hv
 have hfit:=comp_fit hv
 obtain⟨hu1,hu2⟩:=uni_bd hv
 have hT:targN (.mk 2 7 n [] ks)=kk ks:=by rw [targN_mk,if_pos ⟨rfl,rfl⟩]
 have hpv:∀t∈kk ks,validN t=true:=fun t hm=>valid_targ hv t (by rw [hT];exact hm)
 have hel:∀y∈ks,∃d' ks',y=.mk 1 0 0 d' ks'∧d'.length % 8=0∧Bts d'∧trimmedN y=true:=by
  intro y hy
  obtain⟨hyv,-⟩:=valid_mem hv hy
  have hyk:=(valid_elem hv hy).1
  have hyb:=bytN_ks hb y hy
  have hyt:trimmedN y=true:=by
   simp only [trimmedN,Bool.and_eq_true] at ht
   exact trimmed_mem14 ht.2 y hy
  obtain⟨k',e',n',d',ks'⟩:=y
  simp only [Nd.k] at hyk
  subst hyk
  obtain⟨h1,h2,h3,-,-⟩:=head_str hyv
  subst h1 h2
  exact⟨d',ks',rfl,h3,bytN_d hyb,hyt⟩
 have hbl:=body_length hv
 rw [objW_eq,hT] at hp
 rw [hT] at hc hc0
 obtain⟨A,hAe⟩:∃A,uniD ks ks.length=A:=⟨_,rfl⟩
 obtain⟨b,hbe⟩:∃b,uniP ks ks.length=b:=⟨_,rfl⟩
 have hO:canO (.mk 2 7 n [] ks)=1+n*((A+b:Nat):Int):=by
  rw [←hAe,←hbe]
  show canOf 2 7 n [] ks=_
  unfold canOf
  rw [if_neg (show ¬((2:Int)=0) by decide),if_neg (show ¬((2:Int)=1) by decide),if_pos rfl]
 have hE:exO (.mk 2 7 n [] ks)=if A+b=0 then n else 0:=by
  rw [←hAe,←hbe]
  unfold exO
  show (if (2:Int)=2∧(7:Int)=7∧uniD ks ks.length+uniP ks ks.length=0 then n else 0)=_
  by_cases h:uniD ks ks.length+uniP ks ks.length=0
  ·rw [if_pos ⟨rfl,rfl,h⟩,if_pos h]
  ·rw [if_neg (fun h2=>h h2.2.2),if_neg h]
 have hp2:=hp.right
 have hp1:Has W p (tagW n (uniD ks ks.length) (uniP ks ks.length)::elsW (uniD ks ks.length) (uniP ks ks.length) 1 (canO (.mk 2 7 n [] ks)) ks):=hp.left
 have hlen:=hp.left.1
 rw [hAe,hbe] at hp1
 rw [hAe] at hu1
 rw [hbe] at hu2
 rw [hAe,hbe] at hfit
 obtain⟨S,hS⟩:∃S,n*((A+b:Nat):Int)=S:=⟨_,rfl⟩
 have hS0:0≤S:=by rw [←hS];exact Int.mul_nonneg g1 (by omega)
 rw [hS] at hO
 obtain⟨q1,q2,q3⟩:=hp1.head
 have hw2:zat W a=encW ⟨1,(p:Int)-a-1,0,0,7,S,false,0,0,0⟩:=by rw [hw,ptrW_lst,if_pos rfl,hO];congr 2;omega
 have hq:Vld ⟨1,(p:Int)-a-1,0,0,7,S,false,0,0,0⟩:=by
  right;left
  simp only
  refine⟨trivial,by omega,by omega,trivial,trivial,by omega,by omega,by omega,by omega,?_⟩
  simp
 have hqt:Vld ⟨0,n,(A:Int),(b:Int),0,0,false,0,0,0⟩:=by
  left
  simp only
  refine⟨trivial,by omega,by omega,by omega,by omega,by omega,by omega,?_⟩
  simp
 have hobj:objP [W] ⟨1,(p:Int)-a-1,0,0,7,S,false,0,0,0⟩ 0 ((a:Int)+1)=(⟨2,0,((p+1:Nat):Int),A,b,7,n,if A+b=0 then S+1+n else S+1⟩,0):=by
  have hin:inB [W] 0 (p:Int) (wordsI 7 S)=true:=by
   have h7:wordsI 7 S=((S.toNat+1:Nat):Int):=by unfold wordsI;rw [if_pos rfl];omega
   rw [h7]
   exact one_in (by omega)
  unfold objP
  simp only
  rw [if_neg (by decide),if_neg (by decide),show (a:Int)+1+((p:Int)-a-1)=p by omega,hin,if_neg (by simp),if_pos trivial]
  unfold compF
  rw [one_word q1,q2]
  unfold tagW
  rw [decP_encW _ hqt]
  simp only
  have hnm:n*((A:Int)+(b:Int))=S:=by rw [←hS];simp
  rw [if_neg (by rw [hnm];omega)]
  have h7:wordsI 7 S=S+1:=by unfold wordsI;rw [if_pos rfl]
  rw [h7]
  by_cases h:A+b=0
  ·rw [if_pos h,if_pos (by omega)];simp
  ·rw [if_neg h,if_neg (by omega)];simp
 rw [val_obj ha hq (.inr rfl) hw2 (enc_lst _ _ _) r m,hobj]
 have hcost:(if A+b=0 then S+1+n else S+1)=canO (.mk 2 7 n [] ks)+exO (.mk 2 7 n [] ks):=by rw [hO,hE];split<;>omega
 rw [hcost]
 unfold bodyV
 simp only
 rw [if_neg (by simp),if_neg (by omega),if_neg (by decide),if_neg (by decide)]
 obtain⟨ks',h1,h2⟩:=els_read (val:=valV [W] r) (W:=W) (ks:=ks) (A:=A) (b:=b) (p:=p) (nx:=(bodyN (.mk 2 7 n [] ks)).length) hk (reads_nd0 W r) hpv hfit hel (by rw [hbl];exact q3) hp2 n (canO (.mk 2 7 n [] ks)+exO (.mk 2 7 n [] ks)) (m-(canO (.mk 2 7 n [] ks)+exO (.mk 2 7 n [] ks))) (by omega)
 refine⟨.mk 2 7 n [] ks',?_,?_⟩
 ·unfold listV
  simp only
  rw [show n.toNat=ks.length by omega,h1]
  simp only [ne_eq,not_true,if_false,Val.mk.injEq,true_and,and_true]
  omega
 ·simp only [trimN]
  rw [if_neg (by decide),if_neg (by decide),trimK_map,h2]
theorem write_read:∀x:Nd,validN x=true→trimmedN x=true→bytN x→∀(r:Nat) (W:List Int),depthN x≤r→W.length≤536870911→Reads (valV [W] r) W x:=size_ind (by
 intro x ih hv ht hb r W hr hW
 have hk:=valid_k hv
 have hdx:=depthN_eq x
 have hsub:∀t∈targN x,x.k≠0→Reads (valV [W] (r-1)) W t:=fun t hm h0=>ih t (targ_lt hm) (valid_targ hv t hm) (trimmed_targ14 ht t hm) (bytN_targ hb t hm) (r-1) W (by
  rw [if_neg h0] at hdx
  exact depth_mem (r:=r-1) (by omega) t hm) hW
 rcases hk with h0|h1|h2
 ·obtain⟨k,e,n,d,ks⟩:=x
  simp only [Nd.k] at h0
  subst h0
  rw [head_nul hv]
  exact reads_nd0 W r
 ·rw [if_neg (by omega)] at hdx
  have hs:=fun t hm=>hsub t hm (by omega)
  obtain⟨r',rfl⟩:∃r',r=r'+1:=⟨r-1,by omega⟩
  obtain⟨k,e,n,d,ks⟩:=x
  simp only [Nd.k] at h1
  subst h1
  obtain⟨h1,h2,-⟩:=head_str hv
  subst h1 h2
  have hT:targN (.mk 1 0 0 d ks)=ks:=by rw [targN_mk,if_neg (by decide)]
  rw [hT] at hs
  exact str_read hv ht hb r' W hW hs
 ·rw [if_neg (by omega)] at hdx
  have hs:=fun t hm=>hsub t hm (by omega)
  obtain⟨r',rfl⟩:∃r',r=r'+1:=⟨r-1,by omega⟩
  obtain⟨k,e,n,d,ks⟩:=x
  simp only [Nd.k] at h2
  subst h2
  obtain⟨-,-,g3,g4,-,-⟩:=head_lst hv
  rcases(by omega:e<6∨e=6∨e=7) with h|rfl|rfl
  ·exact lst_read hv h hb r' W hW
  ·have hT:targN (.mk 2 6 n d ks)=ks:=by rw [targN_mk,if_neg (by omega)]
   rw [hT] at hs
   exact plist_read hv r' W hW hs
  ·have hT:targN (.mk 2 7 n d ks)=kk ks:=by rw [targN_mk,if_pos ⟨rfl,rfl⟩]
   rw [hT] at hs
   exact clist_read hv ht hb r' W hW hs)
theorem write_val {x:Nd}(hv:validN x=true)(ht:trimmedN x=true)(hb:bytN x)(hs:canN x≤536870910){r:Nat}(hr:depthN x≤r){m:Int}(hm:costN x≤m):∃v,valV [writeF x] r m 0 0=⟨v,m-costN x,0⟩∧trimN v=x:=by
 have hl:=writeF_length hv
 have h:=write_read x hv ht hb r (writeF x) hr (by omega) 1 0 m (by simp [writeF]) (by show ptrW x 0=_;congr 1) (Has.self (writeF x)).head.2.2 hm
 exact h
theorem write_inj {x y:Nd}(hx:validN x=true)(hy:validN y=true)(tx:trimmedN x=true)(ty:trimmedN y=true)(bx:bytN x)(by':bytN y)(sx:canN x≤536870910)(sy:canN y≤536870910)(h:writeF x=writeF y):x=y:=by
 have h1:=Int.le_max_left (costN x) (costN y)
 have h2:=Int.le_max_right (costN x) (costN y)
 obtain⟨v,g1,g2⟩:=write_val hx tx bx sx (Nat.le_max_left (depthN x) (depthN y)) h1
 obtain⟨u,g3,g4⟩:=write_val hy ty by' sy (Nat.le_max_right (depthN x) (depthN y)) h2
 rw [h,g3] at g1
 simp only [Val.mk.injEq] at g1
 rw [←g2,←g4,g1.1]
def dataE (a b:List Int):Bool:=decide (∀i,i<max a.length b.length→zat a i=zat b i)
theorem zat_outE {l:List Int}{i:Nat}(h:¬i<l.length):zat l i=0:=by simp [zat,List.getD_eq_getElem?_getD,List.getElem?_eq_none (Nat.le_of_not_lt h)]
theorem dataE_iff {a b:List Int}:dataE a b=true↔∀i,zat a i=zat b i:=by
 unfold dataE
 rw [decide_eq_true_iff]
 constructor
 ·intro h i
  by_cases hi:i<max a.length b.length
  ·exact h i hi
  ·rw [zat_outE (by omega),zat_outE (by omega)]
 ·exact fun h i _=>h i
theorem dataE_no {a b:List Int}{i:Nat}(h:zat a i≠zat b i):dataE a b=false:=by
 cases hd:dataE a b with
 | false=>rfl
 | true=>exact absurd (dataE_iff.1 hd i) h
noncomputable def eqQ (x y:Nd) (e f:Int):Bool×Int:=if e≠0 then (false,e) else if f≠0 then (false,f) else (eqN x y,0)
noncomputable def eqM (ms ns:List (List Int)) (D X:Int):Bool×Int:=eqQ (msgV ms D X).1 (msgV ns D X).1 (msgV ms D X).2 (msgV ns D X).2
theorem eqQ_of {ms ns:List (List Int)}{D X:Int}{x y:Nd}{e f:Int}(h1:msgV ms D X=(x,e))(h2:msgV ns D X=(y,f)):eqM ms ns D X=eqQ x y e f:=by
 unfold eqM
 rw [h1,h2]
section
attribute [local simp] AllK KnowsV look Is
theorem NodF.set {lo:Nat}{x:Nd}{v:Value}{w:World}(h:NodF lo x v w){p:Addr}(hp:p.block<lo)(u:Value):NodF lo x v (w.setCell p u):=by
 obtain⟨A,c,B,c2,hi,h1,h2,h3⟩:=h
 exact⟨A,c,B,c2,hi,h1,by simpa using h2,h3.to fun k k1 k2=>Below.heap_setCell _ _ _ _ (by omega)⟩
end
theorem byt_mk {k e n:Int}{d:List Int}{ks:List Nd}(hd:Bts d)(hk:∀y∈ks,bytN y):bytN (.mk k e n d ks):=by
 simp only [bytN]
 exact⟨hd,bytK_of hk⟩
theorem byt_nd0:bytN nd0:=byt_mk (fun z hz=>by cases hz) (fun y hy=>by cases hy)
theorem byt_trim:∀x:Nd,bytN x→bytN (trimN x):=Nd.ind (by
 intro k e n d ks ih h
 have hd:Bts d:=bytN_d h
 have hk:∀y∈ks,bytN y:=bytN_ks h
 have hall:∀y∈trimK ks,bytN y:=by
  intro y hy
  rw [trimK_map,List.mem_map] at hy
  obtain⟨z,hz,rfl⟩:=hy
  exact ih z hz (hk z hz)
 simp only [trimN]
 by_cases h1:k=1
 ·rw [if_pos h1,if_pos h1]
  exact byt_mk (fun z hz=>hd z (List.mem_of_mem_take hz)) (fun y hy=>hall y (List.mem_of_mem_take hy))
 ·rw [if_neg h1,if_neg h1]
  exact byt_mk hd hall)
theorem structV_byt {val:Int→Int→Int→Val}(hv:∀m s a,bytN (val m s a).n)(ls:List (List Int))(m:Int)(o:Ob):bytN (structV val ls m o).n:=by
 unfold structV
 split
 ·exact byt_nd0
 ·exact byt_mk (bytesOf_bts _) (runK_all bytN _ fun m i _ _=>hv _ _ _)
theorem listV_byt {val:Int→Int→Int→Val}(hv:∀m s a,bytN (val m s a).n)(ls:List (List Int))(m:Int)(o:Ob):bytN (listV val ls m o).n:=by
 unfold listV
 split
 ·exact byt_nd0
 ·exact byt_mk (fun z hz=>by cases hz) (runK_all bytN _ fun m i _ _=>by
   unfold elemV
   split
   ·exact hv _ _ _
   ·exact structV_byt hv _ _ _)
theorem valV_byt (ls:List (List Int)):∀r m s a,bytN (valV ls r m s a).n
 | 0,m,s,a=>by
  unfold valV
  split<;>exact byt_nd0
 | r+1,m,s,a=>by
  have ih:=fun m s a=>valV_byt ls r m s a
  unfold valV
  split
  ·exact byt_nd0
  ·unfold bodyV
   generalize objF ls s a=q
   split
   ·exact byt_nd0
   ·split
    ·exact byt_nd0
    ·split
     ·exact structV_byt ih _ _ _
     ·split
      ·exact byt_mk (trimL_bts (bytesOf_bts _) _ _) (fun y hy=>by cases hy)
      ·exact listV_byt ih _ _ _
theorem msg_byt (ls:List (List Int))(D X:Int):bytN (msgV ls D X).1:=by
 unfold msgV
 split
 ·exact byt_nd0
 ·split
  ·exact byt_nd0
  ·exact byt_trim _ (valV_byt _ _ _ _ _)
end Go.Proofs.YtfaflahfjgnphaaGreatDoor
