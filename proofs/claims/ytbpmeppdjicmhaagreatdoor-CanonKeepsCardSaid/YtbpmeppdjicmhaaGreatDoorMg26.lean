/- The texts Den2, Den3, MsgLit (what is wanted of them), one after the other. -/
import Derived.Test.YtbpmeppdjicmhaaGreatDoorMg23
namespace Go.Proofs.YtbpmeppdjicmhaaGreatDoor
open Go.ChangeShapes Go.WideShapes Go.ChangeAt Go.RowKit
set_option linter.unusedVariables false
set_option linter.unusedSimpArgs false
set_option maxRecDepth 100000
theorem runK_all {f:Int→Nat→Val}{m:Int}(Q:Nd→Prop):∀n,(∀m i,i<n→(f m i).e=0→Q (f m i).n)→∀y∈(runK f m n).ks,Q y
 | 0,_,y,hy=>by cases hy
 | n+1,hs,y,hy=>by
  have ih:=runK_all (f:=f) (m:=m) Q n (fun m i hi=>hs m i (by omega))
  by_cases h1:(runK f m n).e=0
  ·by_cases h2:(f (runK f m n).m n).e=0
   ·rw [runK_ok h1 h2] at hy
    rcases List.mem_append.1 hy with h|h
    ·exact ih y h
    ·rw [List.mem_singleton] at h
     subst h
     exact hs _ n (by omega) h2
   ·rw [runK_no h1 h2] at hy
    cases hy
  ·rw [runK_keep h1 (Nat.le_succ n)] at hy
   exact ih y hy
theorem validK_allD {k e:Int}:∀ks:List Nd,(∀y∈ks,validN y=true∧(k=2→e=7→y.k=1))→validK k e ks=true
 | [],_=>by simp [validK]
 | x::xs,h=>by
  have h1:=h x (List.mem_cons_self ..)
  have h2:=validK_allD (k:=k) (e:=e) xs (fun y hy=>h y (List.mem_cons_of_mem _ hy))
  simp only [validK,h1.1,h2,Bool.true_and,Bool.and_true,Bool.not_eq_true',decide_eq_false_iff_not]
  intro h3
  exact h3.2.2 (h1.2 h3.1 h3.2.1)
theorem valid_nd0:validN nd0=true:=by decide
theorem datW_le (ls:List (List Int))(s a n:Int):(datW ls s a n).length≤n.toNat:=by
 unfold datW
 split
 ·unfold sliceL
  rw [List.length_take]
  omega
 ·simp
theorem trimL_twice (b:List Int)(e c:Int):trimL (trimL b e c) e c=trimL b e c:=by
 apply ext_zat
 ·rw [trimL_length,trimL_length]
 ·intro i hi
  rw [trimL_length] at hi
  rw [trimL_zat _ _ _ _ hi,trimL_zat _ _ _ _ hi]
  unfold trimAt
  rw [trimL_zat _ _ _ _ hi]
  unfold trimAt
  split
  ·rw [Int.emod_emod_of_dvd _ (Int.dvd_refl _)]
  ·rfl
theorem structV_valid {val:Int→Int→Int→Val}(hv:∀m s a,validN (val m s a).n=true)(ls:List (List Int))(m:Int)(o:Ob)(h1:0≤o.d)(h2:o.d≤65535)(h3:0≤o.p)(h4:o.p≤65535):
  validN (structV val ls m o).n=true∧((structV val ls m o).e=0→(structV val ls m o).n.k=1):=by
 unfold structV
 split
 ·rename_i h
  exact⟨valid_nd0,fun h0=>absurd h0 h⟩
 ·rename_i h
  have h0:(runK (fun m i=>val m o.sg (o.at'+o.d+i)) m o.p.toNat).e=0:=Classical.byContradiction h
  have hl:=runK_length h0
  have hk:validK 1 0 (runK (fun m i=>val m o.sg (o.at'+o.d+i)) m o.p.toNat).ks=true:=validK_allD _ fun y hy=>⟨runK_all (fun y=>validN y=true) _ (fun m i _ _=>hv _ _ _) y hy,fun h=>by omega⟩
  have hd:=datW_le ls o.sg o.at' o.d
  refine⟨?_,fun _=>rfl⟩
  show (validK 1 0 _&&headB 1 0 0 _ _)=true
  rw [hk,Bool.true_and]
  unfold headB
  rw [if_neg (by omega),if_pos rfl,decide_eq_true_iff,bytesOf_length,hl]
  omega
theorem listV_valid {val:Int→Int→Int→Val}(hv:∀m s a,validN (val m s a).n=true)(ls:List (List Int))(m:Int)(o:Ob)(h1:0≤o.d)(h2:o.d≤65535)(h3:0≤o.p)(h4:o.p≤65535)(h5:0≤o.n)(h6:o.n≤536870911)(h7:6≤o.el)(h8:o.el≤7):
  validN (listV val ls m o).n=true:=by
 unfold listV
 split
 ·exact valid_nd0
 ·rename_i h
  have h0:(runK (elemV val ls o) m o.n.toNat).e=0:=Classical.byContradiction h
  have hl:=runK_length h0
  have hk:validK 2 o.el (runK (elemV val ls o) m o.n.toNat).ks=true:=validK_allD _ fun y hy=>runK_all (fun y=>validN y=true∧((2:Int)=2→o.el=7→y.k=1)) _ (fun m i _=>by
   unfold elemV
   split
   ·rename_i h9
    exact fun _=>⟨hv _ _ _,fun _ h=>by omega⟩
   ·have h9:=structV_valid hv ls m (eleO o i) h1 h2 h3 h4
    exact fun he=>⟨h9.1,fun _ _=>h9.2 he⟩) y hy
  show (validK 2 o.el _&&headB 2 o.el o.n [] _)=true
  rw [hk,Bool.true_and]
  unfold headB
  rw [if_neg (by omega),if_neg (by omega),if_pos rfl,decide_eq_true_iff,hl]
  refine⟨h5,h6,by omega,h8,fun _=>⟨rfl,by omega⟩,fun h=>by omega⟩
theorem valV_valid {ls:List (List Int)}(hw:Wd2 ls)(hm:ls.length≤40)(hf:∀j,(seg ls j).length≤20000000):∀r m s a,validN (valV ls r m s a).n=true
 | 0,m,s,a=>by
  unfold valV
  split<;>exact valid_nd0
 | r+1,m,s,a=>by
  have ih:=fun m s a=>valV_valid hw hm hf r m s a
  have hb:=objF_num hw hm hf s a rfl
  unfold valV
  split
  ·exact valid_nd0
  ·unfold bodyV
   generalize objF ls s a=q at *
   split
   ·exact valid_nd0
   ·split
    ·exact valid_nd0
    ·split
     ·exact(structV_valid ih ls _ q.1 (by omega) (by omega) (by omega) (by omega)).1
     ·split
      ·rename_i h
       have hz:=trimL_length (bytesOf (datW ls q.1.sg q.1.at' q.1.cost)) q.1.el q.1.n
       have hy:0≤bytesI q.1.el q.1.n:=by
        have:=bitsI_mul q.1.el q.1.n (by omega)
        unfold bytesI
        omega
       show (validK 2 q.1.el []&&headB 2 q.1.el q.1.n _ [])=true
       unfold headB
       rw [if_neg (by omega),if_neg (by omega),if_pos rfl]
       simp only [validK,Bool.true_and]
       rw [decide_eq_true_iff,trimL_twice,hz]
       refine⟨by omega,by omega,by omega,by omega,fun h=>by omega,fun _=>⟨rfl,by omega,rfl⟩⟩
      ·exact listV_valid ih ls _ q.1 (by omega) (by omega) (by omega) (by omega) (by omega) (by omega) (by omega) (by omega)
theorem runK_size {f:Int→Nat→Val}{m b:Int}(hb:0≤b):∀n,(∀m i,i<n→(f m i).m≤m∧(sizeN (f m i).n:Int)≤b+10*(m-(f m i).m))→(runK f m n).m≤m∧(sizeK (runK f m n).ks:Int)≤n*b+10*(m-(runK f m n).m)
 | 0,_=>⟨Int.le_refl _,by simp [runK,sizeK]⟩
 | n+1,hs=>by
  have ih:=runK_size (f:=f) (m:=m) hb n (fun m i hi=>hs m i (by omega))
  have hnb:((n+1:Nat):Int)*b=n*b+b:=by rw [Int.natCast_add,Int.add_mul];simp
  by_cases h1:(runK f m n).e=0
  ·have h3:=hs (runK f m n).m n (by omega)
   by_cases h2:(f (runK f m n).m n).e=0
   ·rw [runK_ok h1 h2,hnb]
    simp only [sizeK_append,sizeK,Nat.add_zero,Int.natCast_add]
    omega
   ·rw [runK_no h1 h2,hnb]
    have h4:0≤(n:Int)*b:=Int.mul_nonneg (by omega) hb
    simp only [sizeK]
    omega
  ·rw [runK_keep h1 (Nat.le_succ n),hnb]
   omega
theorem sizeN_mk (k e n:Int)(d:List Int)(ks:List Nd):sizeN (.mk k e n d ks)=1+d.length+sizeK ks:=by simp [sizeN]
theorem structV_size {val:Int→Int→Int→Val}(hv:∀m s a,(val m s a).m≤m∧(sizeN (val m s a).n:Int)≤1+10*(m-(val m s a).m))(ls:List (List Int))(m:Int)(o:Ob)(h1:0≤o.d)(h3:0≤o.p):
  (structV val ls m o).m≤m∧(sizeN (structV val ls m o).n:Int)≤1+8*o.d+o.p+10*(m-(structV val ls m o).m):=by
 have hr:=runK_size (f:=fun m i=>val m o.sg (o.at'+o.d+i)) (m:=m) (b:=1) (by omega) o.p.toNat (fun m i _=>hv _ _ _)
 have hd:=datW_le ls o.sg o.at' o.d
 unfold structV
 split
 ·refine⟨hr.1,?_⟩
  show (1:Int)≤1+8*o.d+o.p+10*(m-(runK (fun m i=>val m o.sg (o.at'+o.d+i)) m o.p.toNat).m)
  omega
 ·refine⟨hr.1,?_⟩
  show ((sizeN (.mk 1 0 0 (bytesOf (datW ls o.sg o.at' o.d)) (runK (fun m i=>val m o.sg (o.at'+o.d+i)) m o.p.toNat).ks):Nat):Int)≤1+8*o.d+o.p+10*(m-(runK (fun m i=>val m o.sg (o.at'+o.d+i)) m o.p.toNat).m)
  rw [sizeN_mk,bytesOf_length]
  omega
theorem listV_size {val:Int→Int→Int→Val}(hv:∀m s a,(val m s a).m≤m∧(sizeN (val m s a).n:Int)≤1+10*(m-(val m s a).m))(ls:List (List Int))(m:Int)(o:Ob)(h1:0≤o.d)(h3:0≤o.p)(h5:0≤o.n):
  (listV val ls m o).m≤m∧(sizeN (listV val ls m o).n:Int)≤1+o.n*(1+8*o.d+o.p)+10*(m-(listV val ls m o).m):=by
 have hr:=runK_size (f:=elemV val ls o) (m:=m) (b:=1+8*o.d+o.p) (by omega) o.n.toNat (fun m i _=>by
  unfold elemV
  split
  ·have:=hv m o.sg (o.at'+i);omega
  ·exact structV_size hv ls m (eleO o i) h1 h3)
 have hn:((o.n.toNat:Nat):Int)=o.n:=by omega
 rw [hn] at hr
 have h6:0≤o.n*(1+8*o.d+o.p):=Int.mul_nonneg h5 (by omega)
 unfold listV
 split
 ·refine⟨hr.1,?_⟩
  show (1:Int)≤1+o.n*(1+8*o.d+o.p)+10*(m-(runK (elemV val ls o) m o.n.toNat).m)
  omega
 ·refine⟨hr.1,?_⟩
  show ((sizeN (.mk 2 o.el o.n [] (runK (elemV val ls o) m o.n.toNat).ks):Nat):Int)≤1+o.n*(1+8*o.d+o.p)+10*(m-(runK (elemV val ls o) m o.n.toNat).m)
  rw [sizeN_mk]
  simp only [List.length_nil]
  omega
theorem objF_cover {ls:List (List Int)}(hw:Wd2 ls)(hm:ls.length≤40)(hf:∀j,(seg ls j).length≤20000000)(s a:Int)(q:Ob×Int)(hq:objF ls s a=q)(h1:¬q.2≠0):
  (q.1.k=1→8*q.1.d+q.1.p≤10*q.1.cost)∧(¬q.1.k=1→q.1.n*(1+8*q.1.d+q.1.p)≤10*q.1.cost∨q.1.el<6)∧(¬q.1.k=1→q.1.el<6→bytesI q.1.el q.1.n≤8*q.1.cost):=by
 have h:=objF_cases hw (by omega) (fun j=>by have:=hf j;omega) s a
 rw [hq] at h
 obtain⟨⟨k,sg,at',d,p,el,n,cost⟩,e⟩:=q
 simp only [ob0,Ob.mk.injEq] at h h1 ⊢
 rcases h with ⟨⟨rfl,rfl,rfl,rfl,rfl,rfl,rfl,rfl⟩,h4⟩|⟨-,rfl,rfl,rfl,h5,h6,h7,h8,rfl,h9⟩|⟨-,rfl,h4,h5,h6,h7,rfl,rfl,rfl,h8⟩|⟨-,rfl,rfl,h4,h5,h6,h7,h8,h9,c,h10,h11,h12,h13,rfl⟩
 ·exact⟨fun h=>by omega,fun _=>.inr (by omega),fun _ _=>by show (0:Int)≤_;omega⟩
 ·exact⟨fun _=>by omega,fun h=>absurd rfl h,fun h=>absurd rfl h⟩
 ·have hb:=bitsI_mul el n h6
  refine⟨fun h=>by omega,fun _=>?_,fun _ hl=>?_⟩
  ·by_cases hl:el<6
   ·exact .inr hl
   ·have he:el=6:=by omega
    subst he
    left
    unfold wordsI bitsI
    simp
    omega
  ·unfold wordsI bytesI
   rw [if_neg (by omega)]
   omega
 ·refine⟨fun h=>by omega,fun _=>.inl ?_,fun _ h=>by omega⟩
  have e1:n*(1+8*d+p)=n+8*(n*d)+n*p:=by rw [Int.mul_add,Int.mul_add,Int.mul_one,←Int.mul_assoc,Int.mul_comm n 8,Int.mul_assoc]
  have e2:n*(d+p)=n*d+n*p:=Int.mul_add _ _ _
  have h14:0≤n*d:=Int.mul_nonneg h4 h6
  have h15:0≤n*p:=Int.mul_nonneg h4 h8
  rw [e1]
  split
  ·omega
  ·rename_i hdp
   have h16:n*1≤n*(d+p):=Int.mul_le_mul_of_nonneg_left (by omega) h4
   omega
theorem valV_size {ls:List (List Int)}(hw:Wd2 ls)(hm:ls.length≤40)(hf:∀j,(seg ls j).length≤20000000):∀r m s a,(valV ls r m s a).m≤m∧(sizeN (valV ls r m s a).n:Int)≤1+10*(m-(valV ls r m s a).m)
 | 0,m,s,a=>by
  unfold valV
  split<;>exact⟨Int.le_refl _,by show (1:Int)≤1+10*(m-m);omega⟩
 | r+1,m,s,a=>by
  have ih:=fun m s a=>valV_size hw hm hf r m s a
  have hb:=objF_num hw hm hf s a rfl
  have hc:=objF_cover hw hm hf s a _ rfl
  unfold valV
  split
  ·exact⟨Int.le_refl _,by show (1:Int)≤1+10*(m-m);omega⟩
  ·unfold bodyV
   generalize objF ls s a=q at *
   split
   ·exact⟨Int.le_refl _,by show (1:Int)≤1+10*(m-m);omega⟩
   ·rename_i h1
    have hc:=hc h1
    split
    ·exact⟨Int.le_refl _,by show (1:Int)≤1+10*(m-m);omega⟩
    ·split
     ·rename_i h3
      have h4:=structV_size ih ls (m-q.1.cost) q.1 (by omega) (by omega)
      have h5:=hc.1 h3
      omega
     ·rename_i h3
      split
      ·rename_i h4
       have h5:=hc.2.2 h3 h4
       refine⟨by show m-q.1.cost≤m;omega,?_⟩
       show ((sizeN (.mk 2 q.1.el q.1.n (trimL (bytesOf (datW ls q.1.sg q.1.at' q.1.cost)) q.1.el q.1.n) []):Nat):Int)≤1+10*(m-(m-q.1.cost))
       rw [sizeN_mk,trimL_length]
       simp only [sizeK]
       omega
      ·rename_i h4
       have h5:=(hc.2.1 h3).resolve_right h4
       have h6:=listV_size ih ls (m-q.1.cost) q.1 (by omega) (by omega) (by omega)
       omega
theorem depthK_all {r:Nat}:∀ks:List Nd,(∀y∈ks,depthN y≤r)→depthK ks≤r
 | [],_=>Nat.zero_le _
 | x::xs,h=>by
  have h1:=h x (List.mem_cons_self ..)
  have h2:=depthK_all xs fun y hy=>h y (List.mem_cons_of_mem _ hy)
  show max (depthN x) (depthK xs)≤r
  omega
theorem depthG_all {r:Nat}:∀ks:List Nd,(∀y∈ks,depthK y.ks≤r)→depthG ks≤r
 | [],_=>Nat.zero_le _
 | .mk k e n d l::xs,h=>by
  have h1:depthK l≤r:=h _ (List.mem_cons_self ..)
  have h2:=depthG_all xs fun y hy=>h y (List.mem_cons_of_mem _ hy)
  show max (depthK l) (depthG xs)≤r
  omega
theorem structV_depth {val:Int→Int→Int→Val}{r:Nat}(hv:∀m s a,depthN (val m s a).n≤r)(ls:List (List Int))(m:Int)(o:Ob):depthN (structV val ls m o).n≤r+1∧depthK (structV val ls m o).n.ks≤r:=by
 unfold structV
 split
 ·exact⟨Nat.zero_le _,Nat.zero_le _⟩
 ·have h:depthK (runK (fun m i=>val m o.sg (o.at'+o.d+i)) m o.p.toNat).ks≤r:=depthK_all _ (runK_all (fun y=>depthN y≤r) _ fun m i _ _=>hv m _ _)
  refine⟨?_,h⟩
  show (if (1:Int)=0 then 0 else 1+if (1:Int)=2∧(0:Int)=7 then _ else depthK _)≤r+1
  rw [if_neg (by omega),if_neg (by omega)]
  omega
theorem listV_depth {val:Int→Int→Int→Val}{r:Nat}(hv:∀m s a,depthN (val m s a).n≤r)(ls:List (List Int))(m:Int)(o:Ob)(h6:6≤o.el)(h7:o.el≤7):depthN (listV val ls m o).n≤r+1:=by
 unfold listV
 split
 ·exact Nat.zero_le _
 ·show (if (2:Int)=0 then 0 else 1+if (2:Int)=2∧o.el=7 then depthG _ else depthK _)≤r+1
  rw [if_neg (by omega)]
  split
  ·rename_i h
   have hg:depthG (runK (elemV val ls o) m o.n.toNat).ks≤r:=depthG_all _ (runK_all (fun y=>depthK y.ks≤r) _ fun m i _ _=>by
    unfold elemV
    rw [if_neg (by omega)]
    exact(structV_depth hv ls m (eleO o i)).2)
   omega
  ·rename_i h
   have hk:depthK (runK (elemV val ls o) m o.n.toNat).ks≤r:=depthK_all _ (runK_all (fun y=>depthN y≤r) _ fun m i _ _=>by
    unfold elemV
    rw [if_pos (by omega)]
    exact hv m _ _)
   omega
theorem valV_depth {ls:List (List Int)}(hw:Wd2 ls)(hm:ls.length≤40)(hf:∀j,(seg ls j).length≤20000000):∀r m s a,depthN (valV ls r m s a).n≤r
 | 0,m,s,a=>by
  unfold valV
  split<;>exact Nat.zero_le _
 | r+1,m,s,a=>by
  have ih:=fun m s a=>valV_depth hw hm hf r m s a
  have hb:=objF_num hw hm hf s a rfl
  unfold valV
  split
  ·exact Nat.zero_le _
  ·unfold bodyV
   generalize objF ls s a=q at *
   split
   ·exact Nat.zero_le _
   ·split
    ·exact Nat.zero_le _
    ·split
     ·exact(structV_depth ih ls _ q.1).1
     ·split
      ·rename_i h
       show (if (2:Int)=0 then 0 else 1+if (2:Int)=2∧q.1.el=7 then _ else depthK [])≤r+1
       rw [if_neg (by omega),if_neg (by omega)]
       show 1+0≤r+1
       omega
      ·exact listV_depth ih ls _ q.1 (by omega) (by omega)
theorem runK_succ0 {f:Int→Nat→Val}{m:Int}{n:Nat}(h:(runK f m (n+1)).e=0):(runK f m n).e=0∧(f (runK f m n).m n).e=0:=by
 by_cases h1:(runK f m n).e=0
 ·by_cases h2:(f (runK f m n).m n).e=0
  ·exact⟨h1,h2⟩
  ·rw [runK_no h1 h2] at h;exact absurd h h2
 ·rw [runK_keep h1 (Nat.le_succ n)] at h;exact absurd h h1
structure ExtM (ls ls':List (List Int)):Prop where
 has:∀s a,hasB ls s a=true→hasB ls' s a=true
 word:∀s a,hasB ls s a=true→wordV ls' s a=wordV ls s a
 inb:∀s a n,inB ls s a n=true→inB ls' s a n=true
 dat:∀s a n,inB ls s a n=true→sliceL ls' s a n=sliceL ls s a n
theorem ExtM.refl (ls:List (List Int)):ExtM ls ls:=⟨fun _ _ h=>h,fun _ _ _=>rfl,fun _ _ _ h=>h,fun _ _ _ _=>rfl⟩
theorem ExtM.datW {ls ls':List (List Int)}(h:ExtM ls ls')(s a n:Int)(hi:inB ls s a n=true):datW ls' s a n=datW ls s a n:=by
 unfold Proofs.YtbpmeppdjicmhaaGreatDoor.datW
 rw [if_pos hi,if_pos (h.inb s a n hi),h.dat s a n hi]
theorem Sg.lit {w:World}(vs:List Value)(ls:List (List Int))(T:TypeId)(h:∀j,j<ls.length→∃v,vs[j]?=some v∧Holds w v (seg ls j)):
  Sg (w.alloc (.cells vs.toArray T)) (some ⟨w.heap.size,0,none⟩) ls:=by
 refine .inr ⟨w.heap.size,0,rfl,fun j hj=>?_⟩
 obtain⟨v,hv,hh⟩:=h j hj
 refine⟨v,?_,hh.below ((Below.refl _ _).alloc (Nat.le_refl _) _) (Nat.le_refl _)⟩
 rw [World.cell?_alloc_new]
 simpa using hv
theorem Holds.lit (w:World)(zs:List Int)(T:TypeId)(n:Nat)(hn:n=zs.length)(hm:n≤maxLen):Holds (w.alloc (.cells (zs.map (Value.int .u64)).toArray T)) (.slice (some ⟨w.heap.size,0,none⟩) n n) zs:=by
 subst hn
 exact⟨_,_,rfl,Ri.lit w .u64 zs T,(fun h=>by cases h),Nat.le_refl _,hm⟩
theorem Holds.alloc {w:World}{v:Value}{l:List Int}(h:Holds w v l)(o:Obj):Holds (w.alloc o) v l:=h.below ((Below.refl _ _).alloc (Nat.le_refl _) o) (Nat.le_refl _)
theorem sg_lit1 (w:World)(v:Value)(z:List Int)(T:TypeId)(n:Nat)(hn:w.heap.size=n)(h:Holds w v z):Sg (w.alloc (.cells #[v] T)) (some ⟨n,0,none⟩) [z]:=by
 subst hn
 exact Sg.lit [v] [z] T (by
  intro j hj
  match j,hj with
  | 0,_=>exact⟨_,rfl,h⟩
  | n+1,h=>exact absurd h (by simp))
end Go.Proofs.YtbpmeppdjicmhaaGreatDoor
