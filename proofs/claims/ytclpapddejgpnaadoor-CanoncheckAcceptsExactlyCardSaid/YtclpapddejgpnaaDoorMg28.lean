/- The texts Den2, Den3, Chk6 (what is wanted of them), one after the other. -/
import Derived.Test.YtclpapddejgpnaaDoorMg26
namespace Go.Proofs.YtclpapddejgpnaaDoor
open Go.ChangeShapes Go.WideShapes Go.ChangeAt Go.RowKit
set_option linter.unusedVariables false
set_option linter.unusedSimpArgs false
set_option maxRecDepth 100000
theorem runK_all {f:Int→Nat→Val}{m:Int}(Q:Nd→Prop):∀n,(∀m i,i<n→(f m i).e=0→Q (f m i).n)→∀y∈(runK f m n).ks,Q y
 | 0,_,y,hy=>by cases hy
 | n+1,hs,y,hy=>by
  have ih:=runK_all (f:=f) (m:=m) Q n (fun m i hi=>hs m i (by omega))
  by_cases h1:(runK f m n).e=0
  ·by_cases h2:(f (runK f m n).m n).e=0
   ·rw [runK_ok h1 h2] at hy
    rcases List.mem_append.1 hy with h|h
    ·exact ih y h
    ·rw [List.mem_singleton] at h
     subst h
     exact hs _ n (by omega) h2
   ·rw [runK_no h1 h2] at hy
    cases hy
  ·rw [runK_keep h1 (Nat.le_succ n)] at hy
   exact ih y hy
theorem validK_allD {k e:Int}:∀ks:List Nd,(∀y∈ks,validN y=true∧(k=2→e=7→y.k=1))→validK k e ks=true
 | [],_=>by simp [validK]
 | x::xs,h=>by
  have h1:=h x (List.mem_cons_self ..)
  have h2:=validK_allD (k:=k) (e:=e) xs (fun y hy=>h y (List.mem_cons_of_mem _ hy))
  simp only [validK,h1.1,h2,Bool.true_and,Bool.and_true,Bool.not_eq_true',decide_eq_false_iff_not]
  intro h3
  exact h3.2.2 (h1.2 h3.1 h3.2.1)
theorem valid_nd0:validN nd0=true:=by decide
theorem datW_le (ls:List (List Int))(s a n:Int):(datW ls s a n).length≤n.toNat:=by
 unfold datW
 split
 ·unfold sliceL
  rw [List.length_take]
  omega
 ·simp
theorem trimL_twice (b:List Int)(e c:Int):trimL (trimL b e c) e c=trimL b e c:=by
 apply ext_zat
 ·rw [trimL_length,trimL_length]
 ·intro i hi
  rw [trimL_length] at hi
  rw [trimL_zat _ _ _ _ hi,trimL_zat _ _ _ _ hi]
  unfold trimAt
  rw [trimL_zat _ _ _ _ hi]
  unfold trimAt
  split
  ·rw [Int.emod_emod_of_dvd _ (Int.dvd_refl _)]
  ·rfl
theorem structV_valid {val:Int→Int→Int→Val}(hv:∀m s a,validN (val m s a).n=true)(ls:List (List Int))(m:Int)(o:Ob)(h1:0≤o.d)(h2:o.d≤65535)(h3:0≤o.p)(h4:o.p≤65535):
  validN (structV val ls m o).n=true∧((structV val ls m o).e=0→(structV val ls m o).n.k=1):=by
 unfold structV
 split
 ·rename_i h
  exact⟨valid_nd0,fun h0=>absurd h0 h⟩
 ·rename_i h
  have h0:(runK (fun m i=>val m o.sg (o.at'+o.d+i)) m o.p.toNat).e=0:=Classical.byContradiction h
  have hl:=runK_length h0
  have hk:validK 1 0 (runK (fun m i=>val m o.sg (o.at'+o.d+i)) m o.p.toNat).ks=true:=validK_allD _ fun y hy=>⟨runK_all (fun y=>validN y=true) _ (fun m i _ _=>hv _ _ _) y hy,fun h=>by omega⟩
  have hd:=datW_le ls o.sg o.at' o.d
  refine⟨?_,fun _=>rfl⟩
  show (validK 1 0 _&&headB 1 0 0 _ _)=true
  rw [hk,Bool.true_and]
  unfold headB
  rw [if_neg (by omega),if_pos rfl,decide_eq_true_iff,bytesOf_length,hl]
  omega
theorem listV_valid {val:Int→Int→Int→Val}(hv:∀m s a,validN (val m s a).n=true)(ls:List (List Int))(m:Int)(o:Ob)(h1:0≤o.d)(h2:o.d≤65535)(h3:0≤o.p)(h4:o.p≤65535)(h5:0≤o.n)(h6:o.n≤536870911)(h7:6≤o.el)(h8:o.el≤7):
  validN (listV val ls m o).n=true:=by
 unfold listV
 split
 ·exact valid_nd0
 ·rename_i h
  have h0:(runK (elemV val ls o) m o.n.toNat).e=0:=Classical.byContradiction h
  have hl:=runK_length h0
  have hk:validK 2 o.el (runK (elemV val ls o) m o.n.toNat).ks=true:=validK_allD _ fun y hy=>runK_all (fun y=>validN y=true∧((2:Int)=2→o.el=7→y.k=1)) _ (fun m i _=>by
   unfold elemV
   split
   ·rename_i h9
    exact fun _=>⟨hv _ _ _,fun _ h=>by omega⟩
   ·have h9:=structV_valid hv ls m (eleO o i) h1 h2 h3 h4
    exact fun he=>⟨h9.1,fun _ _=>h9.2 he⟩) y hy
  show (validK 2 o.el _&&headB 2 o.el o.n [] _)=true
  rw [hk,Bool.true_and]
  unfold headB
  rw [if_neg (by omega),if_neg (by omega),if_pos rfl,decide_eq_true_iff,hl]
  refine⟨h5,h6,by omega,h8,fun _=>⟨rfl,by omega⟩,fun h=>by omega⟩
theorem valV_valid {ls:List (List Int)}(hw:Wd2 ls)(hm:ls.length≤40)(hf:∀j,(seg ls j).length≤20000000):∀r m s a,validN (valV ls r m s a).n=true
 | 0,m,s,a=>by
  unfold valV
  split<;>exact valid_nd0
 | r+1,m,s,a=>by
  have ih:=fun m s a=>valV_valid hw hm hf r m s a
  have hb:=objF_num hw hm hf s a rfl
  unfold valV
  split
  ·exact valid_nd0
  ·unfold bodyV
   generalize objF ls s a=q at *
   split
   ·exact valid_nd0
   ·split
    ·exact valid_nd0
    ·split
     ·exact(structV_valid ih ls _ q.1 (by omega) (by omega) (by omega) (by omega)).1
     ·split
      ·rename_i h
       have hz:=trimL_length (bytesOf (datW ls q.1.sg q.1.at' q.1.cost)) q.1.el q.1.n
       have hy:0≤bytesI q.1.el q.1.n:=by
        have:=bitsI_mul q.1.el q.1.n (by omega)
        unfold bytesI
        omega
       show (validK 2 q.1.el []&&headB 2 q.1.el q.1.n _ [])=true
       unfold headB
       rw [if_neg (by omega),if_neg (by omega),if_pos rfl]
       simp only [validK,Bool.true_and]
       rw [decide_eq_true_iff,trimL_twice,hz]
       refine⟨by omega,by omega,by omega,by omega,fun h=>by omega,fun _=>⟨rfl,by omega,rfl⟩⟩
      ·exact listV_valid ih ls _ q.1 (by omega) (by omega) (by omega) (by omega) (by omega) (by omega) (by omega) (by omega)
theorem runK_size {f:Int→Nat→Val}{m b:Int}(hb:0≤b):∀n,(∀m i,i<n→(f m i).m≤m∧(sizeN (f m i).n:Int)≤b+10*(m-(f m i).m))→(runK f m n).m≤m∧(sizeK (runK f m n).ks:Int)≤n*b+10*(m-(runK f m n).m)
 | 0,_=>⟨Int.le_refl _,by simp [runK,sizeK]⟩
 | n+1,hs=>by
  have ih:=runK_size (f:=f) (m:=m) hb n (fun m i hi=>hs m i (by omega))
  have hnb:((n+1:Nat):Int)*b=n*b+b:=by rw [Int.natCast_add,Int.add_mul];simp
  by_cases h1:(runK f m n).e=0
  ·have h3:=hs (runK f m n).m n (by omega)
   by_cases h2:(f (runK f m n).m n).e=0
   ·rw [runK_ok h1 h2,hnb]
    simp only [sizeK_append,sizeK,Nat.add_zero,Int.natCast_add]
    omega
   ·rw [runK_no h1 h2,hnb]
    have h4:0≤(n:Int)*b:=Int.mul_nonneg (by omega) hb
    simp only [sizeK]
    omega
  ·rw [runK_keep h1 (Nat.le_succ n),hnb]
   omega
theorem sizeN_mk (k e n:Int)(d:List Int)(ks:List Nd):sizeN (.mk k e n d ks)=1+d.length+sizeK ks:=by simp [sizeN]
theorem structV_size {val:Int→Int→Int→Val}(hv:∀m s a,(val m s a).m≤m∧(sizeN (val m s a).n:Int)≤1+10*(m-(val m s a).m))(ls:List (List Int))(m:Int)(o:Ob)(h1:0≤o.d)(h3:0≤o.p):
  (structV val ls m o).m≤m∧(sizeN (structV val ls m o).n:Int)≤1+8*o.d+o.p+10*(m-(structV val ls m o).m):=by
 have hr:=runK_size (f:=fun m i=>val m o.sg (o.at'+o.d+i)) (m:=m) (b:=1) (by omega) o.p.toNat (fun m i _=>hv _ _ _)
 have hd:=datW_le ls o.sg o.at' o.d
 unfold structV
 split
 ·refine⟨hr.1,?_⟩
  show (1:Int)≤1+8*o.d+o.p+10*(m-(runK (fun m i=>val m o.sg (o.at'+o.d+i)) m o.p.toNat).m)
  omega
 ·refine⟨hr.1,?_⟩
  show ((sizeN (.mk 1 0 0 (bytesOf (datW ls o.sg o.at' o.d)) (runK (fun m i=>val m o.sg (o.at'+o.d+i)) m o.p.toNat).ks):Nat):Int)≤1+8*o.d+o.p+10*(m-(runK (fun m i=>val m o.sg (o.at'+o.d+i)) m o.p.toNat).m)
  rw [sizeN_mk,bytesOf_length]
  omega
theorem listV_size {val:Int→Int→Int→Val}(hv:∀m s a,(val m s a).m≤m∧(sizeN (val m s a).n:Int)≤1+10*(m-(val m s a).m))(ls:List (List Int))(m:Int)(o:Ob)(h1:0≤o.d)(h3:0≤o.p)(h5:0≤o.n):
  (listV val ls m o).m≤m∧(sizeN (listV val ls m o).n:Int)≤1+o.n*(1+8*o.d+o.p)+10*(m-(listV val ls m o).m):=by
 have hr:=runK_size (f:=elemV val ls o) (m:=m) (b:=1+8*o.d+o.p) (by omega) o.n.toNat (fun m i _=>by
  unfold elemV
  split
  ·have:=hv m o.sg (o.at'+i);omega
  ·exact structV_size hv ls m (eleO o i) h1 h3)
 have hn:((o.n.toNat:Nat):Int)=o.n:=by omega
 rw [hn] at hr
 have h6:0≤o.n*(1+8*o.d+o.p):=Int.mul_nonneg h5 (by omega)
 unfold listV
 split
 ·refine⟨hr.1,?_⟩
  show (1:Int)≤1+o.n*(1+8*o.d+o.p)+10*(m-(runK (elemV val ls o) m o.n.toNat).m)
  omega
 ·refine⟨hr.1,?_⟩
  show ((sizeN (.mk 2 o.el o.n [] (runK (elemV val ls o) m o.n.toNat).ks):Nat):Int)≤1+o.n*(1+8*o.d+o.p)+10*(m-(runK (elemV val ls o) m o.n.toNat).m)
  rw [sizeN_mk]
  simp only [List.length_nil]
  omega
theorem objF_cover {ls:List (List Int)}(hw:Wd2 ls)(hm:ls.length≤40)(hf:∀j,(seg ls j).length≤20000000)(s a:Int)(q:Ob×Int)(hq:objF ls s a=q)(h1:¬q.2≠0):
  (q.1.k=1→8*q.1.d+q.1.p≤10*q.1.cost)∧(¬q.1.k=1→q.1.n*(1+8*q.1.d+q.1.p)≤10*q.1.cost∨q.1.el<6)∧(¬q.1.k=1→q.1.el<6→bytesI q.1.el q.1.n≤8*q.1.cost):=by
 have h:=objF_cases hw (by omega) (fun j=>by have:=hf j;omega) s a
 rw [hq] at h
 obtain⟨⟨k,sg,at',d,p,el,n,cost⟩,e⟩:=q
 simp only [ob0,Ob.mk.injEq] at h h1 ⊢
 rcases h with ⟨⟨rfl,rfl,rfl,rfl,rfl,rfl,rfl,rfl⟩,h4⟩|⟨-,rfl,rfl,rfl,h5,h6,h7,h8,rfl,h9⟩|⟨-,rfl,h4,h5,h6,h7,rfl,rfl,rfl,h8⟩|⟨-,rfl,rfl,h4,h5,h6,h7,h8,h9,c,h10,h11,h12,h13,rfl⟩
 ·exact⟨fun h=>by omega,fun _=>.inr (by omega),fun _ _=>by show (0:Int)≤_;omega⟩
 ·exact⟨fun _=>by omega,fun h=>absurd rfl h,fun h=>absurd rfl h⟩
 ·have hb:=bitsI_mul el n h6
  refine⟨fun h=>by omega,fun _=>?_,fun _ hl=>?_⟩
  ·by_cases hl:el<6
   ·exact .inr hl
   ·have he:el=6:=by omega
    subst he
    left
    unfold wordsI bitsI
    simp
    omega
  ·unfold wordsI bytesI
   rw [if_neg (by omega)]
   omega
 ·refine⟨fun h=>by omega,fun _=>.inl ?_,fun _ h=>by omega⟩
  have e1:n*(1+8*d+p)=n+8*(n*d)+n*p:=by rw [Int.mul_add,Int.mul_add,Int.mul_one,←Int.mul_assoc,Int.mul_comm n 8,Int.mul_assoc]
  have e2:n*(d+p)=n*d+n*p:=Int.mul_add _ _ _
  have h14:0≤n*d:=Int.mul_nonneg h4 h6
  have h15:0≤n*p:=Int.mul_nonneg h4 h8
  rw [e1]
  split
  ·omega
  ·rename_i hdp
   have h16:n*1≤n*(d+p):=Int.mul_le_mul_of_nonneg_left (by omega) h4
   omega
theorem valV_size {ls:List (List Int)}(hw:Wd2 ls)(hm:ls.length≤40)(hf:∀j,(seg ls j).length≤20000000):∀r m s a,(valV ls r m s a).m≤m∧(sizeN (valV ls r m s a).n:Int)≤1+10*(m-(valV ls r m s a).m)
 | 0,m,s,a=>by
  unfold valV
  split<;>exact⟨Int.le_refl _,by show (1:Int)≤1+10*(m-m);omega⟩
 | r+1,m,s,a=>by
  have ih:=fun m s a=>valV_size hw hm hf r m s a
  have hb:=objF_num hw hm hf s a rfl
  have hc:=objF_cover hw hm hf s a _ rfl
  unfold valV
  split
  ·exact⟨Int.le_refl _,by show (1:Int)≤1+10*(m-m);omega⟩
  ·unfold bodyV
   generalize objF ls s a=q at *
   split
   ·exact⟨Int.le_refl _,by show (1:Int)≤1+10*(m-m);omega⟩
   ·rename_i h1
    have hc:=hc h1
    split
    ·exact⟨Int.le_refl _,by show (1:Int)≤1+10*(m-m);omega⟩
    ·split
     ·rename_i h3
      have h4:=structV_size ih ls (m-q.1.cost) q.1 (by omega) (by omega)
      have h5:=hc.1 h3
      omega
     ·rename_i h3
      split
      ·rename_i h4
       have h5:=hc.2.2 h3 h4
       refine⟨by show m-q.1.cost≤m;omega,?_⟩
       show ((sizeN (.mk 2 q.1.el q.1.n (trimL (bytesOf (datW ls q.1.sg q.1.at' q.1.cost)) q.1.el q.1.n) []):Nat):Int)≤1+10*(m-(m-q.1.cost))
       rw [sizeN_mk,trimL_length]
       simp only [sizeK]
       omega
      ·rename_i h4
       have h5:=(hc.2.1 h3).resolve_right h4
       have h6:=listV_size ih ls (m-q.1.cost) q.1 (by omega) (by omega) (by omega)
       omega
theorem depthK_all {r:Nat}:∀ks:List Nd,(∀y∈ks,depthN y≤r)→depthK ks≤r
 | [],_=>Nat.zero_le _
 | x::xs,h=>by
  have h1:=h x (List.mem_cons_self ..)
  have h2:=depthK_all xs fun y hy=>h y (List.mem_cons_of_mem _ hy)
  show max (depthN x) (depthK xs)≤r
  omega
theorem depthG_all {r:Nat}:∀ks:List Nd,(∀y∈ks,depthK y.ks≤r)→depthG ks≤r
 | [],_=>Nat.zero_le _
 | .mk k e n d l::xs,h=>by
  have h1:depthK l≤r:=h _ (List.mem_cons_self ..)
  have h2:=depthG_all xs fun y hy=>h y (List.mem_cons_of_mem _ hy)
  show max (depthK l) (depthG xs)≤r
  omega
theorem structV_depth {val:Int→Int→Int→Val}{r:Nat}(hv:∀m s a,depthN (val m s a).n≤r)(ls:List (List Int))(m:Int)(o:Ob):depthN (structV val ls m o).n≤r+1∧depthK (structV val ls m o).n.ks≤r:=by
 unfold structV
 split
 ·exact⟨Nat.zero_le _,Nat.zero_le _⟩
 ·have h:depthK (runK (fun m i=>val m o.sg (o.at'+o.d+i)) m o.p.toNat).ks≤r:=depthK_all _ (runK_all (fun y=>depthN y≤r) _ fun m i _ _=>hv m _ _)
  refine⟨?_,h⟩
  show (if (1:Int)=0 then 0 else 1+if (1:Int)=2∧(0:Int)=7 then _ else depthK _)≤r+1
  rw [if_neg (by omega),if_neg (by omega)]
  omega
theorem listV_depth {val:Int→Int→Int→Val}{r:Nat}(hv:∀m s a,depthN (val m s a).n≤r)(ls:List (List Int))(m:Int)(o:Ob)(h6:6≤o.el)(h7:o.el≤7):depthN (listV val ls m o).n≤r+1:=by
 unfold listV
 split
 ·exact Nat.zero_le _
 ·show (if (2:Int)=0 then 0 else 1+if (2:Int)=2∧o.el=7 then depthG _ else depthK _)≤r+1
  rw [if_neg (by omega)]
  split
  ·rename_i h
   have hg:depthG (runK (elemV val ls o) m o.n.toNat).ks≤r:=depthG_all _ (runK_all (fun y=>depthK y.ks≤r) _ fun m i _ _=>by
    unfold elemV
    rw [if_neg (by omega)]
    exact(structV_depth hv ls m (eleO o i)).2)
   omega
  ·rename_i h
   have hk:depthK (runK (elemV val ls o) m o.n.toNat).ks≤r:=depthK_all _ (runK_all (fun y=>depthN y≤r) _ fun m i _ _=>by
    unfold elemV
    rw [if_pos (by omega)]
    exact hv m _ _)
   omega
theorem valV_depth {ls:List (List Int)}(hw:Wd2 ls)(hm:ls.length≤40)(hf:∀j,(seg ls j).length≤20000000):∀r m s a,depthN (valV ls r m s a).n≤r
 | 0,m,s,a=>by
  unfold valV
  split<;>exact Nat.zero_le _
 | r+1,m,s,a=>by
  have ih:=fun m s a=>valV_depth hw hm hf r m s a
  have hb:=objF_num hw hm hf s a rfl
  unfold valV
  split
  ·exact Nat.zero_le _
  ·unfold bodyV
   generalize objF ls s a=q at *
   split
   ·exact Nat.zero_le _
   ·split
    ·exact Nat.zero_le _
    ·split
     ·exact(structV_depth ih ls _ q.1).1
     ·split
      ·rename_i h
       show (if (2:Int)=0 then 0 else 1+if (2:Int)=2∧q.1.el=7 then _ else depthK [])≤r+1
       rw [if_neg (by omega),if_neg (by omega)]
       show 1+0≤r+1
       omega
      ·exact listV_depth ih ls _ q.1 (by omega) (by omega)
def Sim (f f':Int→Nat→Val)(k:Int)(n:Nat):Prop:=∀m i,i<n→0≤m→(f m i).e=0→0≤(f m i).m+k→f' (m+k) i=⟨(f m i).n,(f m i).m+k,0⟩
def Mon (f:Int→Nat→Val)(n:Nat):Prop:=∀m i,i<n→0≤m→0≤(f m i).m∧(f m i).m≤m
theorem runK_mon {f:Int→Nat→Val}{m:Int}(h0:0≤m)(n:Nat)(h:Mon f n):0≤(runK f m n).m∧(runK f m n).m≤m:=
 runK_ind (fun x=>0≤x∧x≤m) ⟨h0,Int.le_refl _⟩ n fun m' i hi hm=>by have:=h m' i hi hm.1;omega
theorem runK_succ0 {f:Int→Nat→Val}{m:Int}{n:Nat}(h:(runK f m (n+1)).e=0):(runK f m n).e=0∧(f (runK f m n).m n).e=0:=by
 by_cases h1:(runK f m n).e=0
 ·by_cases h2:(f (runK f m n).m n).e=0
  ·exact⟨h1,h2⟩
  ·rw [runK_no h1 h2] at h;exact absurd h h2
 ·rw [runK_keep h1 (Nat.le_succ n)] at h;exact absurd h h1
theorem runK_sim {f f':Int→Nat→Val}{m k:Int}(h0:0≤m):∀n,Mon f n→Sim f f' k n→(runK f m n).e=0→0≤(runK f m n).m+k→runK f' (m+k) n=⟨(runK f m n).ks,(runK f m n).m+k,0⟩
 | 0,_,_,_,_=>rfl
 | n+1,hM,hS,he,hk=>by
  obtain⟨e1,e2⟩:=runK_succ0 he
  have hM':Mon f n:=fun m i hi=>hM m i (by omega)
  have b1:=runK_mon h0 n hM'
  have b2:=hM (runK f m n).m n (by omega) b1.1
  rw [runK_ok e1 e2] at hk ⊢
  simp only at hk ⊢
  have ih:=runK_sim h0 n hM' (fun m i hi=>hS m i (by omega)) e1 (by omega)
  have hs:=hS (runK f m n).m n (by omega) b1.1 e2 hk
  have i1:(runK f' (m+k) n).e=0:=by rw [ih]
  have i2:(f' (runK f' (m+k) n).m n).e=0:=by rw [ih];simp only;rw [hs]
  rw [runK_ok i1 i2,ih]
  simp only
  rw [hs]
structure ExtM (ls ls':List (List Int)):Prop where
 has:∀s a,hasB ls s a=true→hasB ls' s a=true
 word:∀s a,hasB ls s a=true→wordV ls' s a=wordV ls s a
 inb:∀s a n,inB ls s a n=true→inB ls' s a n=true
 dat:∀s a n,inB ls s a n=true→sliceL ls' s a n=sliceL ls s a n
theorem ExtM.refl (ls:List (List Int)):ExtM ls ls:=⟨fun _ _ h=>h,fun _ _ _=>rfl,fun _ _ _ h=>h,fun _ _ _ _=>rfl⟩
theorem ExtM.datW {ls ls':List (List Int)}(h:ExtM ls ls')(s a n:Int)(hi:inB ls s a n=true):datW ls' s a n=datW ls s a n:=by
 unfold Proofs.YtclpapddejgpnaaDoor.datW
 rw [if_pos hi,if_pos (h.inb s a n hi),h.dat s a n hi]
theorem hasB_of_in {ls:List (List Int)}{s a n:Int}(h:inB ls s a n=true)(h1:1≤n):hasB ls s a=true:=by
 have:=inB_iff.1 h
 unfold hasB
 rw [decide_eq_true_iff]
 omega
theorem inB_part {ls:List (List Int)}{s a n:Int}(h:inB ls s a n=true){b k:Int}(h1:a≤b)(h2:0≤k)(h3:b+k≤a+n):inB ls s b k=true:=by
 have:=inB_iff.1 h
 exact inB_iff.2 (by omega)
theorem followF_ext {ls ls':List (List Int)}(h:ExtM ls ls')(s a:Int)(he:(followF ls s a).e=0):followF ls' s a=followF ls s a:=by
 unfold followF at he ⊢
 by_cases h1:hasB ls s a=false
 ·rw [if_pos h1] at he;exact absurd he (by simp [folE])
 have h1':hasB ls s a=true:=by simpa using h1
 rw [if_neg h1] at he
 rw [if_neg h1,if_neg (by rw [h.has s a h1'];simp),h.word s a h1']
 generalize wordV ls s a=x at *
 by_cases h2:(x % 4==2)=false
 ·rw [if_pos h2,if_pos h2]
 rw [if_neg h2] at he
 rw [if_neg h2,if_neg h2]
 by_cases h3:hasB ls (x / 4294967296) (x % 4294967296 / 8)=false
 ·rw [if_pos h3] at he;exact absurd he (by simp [folE])
 have h3':hasB ls (x / 4294967296) (x % 4294967296 / 8)=true:=by simpa using h3
 rw [if_neg h3] at he
 rw [if_neg h3,if_neg (by rw [h.has _ _ h3'];simp),h.word _ _ h3']
 generalize wordV ls (x / 4294967296) (x % 4294967296 / 8)=y at *
 by_cases h4:x / 4 % 2=0
 ·rw [if_pos h4,if_pos h4]
 rw [if_neg h4] at he
 rw [if_neg h4,if_neg h4]
 by_cases h5:hasB ls (x / 4294967296) (x % 4294967296 / 8+1)=false
 ·rw [if_pos h5] at he;exact absurd he (by simp [folE])
 have h5':hasB ls (x / 4294967296) (x % 4294967296 / 8+1)=true:=by simpa using h5
 rw [if_neg h5,if_neg (by rw [h.has _ _ h5'];simp),h.word _ _ h5']
theorem objP_ext {ls ls':List (List Int)}(h:ExtM ls ls')(q:Ptr)(hc:0≤q.c)(s b:Int)(he:(objP ls q s b).2=0):objP ls' q s b=objP ls q s b:=by
 unfold objP at he ⊢
 by_cases h1:q.k=3
 ·rw [if_pos h1,if_pos h1]
 rw [if_neg h1] at he
 rw [if_neg h1,if_neg h1]
 by_cases h2:q.k=0
 ·rw [if_pos h2] at he
  rw [if_pos h2,if_pos h2]
  by_cases h3:inB ls s (b+q.o) (q.d+q.p)=true
  ·rw [if_pos h3,if_pos (h.inb _ _ _ h3)]
  ·rw [if_neg h3] at he;exact absurd he (by simp)
 rw [if_neg h2] at he
 rw [if_neg h2,if_neg h2]
 by_cases h3:inB ls s (b+q.o) (wordsI q.el q.c)=false
 ·rw [if_pos h3] at he;exact absurd he (by simp)
 have h3':inB ls s (b+q.o) (wordsI q.el q.c)=true:=by simpa using h3
 rw [if_neg h3,if_neg (by rw [h.inb _ _ _ h3'];simp)]
 by_cases h4:q.el=7
 ·rw [if_pos h4,if_pos h4]
  have hw:hasB ls s (b+q.o)=true:=hasB_of_in h3' (by rw [h4];unfold wordsI;simp;omega)
  unfold compF
  rw [h.word _ _ hw]
 ·rw [if_neg h4,if_neg h4]
theorem objF_ext {ls ls':List (List Int)}(h:ExtM ls ls')(hw:Wd2 ls)(hm:ls.length≤40)(hf:∀j,(seg ls j).length≤20000000)(s a:Int)(h0:¬((followF ls s a).e≠0∨(followF ls s a).w=0))(he:(objF ls s a).2=0):objF ls' s a=objF ls s a:=by
 have hb:=followF_bd hw (by omega) (fun j=>by have:=hf j;omega) s a
 have hp:=decP_bd (followF ls s a).w hb.1 hb.2.1
 have hfe:(followF ls s a).e=0:=Classical.byContradiction fun h=>h0 (.inl h)
 unfold objF at he ⊢
 rw [followF_ext h s a hfe]
 rw [if_neg h0] at he
 rw [if_neg h0,if_neg h0]
 exact objP_ext h _ (by omega) _ _ he
theorem structV_sim {ls ls':List (List Int)}{val val':Int→Int→Int→Val}{k:Int}(hv:∀m s a,0≤m→(val m s a).e=0→0≤(val m s a).m+k→val' (m+k) s a=⟨(val m s a).n,(val m s a).m+k,0⟩)(hM:∀m s a,0≤m→0≤(val m s a).m∧(val m s a).m≤m)
  (m:Int) (o:Ob) (hd:datW ls' o.sg o.at' o.d=datW ls o.sg o.at' o.d) (h0:0≤m) (he:(structV val ls m o).e=0) (hk:0≤(structV val ls m o).m+k) :
  structV val' ls' (m+k) o=⟨(structV val ls m o).n,(structV val ls m o).m+k,0⟩:=by
 unfold structV at he hk ⊢
 by_cases h:(runK (fun m i=>val m o.sg (o.at'+o.d+i)) m o.p.toNat).e=0
 ·rw [if_neg (fun h'=>h' h)] at hk
  rw [if_neg (show ¬(runK (fun m i=>val m o.sg (o.at'+o.d+i)) m o.p.toNat).e≠0 from fun h'=>h' h)]
  have hs:=runK_sim (f:=fun m i=>val m o.sg (o.at'+o.d+i)) (f':=fun m i=>val' m o.sg (o.at'+o.d+i)) (k:=k) h0 o.p.toNat (fun m i _ hm=>hM m _ _ hm) (fun m i _ hm he hk=>hv m _ _ hm he hk) h hk
  rw [hs,hd]
  rw [if_neg (fun h'=>h' rfl)]
 ·rw [if_pos h] at he
  exact absurd he h
theorem listV_sim {ls ls':List (List Int)}{val val':Int→Int→Int→Val}{k:Int}(hv:∀m s a,0≤m→(val m s a).e=0→0≤(val m s a).m+k→val' (m+k) s a=⟨(val m s a).n,(val m s a).m+k,0⟩)(hM:∀m s a,0≤m→0≤(val m s a).m∧(val m s a).m≤m)
  (m:Int) (o:Ob) (hd:o.el=7→∀i:Nat,i<o.n.toNat→datW ls' (eleO o i).sg (eleO o i).at' (eleO o i).d=datW ls (eleO o i).sg (eleO o i).at' (eleO o i).d) (h6:6≤o.el) (h7:o.el≤7) (h0:0≤m) (he:(listV val ls m o).e=0) (hk:0≤(listV val ls m o).m+k) :
  listV val' ls' (m+k) o=⟨(listV val ls m o).n,(listV val ls m o).m+k,0⟩:=by
 unfold listV at he hk ⊢
 by_cases h:(runK (elemV val ls o) m o.n.toNat).e=0
 ·rw [if_neg (fun h'=>h' h)] at hk
  rw [if_neg (show ¬(runK (elemV val ls o) m o.n.toNat).e≠0 from fun h'=>h' h)]
  have hs:=runK_sim (f:=elemV val ls o) (f':=elemV val' ls' o) (k:=k) h0 o.n.toNat (fun m i _ hm=>by
   unfold elemV
   split
   ·exact hM m _ _ hm
   ·exact structV_m hM ls m _ hm) (fun m i hi hm he hk=>by
   unfold elemV at he hk ⊢
   by_cases h66:o.el=6
   ·rw [if_pos h66] at he hk ⊢
    rw [if_pos h66]
    exact hv m _ _ hm he hk
   ·rw [if_neg h66] at he hk ⊢
    rw [if_neg h66]
    exact structV_sim hv hM m _ (hd (by omega) i hi) hm he hk) h hk
  rw [hs]
  rw [if_neg (fun h'=>h' rfl)]
 ·rw [if_pos h] at he
  exact absurd he h
theorem objF_in {ls:List (List Int)}(hw:Wd2 ls)(hm:ls.length≤40)(hf:∀j,(seg ls j).length≤20000000)(s a:Int)(q:Ob×Int)(hq:objF ls s a=q)(h1:¬q.2≠0):
  (q.1.k=1→inB ls q.1.sg q.1.at' q.1.d=true)∧(¬q.1.k=1→q.1.el<6→inB ls q.1.sg q.1.at' q.1.cost=true∨q.1=ob0)∧(¬q.1.k=1→q.1.el=7→∀i:Nat,i<q.1.n.toNat→inB ls (eleO q.1 i).sg (eleO q.1 i).at' (eleO q.1 i).d=true):=by
 have h:=objF_cases hw (by omega) (fun j=>by have:=hf j;omega) s a
 rw [hq] at h
 obtain⟨⟨k,sg,at',d,p,el,n,cost⟩,e⟩:=q
 simp only [ob0,Ob.mk.injEq] at h h1 ⊢
 rcases h with ⟨⟨rfl,rfl,rfl,rfl,rfl,rfl,rfl,rfl⟩,h4⟩|⟨-,rfl,rfl,rfl,h5,h6,h7,h8,rfl,h9⟩|⟨-,rfl,h4,h5,h6,h7,rfl,rfl,rfl,h8⟩|⟨-,rfl,rfl,h4,h5,h6,h7,h8,h9,c,h10,h11,h12,h13,rfl⟩
 ·exact⟨fun h=>by omega,fun _ _=>.inr (by simp),fun _ h=>by omega⟩
 ·exact⟨fun _=>inB_part h9 (Int.le_refl _) h5 (by omega),fun h=>absurd rfl h,fun h=>absurd rfl h⟩
 ·exact⟨fun h=>by omega,fun _ _=>.inl h8,fun _ h=>by omega⟩
 ·refine⟨fun h=>by omega,fun _ h=>by omega,fun _ _ i hi=>?_⟩
  have hin:(i:Int)+1≤n:=by omega
  have e1:((i:Int)+1)*(d+p)≤n*(d+p):=Int.mul_le_mul_of_nonneg_right hin (by omega)
  rw [Int.add_mul,Int.one_mul] at e1
  have e2:0≤(i:Int)*(d+p):=Int.mul_nonneg (by omega) (by omega)
  exact inB_part h13 (by show at'-1≤at'+(i:Int)*(d+p);omega) h6 (by show at'+(i:Int)*(d+p)+d≤at'-1+(c+1);omega)
theorem valV_sim {ls ls':List (List Int)}(h:ExtM ls ls')(hw:Wd2 ls)(hm:ls.length≤40)(hf:∀j,(seg ls j).length≤20000000){k:Int}:∀r r' m s a,r≤r'→0≤m→(valV ls r m s a).e=0→0≤(valV ls r m s a).m+k→valV ls' r' (m+k) s a=⟨(valV ls r m s a).n,(valV ls r m s a).m+k,0⟩
 | 0,r',m,s,a,hr,h0,he,hk=>by
  unfold valV at he hk ⊢
  by_cases hn:(followF ls s a).e≠0∨(followF ls s a).w=0
  ·rw [if_pos hn] at he
   have hfe:(followF ls s a).e=0:=he
   have hn':(followF ls' s a).e≠0∨(followF ls' s a).w=0:=by rw [followF_ext h s a hfe];exact hn
   rw [if_pos hn]
   cases r'<;>(simp only;rw [if_pos hn',followF_ext h s a hfe,hfe];rfl)
  ·rw [if_neg hn] at he
   exact absurd he (by simp [errV])
 | r+1,r',m,s,a,hr,h0,he,hk=>by
  obtain⟨r'',rfl⟩:∃x,r'=x+1:=⟨r'-1,by omega⟩
  have ih:=fun m s a h0 he hk=>valV_sim h hw hm hf (k:=k) r r'' m s a (by omega) h0 he hk
  have hM:=fun m s a h0=>valV_m hw hm hf r m s a h0
  unfold valV at he hk ⊢
  by_cases hn:(followF ls s a).e≠0∨(followF ls s a).w=0
  ·rw [if_pos hn] at he
   have hfe:(followF ls s a).e=0:=he
   have hn':(followF ls' s a).e≠0∨(followF ls' s a).w=0:=by rw [followF_ext h s a hfe];exact hn
   rw [if_pos hn,if_pos hn',followF_ext h s a hfe,hfe]
   rfl
  ·have hfe:(followF ls s a).e=0:=Classical.byContradiction fun h=>hn (.inl h)
   have hn':¬((followF ls' s a).e≠0∨(followF ls' s a).w=0):=by rw [followF_ext h s a hfe];exact hn
   rw [if_neg hn] at he hk
   rw [if_neg hn,if_neg hn']
   by_cases h1:(objF ls s a).2≠0
   ·unfold bodyV at he
    rw [if_pos h1] at he
    exact absurd he h1
   have hin:=objF_in hw hm hf s a _ rfl h1
   have hnm:=objF_num hw hm hf s a rfl
   rw [objF_ext h hw hm hf s a hn (Classical.byContradiction h1)]
   unfold bodyV at he hk ⊢
   generalize objF ls s a=q at *
   rw [if_neg h1] at he hk
   rw [if_neg h1,if_neg h1]
   by_cases h2:m<q.1.cost
   ·rw [if_pos h2] at he
    exact absurd he (by simp [errV])
   rw [if_neg h2] at he hk
   rw [if_neg h2]
   have hmk:m+k-q.1.cost=m-q.1.cost+k:=by omega
   rw [hmk]
   by_cases h3:q.1.k=1
   ·rw [if_pos h3] at he hk
    rw [if_pos h3,if_pos h3]
    have hb:=structV_m hM ls (m-q.1.cost) q.1 (by omega)
    rw [if_neg (by omega)]
    exact structV_sim ih hM _ _ (h.datW _ _ _ (hin.1 h3)) (by omega) he hk
   rw [if_neg h3] at he hk
   rw [if_neg h3,if_neg h3]
   by_cases h4:q.1.el<6
   ·rw [if_pos h4] at he hk
    rw [if_pos h4,if_pos h4]
    simp only at hk
    rw [if_neg (by omega)]
    rcases hin.2.1 h3 h4 with h5|h5
    ·rw [h.datW _ _ _ h5]
    ·rw [h5]
     simp [ob0,Proofs.YtclpapddejgpnaaDoor.datW,sliceL]
   ·rw [if_neg h4] at he hk
    rw [if_neg h4,if_neg h4]
    have hb:=listV_m hM ls (m-q.1.cost) q.1 (by omega)
    rw [if_neg (by omega)]
    exact listV_sim ih hM _ _ (fun h7 i hi=>h.datW _ _ _ (hin.2.2 h3 h7 i hi)) (by omega) (by omega) (by omega) he hk
section
open Classical in
noncomputable def visB (vis:Int→Int→Int) (W:List Int) (nx a:Int):Int:=
  if wordV [W] 0 a=0 then nx
  else if 1<(decP (wordV [W] 0 a)).k then -1
  else if (decP (wordV [W] 0 a)).k=0∧(decP (wordV [W] 0 a)).d+(decP (wordV [W] 0 a)).p=0 then (if (decP (wordV [W] 0 a)).o≠-1 then -1 else nx)
  else if a+1+(decP (wordV [W] 0 a)).o≠nx then -1
  else if (decP (wordV [W] 0 a)).k=0 then
    (if (0<(decP (wordV [W] 0 a)).d∧wordV [W] 0 (nx+(decP (wordV [W] 0 a)).d-1)=0)∨(0<(decP (wordV [W] 0 a)).p∧wordV [W] 0 (nx+(decP (wordV [W] 0 a)).d+(decP (wordV [W] 0 a)).p-1)=0) then -1
     else chkR (fun e i=>vis e (nx+(decP (wordV [W] 0 a)).d+(i:Int))) (nx+((decP (wordV [W] 0 a)).d+(decP (wordV [W] 0 a)).p)) (decP (wordV [W] 0 a)).p.toNat)
  else if (decP (wordV [W] 0 a)).el=6 then chkR (fun e i=>vis e (nx+(i:Int))) (nx+wordsI 6 (decP (wordV [W] 0 a)).c) (decP (wordV [W] 0 a)).c.toNat
  else if (decP (wordV [W] 0 a)).el<6 then
    (if bytesOf (datW [W] 0 nx (wordsI (decP (wordV [W] 0 a)).el (decP (wordV [W] 0 a)).c))=trimL (bytesOf (datW [W] 0 nx (wordsI (decP (wordV [W] 0 a)).el (decP (wordV [W] 0 a)).c))) (decP (wordV [W] 0 a)).el (decP (wordV [W] 0 a)).c++List.replicate (8*(wordsI (decP (wordV [W] 0 a)).el (decP (wordV [W] 0 a)).c).toNat-(trimL (bytesOf (datW [W] 0 nx (wordsI (decP (wordV [W] 0 a)).el (decP (wordV [W] 0 a)).c))) (decP (wordV [W] 0 a)).el (decP (wordV [W] 0 a)).c).length) 0
     then nx+wordsI (decP (wordV [W] 0 a)).el (decP (wordV [W] 0 a)).c else -1)
  else if (decP (wordV [W] 0 nx)).o*((decP (wordV [W] 0 nx)).d+(decP (wordV [W] 0 nx)).p)≠(decP (wordV [W] 0 a)).c then -1
  else if ((decP (wordV [W] 0 nx)).d=0∨∃j:Nat,(j:Int)<(decP (wordV [W] 0 nx)).o∧wordV [W] 0 (nx+1+j*((decP (wordV [W] 0 nx)).d+(decP (wordV [W] 0 nx)).p)+(decP (wordV [W] 0 nx)).d-1)≠0) ∧
      ((decP (wordV [W] 0 nx)).p=0∨∃j:Nat,(j:Int)<(decP (wordV [W] 0 nx)).o∧wordV [W] 0 (nx+1+j*((decP (wordV [W] 0 nx)).d+(decP (wordV [W] 0 nx)).p)+(decP (wordV [W] 0 nx)).d+(decP (wordV [W] 0 nx)).p-1)≠0)
    then chkR (fun e j=>chkR (fun e' i=>vis e' (nx+1+(j:Int)*((decP (wordV [W] 0 nx)).d+(decP (wordV [W] 0 nx)).p)+(decP (wordV [W] 0 nx)).d+(i:Int))) e (decP (wordV [W] 0 nx)).p.toNat) (nx+1+(decP (wordV [W] 0 nx)).o*((decP (wordV [W] 0 nx)).d+(decP (wordV [W] 0 nx)).p)) (decP (wordV [W] 0 nx)).o.toNat
    else -1
noncomputable def visC (W:List Int):Nat→Int→Int→Int
 | 0=>fun nx a=>if wordV [W] 0 a=0 then nx else -1
 | r+1=>fun nx a=>visB (visC W r) W nx a
theorem runK_get {f:Int→Nat→Val}{m:Int}:∀{n:Nat},(runK f m n).e=0→∀j (hj:j<(runK f m n).ks.length),(f (runK f m j).m j).e=0∧(runK f m n).ks[j]=(f (runK f m j).m j).n
 | 0,_,j,hj=>by simp [runK] at hj
 | n+1,h,j,hj=>by
  by_cases h1:(runK f m n).e=0
  ·by_cases h2:(f (runK f m n).m n).e=0
   ·have h3:=runK_ok h1 h2
    have hl:=runK_length h1
    have hj2:j<n+1:=by rw [h3] at hj;simp at hj;omega
    by_cases e:j=n
    ·subst e
     refine⟨h2,?_⟩
     simp only [h3]
     rw [List.getElem_append_right (by omega)]
     simp [hl]
    ·obtain⟨g1,g2⟩:=runK_get h1 j (by omega)
     refine⟨g1,?_⟩
     simp only [h3]
     rw [List.getElem_append_left (by omega)]
     exact g2
   ·rw [runK_no h1 h2] at h
    exact absurd h h2
  ·rw [runK_keep h1 (Nat.le_succ n)] at h
   exact absurd h h1
theorem structV_ok {val:Int→Int→Int→Val}{ls:List (List Int)}{m:Int}{o:Ob}(h:(structV val ls m o).e=0):
  (runK (fun m (i:Nat)=>val m o.sg (o.at'+o.d+(i:Int))) m o.p.toNat).e=0∧(structV val ls m o).n=.mk 1 0 0 (bytesOf (datW ls o.sg o.at' o.d)) (runK (fun m (i:Nat)=>val m o.sg (o.at'+o.d+(i:Int))) m o.p.toNat).ks:=by
 unfold structV at h ⊢
 by_cases h1:(runK (fun m (i:Nat)=>val m o.sg (o.at'+o.d+(i:Int))) m o.p.toNat).e≠0
 ·rw [if_pos h1] at h
  exact absurd h h1
 ·rw [if_neg h1]
  exact⟨Classical.byContradiction h1,rfl⟩
theorem listV_ok {val:Int→Int→Int→Val}{ls:List (List Int)}{m:Int}{o:Ob}(h:(listV val ls m o).e=0):
  (runK (elemV val ls o) m o.n.toNat).e=0∧(listV val ls m o).n=.mk 2 o.el o.n [] (runK (elemV val ls o) m o.n.toNat).ks:=by
 unfold listV at h ⊢
 by_cases h1:(runK (elemV val ls o) m o.n.toNat).e≠0
 ·rw [if_pos h1] at h
  exact absurd h h1
 ·rw [if_neg h1]
  exact⟨Classical.byContradiction h1,rfl⟩
def Tells (W:List Int)(r:Nat):Prop:=∀(m:Int) (a nx:Nat),a<W.length→nx≤W.length→(valV [W] r m 0 (a:Int)).e=0→visC W r (nx:Int) (a:Int)=layV W nx a (trimN (valV [W] r m 0 (a:Int)).n)
theorem row_vis {W:List Int}{r:Nat}(IH:Tells W r){P n nx:Nat}{m:Int}(hP:P+n≤W.length)(hn:nx≤W.length){g:Int→Nat→Val}(hg:∀m (i:Nat),g m i=valV [W] r m 0 ((P+i:Nat):Int))(hR:(runK g m n).e=0){f:Int→Nat→Int}(hf:∀e (i:Nat),f e i=visC W r e ((P+i:Nat):Int)):
  chkR f (nx:Int) n=layVK W nx P (trimK (runK g m n).ks):=by
 have hl:=runK_length hR
 have htl:=trimK_length (runK g m n).ks
 have h:=chkR_all (f:=f) (W:=W) (P:=P) (nx:=nx) (ts:=trimK (runK g m n).ks) hn (fun j hj q hq=>by
  have hj2:j<(runK g m n).ks.length:=by omega
  obtain⟨h1,h2⟩:=runK_get hR j hj2
  rw [hg] at h1 h2
  rw [hf,trimK_get _ j hj2,h2]
  exact IH _ (P+j) q (by omega) hq h1)
 rw [htl,hl] at h
 exact h
theorem row_valid {W:List Int}(hw:Wd2 [W])(hf:∀j,(seg [W] j).length≤20000000){r P n:Nat}{m:Int}{g:Int→Nat→Val}(hg:∀m (i:Nat),g m i=valV [W] r m 0 ((P+i:Nat):Int)):∀y∈(runK g m n).ks,validN y=true:=
 runK_all (fun y=>validN y=true) n (fun m i _ _=>by rw [hg];exact valV_valid hw (by simp) hf r m 0 _)
theorem word_iff {w:Int}{q:Ptr}(h0:0≤w)(h1:w<18446744073709551616)(hq:Vld q):w=encW q↔decP w=q:=⟨fun h=>by rw [h,decP_encW q hq],fun h=>by rw [←h,encW_decP w h0 h1]⟩
end
end Go.Proofs.YtclpapddejgpnaaDoor
