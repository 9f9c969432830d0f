/- The texts Obj08b, ObjNum, Den (what is wanted of them), one after the other. -/
import Derived.Test.YtfaflahfjgnphaaDoorMg14
import Derived.Test.YtfaflahfjgnphaaDoorMg15
import Derived.Test.YtfaflahfjgnphaaDoorMg18
namespace Go.Proofs.YtfaflahfjgnphaaDoor
open Go.ChangeShapes Go.WideShapes Go.ChangeAt Go.RowKit
set_option linter.unusedVariables false
set_option linter.unusedSimpArgs false
set_option maxRecDepth 100000
def obA (o:Ob):Array Value:=#[.int .i64 o.k,.int .i64 o.sg,.int .i64 o.at',.int .i64 o.d,.int .i64 o.p,.int .i64 o.el,.int .i64 o.n,.int .i64 o.cost]
def eleO (o:Ob)(i:Int):Ob:=⟨1,o.sg,o.at'+i*(o.d+o.p),o.d,o.p,0,0,0⟩
def ptrO (o:Ob):Int×Int:=if o.k=1∧0<o.p then (o.at'+o.d,o.p) else if o.k=2∧o.el=6∧0<o.n then (o.at',o.n) else (0,0)
theorem inB_iff {ls:List (List Int)}{s a n:Int}:inB ls s a n=true↔0≤s∧s<ls.length∧0≤a∧0≤n∧a+n≤(seg ls s.toNat).length:=by
 unfold inB
 rw [decide_eq_true_iff]
 constructor<;>intro h<;>omega
theorem objF_cases {ls:List (List Int)}(hw:Wd2 ls)(hm:ls.length≤140737488355328)(hf:∀j,(seg ls j).length≤140737488355328)(s a:Int):
  ((objF ls s a).1=ob0∧((objF ls s a).2=0∨2≤(objF ls s a).2∧(objF ls s a).2≤6)) ∨
  ((objF ls s a).2=0∧(objF ls s a).1.k=1∧(objF ls s a).1.el=0∧(objF ls s a).1.n=0∧0≤(objF ls s a).1.d∧(objF ls s a).1.d≤65535∧0≤(objF ls s a).1.p∧(objF ls s a).1.p≤65535∧(objF ls s a).1.cost=(objF ls s a).1.d+(objF ls s a).1.p∧inB ls (objF ls s a).1.sg (objF ls s a).1.at' ((objF ls s a).1.d+(objF ls s a).1.p)=true) ∨
  ((objF ls s a).2=0∧(objF ls s a).1.k=2∧0≤(objF ls s a).1.el∧(objF ls s a).1.el≤6∧0≤(objF ls s a).1.n∧(objF ls s a).1.n≤536870911∧(objF ls s a).1.d=0∧(objF ls s a).1.p=0∧(objF ls s a).1.cost=wordsI (objF ls s a).1.el (objF ls s a).1.n∧inB ls (objF ls s a).1.sg (objF ls s a).1.at' (objF ls s a).1.cost=true) ∨
  ((objF ls s a).2=0∧(objF ls s a).1.k=2∧(objF ls s a).1.el=7∧0≤(objF ls s a).1.n∧(objF ls s a).1.n≤536870911∧0≤(objF ls s a).1.d∧(objF ls s a).1.d≤65535∧0≤(objF ls s a).1.p∧(objF ls s a).1.p≤65535 ∧
   ∃c,0≤c∧c≤536870911∧(objF ls s a).1.n*((objF ls s a).1.d+(objF ls s a).1.p)≤c∧inB ls (objF ls s a).1.sg ((objF ls s a).1.at'-1) (c+1)=true∧(objF ls s a).1.cost=c+1+if (objF ls s a).1.d+(objF ls s a).1.p=0 then (objF ls s a).1.n else 0):=by
 have hbd:=followF_bd hw hm hf s a
 have hpd:=decP_bd (followF ls s a).w hbd.1 hbd.2.1
 have he:(followF ls s a).e=0∨2≤(followF ls s a).e∧(followF ls s a).e≤3:=by
  unfold followF
  repeat' split
  all_goals simp [folE]
 unfold objF
 generalize followF ls s a=q at *
 by_cases h1:q.e≠0∨q.w=0
 ·rw [if_pos h1]
  exact .inl ⟨rfl,by show q.e=0∨2≤q.e∧q.e≤6;omega⟩
 rw [if_neg h1]
 unfold objP
 generalize decP q.w=p at *
 by_cases h3:p.k=3
 ·rw [if_pos h3]
  refine .inl ⟨rfl,.inr ?_⟩
  show 2≤(if p.lo=0 then (6:Int) else 4)∧(if p.lo=0 then (6:Int) else 4)≤6
  split<;>omega
 rw [if_neg h3]
 by_cases h4:p.k=0
 ·rw [if_pos h4]
  by_cases h5:inB ls q.s (q.b+p.o) (p.d+p.p)=true
  ·rw [if_pos h5]
   exact .inr (.inl ⟨rfl,rfl,rfl,rfl,by show 0≤p.d;omega,by show p.d≤65535;omega,by show 0≤p.p;omega,by show p.p≤65535;omega,rfl,h5⟩)
  ·rw [if_neg h5]
   exact .inl ⟨rfl,.inr ⟨by show (2:Int)≤2;omega,by show (2:Int)≤6;omega⟩⟩
 rw [if_neg h4]
 by_cases h5:inB ls q.s (q.b+p.o) (wordsI p.el p.c)=false
 ·rw [if_pos h5]
  exact .inl ⟨rfl,.inr ⟨by show (2:Int)≤2;omega,by show (2:Int)≤6;omega⟩⟩
 rw [if_neg h5]
 have h5':inB ls q.s (q.b+p.o) (wordsI p.el p.c)=true:=by simpa using h5
 by_cases h7:p.el=7
 ·rw [if_pos h7]
  have hwd:=wordV_bd hw q.s (q.b+p.o)
  have htd:=decP_bd _ hwd.1 hwd.2
  unfold compF
  generalize decP (wordV ls q.s (q.b+p.o))=t at *
  by_cases h8:t.k≠0∨t.o<0∨p.c<t.o*(t.d+t.p)
  ·rw [if_pos h8]
   exact .inl ⟨rfl,.inr ⟨by show (2:Int)≤5;omega,by show (5:Int)≤6;omega⟩⟩
  ·rw [if_neg h8]
   rw [h7] at h5'
   refine .inr (.inr (.inr ⟨rfl,rfl,rfl,by show 0≤t.o;omega,by show t.o≤536870911;omega,by show 0≤t.d;omega,by show t.d≤65535;omega,by show 0≤t.p;omega,by show t.p≤65535;omega,p.c,by omega,by omega,by show t.o*(t.d+t.p)≤p.c;omega,?_,?_⟩))
   ·show inB ls q.s (q.b+p.o+1-1) (p.c+1)=true
    rw [show q.b+p.o+1-1=q.b+p.o by omega]
    exact h5'
   ·show (if t.d+t.p=0 then wordsI p.el p.c+t.o else wordsI p.el p.c)=p.c+1+if t.d+t.p=0 then t.o else 0
    rw [h7]
    show (if t.d+t.p=0 then p.c+1+t.o else p.c+1)=_
    split<;>omega
 ·rw [if_neg h7]
  exact .inr (.inr (.inl ⟨rfl,rfl,by show 0≤p.el;omega,by show p.el≤6;omega,by show 0≤p.c;omega,by show p.c≤536870911;omega,rfl,rfl,rfl,h5'⟩))
structure Val where
 n:Nd
 m:Int
 e:Int
def errV (m e:Int):Val:=⟨nd0,m,e⟩
structure Vls where
 ks:List Nd
 m:Int
 e:Int
def runK (f:Int→Nat→Val)(m:Int):Nat→Vls
 | 0=>⟨[],m,0⟩
 | i+1=>if (runK f m i).e≠0 then runK f m i else if (f (runK f m i).m i).e≠0 then ⟨[],(f (runK f m i).m i).m,(f (runK f m i).m i).e⟩ else ⟨(runK f m i).ks++[(f (runK f m i).m i).n],(f (runK f m i).m i).m,0⟩
def datW (ls:List (List Int))(s a n:Int):List Int:=if inB ls s a n=true then sliceL ls s a n else []
def structV (val:Int→Int→Int→Val)(ls:List (List Int))(m:Int)(o:Ob):Val:=
 if (runK (fun m i=>val m o.sg (o.at'+o.d+i)) m o.p.toNat).e≠0 then errV (runK (fun m i=>val m o.sg (o.at'+o.d+i)) m o.p.toNat).m (runK (fun m i=>val m o.sg (o.at'+o.d+i)) m o.p.toNat).e
 else ⟨.mk 1 0 0 (bytesOf (datW ls o.sg o.at' o.d)) (runK (fun m i=>val m o.sg (o.at'+o.d+i)) m o.p.toNat).ks,(runK (fun m i=>val m o.sg (o.at'+o.d+i)) m o.p.toNat).m,0⟩
def elemV (val:Int→Int→Int→Val)(ls:List (List Int))(o:Ob)(m:Int)(i:Nat):Val:=if o.el=6 then val m o.sg (o.at'+i) else structV val ls m (eleO o i)
def listV (val:Int→Int→Int→Val)(ls:List (List Int))(m:Int)(o:Ob):Val:=
 if (runK (elemV val ls o) m o.n.toNat).e≠0 then errV (runK (elemV val ls o) m o.n.toNat).m (runK (elemV val ls o) m o.n.toNat).e
 else ⟨.mk 2 o.el o.n [] (runK (elemV val ls o) m o.n.toNat).ks,(runK (elemV val ls o) m o.n.toNat).m,0⟩
def bodyV (val:Int→Int→Int→Val)(ls:List (List Int))(m:Int)(q:Ob×Int):Val:=
 if q.2≠0 then errV m q.2
 else if m<q.1.cost then errV m 8
 else if q.1.k=1 then structV val ls (m-q.1.cost) q.1
 else if q.1.el<6 then ⟨.mk 2 q.1.el q.1.n (trimL (bytesOf (datW ls q.1.sg q.1.at' q.1.cost)) q.1.el q.1.n) [],m-q.1.cost,0⟩
 else listV val ls (m-q.1.cost) q.1
def valV (ls:List (List Int)):Nat→Int→Int→Int→Val
 | 0,m,s,a=>if (followF ls s a).e≠0∨(followF ls s a).w=0 then errV m (followF ls s a).e else errV m 7
 | r+1,m,s,a=>if (followF ls s a).e≠0∨(followF ls s a).w=0 then errV m (followF ls s a).e else bodyV (valV ls r) ls m (objF ls s a)
theorem runK_keep {f:Int→Nat→Val}{m:Int}{i j:Nat}(h:(runK f m i).e≠0)(hij:i≤j):runK f m j=runK f m i:=by
  induction j with
  | zero => obtain rfl : i = 0 := by omega
            rfl
  | succ j ih=>
    by_cases e:i=j+1
    · subst e;rfl
    · have:=ih (by omega)
      show (if (runK f m j).e≠0 then runK f m j else _)=_
      rw [this,if_pos h]
theorem runK_ok {f:Int→Nat→Val}{m:Int}{i:Nat}(h:(runK f m i).e=0)(hf:(f (runK f m i).m i).e=0):runK f m (i+1)=⟨(runK f m i).ks++[(f (runK f m i).m i).n],(f (runK f m i).m i).m,0⟩:=by
 show (if (runK f m i).e≠0 then runK f m i else if (f (runK f m i).m i).e≠0 then _ else _)=_
 rw [if_neg (by rw [h];simp),if_neg (by rw [hf];simp)]
theorem runK_no {f:Int→Nat→Val}{m:Int}{i:Nat}(h:(runK f m i).e=0)(hf:(f (runK f m i).m i).e≠0):runK f m (i+1)=⟨[],(f (runK f m i).m i).m,(f (runK f m i).m i).e⟩:=by
 show (if (runK f m i).e≠0 then runK f m i else if (f (runK f m i).m i).e≠0 then _ else _)=_
 rw [if_neg (by rw [h];simp),if_pos hf]
theorem runK_length {f:Int→Nat→Val}{m:Int}:∀{i:Nat},(runK f m i).e=0→(runK f m i).ks.length=i
 | 0,_=>rfl
 | i+1,h=>by
  by_cases h1:(runK f m i).e=0
  ·by_cases h2:(f (runK f m i).m i).e=0
   ·rw [runK_ok h1 h2]
    simp [runK_length h1]
   ·rw [runK_no h1 h2] at h
    exact absurd h h2
  ·rw [runK_keep h1 (Nat.le_succ i)] at h
   exact absurd h h1
theorem runK_ind {f:Int→Nat→Val}{m:Int}(P:Int→Prop)(h0:P m):∀n,(∀m i,i<n→P m→P (f m i).m)→P (runK f m n).m
 | 0,_=>h0
 | n+1,hs=>by
  have ih:=runK_ind P h0 n (fun m i hi=>hs m i (by omega))
  by_cases h1:(runK f m n).e=0
  ·have h3:=hs _ n (by omega) ih
   by_cases h2:(f (runK f m n).m n).e=0
   ·rw [runK_ok h1 h2];exact h3
   ·rw [runK_no h1 h2];exact h3
  ·rw [runK_keep h1 (Nat.le_succ n)];exact ih
theorem structV_m {val:Int→Int→Int→Val}(hv:∀m s a,0≤m→0≤(val m s a).m∧(val m s a).m≤m)(ls:List (List Int))(m:Int)(o:Ob)(h:0≤m):0≤(structV val ls m o).m∧(structV val ls m o).m≤m:=by
 have h1:=runK_ind (f:=fun m i=>val m o.sg (o.at'+o.d+i)) (m:=m) (fun x=>0≤x∧x≤m) ⟨h,Int.le_refl _⟩ o.p.toNat (fun m' i _ hm=>by
  have:=hv m' o.sg (o.at'+o.d+i) hm.1
  show 0≤(val m' o.sg (o.at'+o.d+i)).m∧_
  omega)
 unfold structV
 split
 ·exact h1
 ·exact h1
theorem listV_m {val:Int→Int→Int→Val}(hv:∀m s a,0≤m→0≤(val m s a).m∧(val m s a).m≤m)(ls:List (List Int))(m:Int)(o:Ob)(h:0≤m):0≤(listV val ls m o).m∧(listV val ls m o).m≤m:=by
 have h1:=runK_ind (f:=elemV val ls o) (m:=m) (fun x=>0≤x∧x≤m) ⟨h,Int.le_refl _⟩ o.n.toNat (fun m' i _ hm=>by
  unfold elemV
  split
  ·have:=hv m' o.sg (o.at'+i) hm.1;omega
  ·have:=structV_m hv ls m' (eleO o i) hm.1;omega)
 unfold listV
 split
 ·exact h1
 ·exact h1
theorem objF_bd2 {ls:List (List Int)}(hw:Wd2 ls)(hm:ls.length≤40)(hf:∀j,(seg ls j).length≤20000000)(s a k sg at' d p el n cost e:Int)(hq:objF ls s a=(⟨k,sg,at',d,p,el,n,cost⟩,e)):
  0≤k∧k≤2∧0≤sg∧sg≤40∧0≤at'∧at'≤20000001∧0≤d∧d≤65535∧0≤p∧p≤65535∧0≤el∧el≤7∧0≤n∧n≤536870911∧0≤cost∧cost≤1073741824∧0≤e∧e≤6∧0≤n*(d+p)∧n*(d+p)≤20000000:=by
 have h:=objF_cases hw (by omega) (fun j=>by have:=hf j;omega) s a
 rw [hq] at h
 simp only [ob0,Ob.mk.injEq] at h
 rcases h with ⟨⟨rfl,rfl,rfl,rfl,rfl,rfl,rfl,rfl⟩,h2⟩|⟨rfl,rfl,rfl,rfl,h1,h2,h3,h4,rfl,h5⟩|⟨rfl,rfl,h1,h2,h3,h4,rfl,rfl,rfl,h5⟩|⟨rfl,rfl,rfl,h1,h2,h3,h4,h5,h6,c,h7,h8,h9,h10,rfl⟩
 ·omega
 ·have h6:=inB_iff.1 h5
  have h7:=hf sg.toNat
  have h8:(0:Int)*(d+p)=0:=Int.zero_mul _
  omega
 ·have h6:=inB_iff.1 h5
  have h7:=hf sg.toNat
  have h8:n*(0+0)=0:=Int.mul_zero _
  have h9:=wordsI_lim el n h3 h4
  omega
 ·have h11:=inB_iff.1 h10
  have h12:=hf sg.toNat
  have h13:0≤n*(d+p):=Int.mul_nonneg (by omega) (by omega)
  split<;>omega
theorem objF_num {ls:List (List Int)}(hw:Wd2 ls)(hm:ls.length≤40)(hf:∀j,(seg ls j).length≤20000000)(s a:Int){q:Ob×Int}(hq:objF ls s a=q):
  0≤q.1.k∧q.1.k≤2∧0≤q.1.sg∧q.1.sg≤40∧0≤q.1.at'∧q.1.at'≤20000001∧0≤q.1.d∧q.1.d≤65535∧0≤q.1.p∧q.1.p≤65535∧0≤q.1.el∧q.1.el≤7∧0≤q.1.n∧q.1.n≤536870911∧0≤q.1.cost∧q.1.cost≤1073741824∧0≤q.2∧q.2≤6∧0≤q.1.n*(q.1.d+q.1.p)∧q.1.n*(q.1.d+q.1.p)≤20000000:=by
 obtain⟨⟨k,sg,at',d,p,el,n,cost⟩,e⟩:=q
 exact objF_bd2 hw hm hf s a k sg at' d p el n cost e hq
theorem valV_m {ls:List (List Int)}(hw:Wd2 ls)(hm:ls.length≤40)(hf:∀j,(seg ls j).length≤20000000):∀r m s a,0≤m→0≤(valV ls r m s a).m∧(valV ls r m s a).m≤m
 | 0,m,s,a,h=>by
  unfold valV
  split<;>exact⟨h,Int.le_refl _⟩
 | r+1,m,s,a,h=>by
  have ih:=fun m s a h=>valV_m hw hm hf r m s a h
  unfold valV
  split
  ·exact⟨h,Int.le_refl _⟩
  ·have hc:0≤(objF ls s a).1.cost:=(objF_num hw hm hf s a rfl).2.2.2.2.2.2.2.2.2.2.2.2.2.2.1
   unfold bodyV
   generalize objF ls s a=q at *
   split
   ·exact⟨h,Int.le_refl _⟩
   ·split
    ·exact⟨h,Int.le_refl _⟩
    ·split
     ·have:=structV_m ih ls (m-q.1.cost) q.1 (by omega);omega
     ·split
      ·show 0≤m-q.1.cost∧m-q.1.cost≤m;omega
      ·have:=listV_m ih ls (m-q.1.cost) q.1 (by omega);omega
end Go.Proofs.YtfaflahfjgnphaaDoor
