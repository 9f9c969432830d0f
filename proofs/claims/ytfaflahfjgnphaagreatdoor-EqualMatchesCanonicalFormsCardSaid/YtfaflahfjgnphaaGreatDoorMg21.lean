/- The texts Obj08b, ObjNum, Den, RegionU, NodeU, RowG, DenC, DenD (what is wanted of them), one after the other. -/
import Derived.Test.YtfaflahfjgnphaaGreatDoorMg14
import Derived.Test.YtfaflahfjgnphaaGreatDoorMg20
import Derived.Laws.EntriesVeiled
namespace Go.Proofs.YtfaflahfjgnphaaGreatDoor
open Go.ChangeShapes Go.WideShapes Go.ChangeAt Go.RowKit
set_option linter.unusedVariables false
set_option linter.unusedSimpArgs false
set_option maxRecDepth 100000
def obA (o:Ob):Array Value:=#[.int .i64 o.k,.int .i64 o.sg,.int .i64 o.at',.int .i64 o.d,.int .i64 o.p,.int .i64 o.el,.int .i64 o.n,.int .i64 o.cost]
theorem RefObject_any (A:Option Addr)(c:Nat)(ls:List (List Int))(s a:Int)(w:World)(hs:Sg w A ls)(hw:Wd2 ls)(hm:ls.length≤140737488355328)(hf:∀j,(seg ls j).length≤140737488355328):
  Calls Tryz.prog 57 #[.slice A ls.length c,.int .i64 s,.int .i64 a] w fun e w'=>e=.returned (.tuple #[.agg #[.int .i64 (objF ls s a).1.k,.int .i64 (objF ls s a).1.sg,.int .i64 (objF ls s a).1.at',.int .i64 (objF ls s a).1.d,.int .i64 (objF ls s a).1.p,.int .i64 (objF ls s a).1.el,.int .i64 (objF ls s a).1.n,.int .i64 (objF ls s a).1.cost],.int .i64 (objF ls s a).2])∧Below w.heap.size w w':=by
 by_cases h1:(followF ls s a).e=0
 ·by_cases h2:(followF ls s a).w=0
  ·exact Object2 A c ls s a w hs hw hm hf h1 h2
  ·by_cases h3:(decP (followF ls s a).w).k=3
   ·exact Object3 A c ls s a w hs hw hm hf h1 h2 h3
   ·by_cases h4:(decP (followF ls s a).w).k=0
    ·exact Object4 A c ls s a w hs hw hm hf h1 h2 h4
    ·exact Object5 A c ls s a w hs hw hm hf h1 h2 h3 h4
 ·exact Object1 A c ls s a w hs hw hm hf h1
def eleO (o:Ob)(i:Int):Ob:=⟨1,o.sg,o.at'+i*(o.d+o.p),o.d,o.p,0,0,0⟩
def ptrO (o:Ob):Int×Int:=if o.k=1∧0<o.p then (o.at'+o.d,o.p) else if o.k=2∧o.el=6∧0<o.n then (o.at',o.n) else (0,0)
theorem RefElement_any (o:Ob)(i:Int)(w:World)(h1:-9223372036854775808≤o.d+o.p)(h2:o.d+o.p≤9223372036854775807)(h3:-9223372036854775808≤i*(o.d+o.p))(h4:i*(o.d+o.p)≤9223372036854775807)(h5:-9223372036854775808≤o.at'+i*(o.d+o.p))(h6:o.at'+i*(o.d+o.p)≤9223372036854775807):
  Calls Tryz.prog 63 #[.agg #[.int .i64 o.k,.int .i64 o.sg,.int .i64 o.at',.int .i64 o.d,.int .i64 o.p,.int .i64 o.el,.int .i64 o.n,.int .i64 o.cost],.int .i64 i] w fun e w'=>e=.returned (.agg #[.int .i64 (eleO o i).k,.int .i64 (eleO o i).sg,.int .i64 (eleO o i).at',.int .i64 (eleO o i).d,.int .i64 (eleO o i).p,.int .i64 (eleO o i).el,.int .i64 (eleO o i).n,.int .i64 (eleO o i).cost])∧Below w.heap.size w w':=by
 unfold eleO
 go_enter Tryz.func63,Tryz.ntmps63
 go_wp2
 refine bodyPost_ret (v:=.agg #[.int .i64 1,.int .i64 o.sg,.int .i64 (o.at'+i*(o.d+o.p)),.int .i64 o.d,.int .i64 o.p,.int .i64 0,.int .i64 0,.int .i64 0]) (by simp [results,Tryz.results63,go_sem]) rfl ⟨rfl,?_⟩
 repeat (with_reducible first|exact Below.refl _ _|refine Below.alloc ?_ (by simp;try omega) _|refine Below.setCell ?_ (by simp;try omega) _)
theorem inB_iff {ls:List (List Int)}{s a n:Int}:inB ls s a n=true↔0≤s∧s<ls.length∧0≤a∧0≤n∧a+n≤(seg ls s.toNat).length:=by
 unfold inB
 rw [decide_eq_true_iff]
 constructor<;>intro h<;>omega
theorem objF_cases {ls:List (List Int)}(hw:Wd2 ls)(hm:ls.length≤140737488355328)(hf:∀j,(seg ls j).length≤140737488355328)(s a:Int):
  ((objF ls s a).1=ob0∧((objF ls s a).2=0∨2≤(objF ls s a).2∧(objF ls s a).2≤6)) ∨
  ((objF ls s a).2=0∧(objF ls s a).1.k=1∧(objF ls s a).1.el=0∧(objF ls s a).1.n=0∧0≤(objF ls s a).1.d∧(objF ls s a).1.d≤65535∧0≤(objF ls s a).1.p∧(objF ls s a).1.p≤65535∧(objF ls s a).1.cost=(objF ls s a).1.d+(objF ls s a).1.p∧inB ls (objF ls s a).1.sg (objF ls s a).1.at' ((objF ls s a).1.d+(objF ls s a).1.p)=true) ∨
  ((objF ls s a).2=0∧(objF ls s a).1.k=2∧0≤(objF ls s a).1.el∧(objF ls s a).1.el≤6∧0≤(objF ls s a).1.n∧(objF ls s a).1.n≤536870911∧(objF ls s a).1.d=0∧(objF ls s a).1.p=0∧(objF ls s a).1.cost=wordsI (objF ls s a).1.el (objF ls s a).1.n∧inB ls (objF ls s a).1.sg (objF ls s a).1.at' (objF ls s a).1.cost=true) ∨
  ((objF ls s a).2=0∧(objF ls s a).1.k=2∧(objF ls s a).1.el=7∧0≤(objF ls s a).1.n∧(objF ls s a).1.n≤536870911∧0≤(objF ls s a).1.d∧(objF ls s a).1.d≤65535∧0≤(objF ls s a).1.p∧(objF ls s a).1.p≤65535 ∧
   ∃c,0≤c∧c≤536870911∧(objF ls s a).1.n*((objF ls s a).1.d+(objF ls s a).1.p)≤c∧inB ls (objF ls s a).1.sg ((objF ls s a).1.at'-1) (c+1)=true∧(objF ls s a).1.cost=c+1+if (objF ls s a).1.d+(objF ls s a).1.p=0 then (objF ls s a).1.n else 0):=by
 have hbd:=followF_bd hw hm hf s a
 have hpd:=decP_bd (followF ls s a).w hbd.1 hbd.2.1
 have he:(followF ls s a).e=0∨2≤(followF ls s a).e∧(followF ls s a).e≤3:=by
  unfold followF
  repeat' split
  all_goals simp [folE]
 unfold objF
 generalize followF ls s a=q at *
 by_cases h1:q.e≠0∨q.w=0
 ·rw [if_pos h1]
  exact .inl ⟨rfl,by show q.e=0∨2≤q.e∧q.e≤6;omega⟩
 rw [if_neg h1]
 unfold objP
 generalize decP q.w=p at *
 by_cases h3:p.k=3
 ·rw [if_pos h3]
  refine .inl ⟨rfl,.inr ?_⟩
  show 2≤(if p.lo=0 then (6:Int) else 4)∧(if p.lo=0 then (6:Int) else 4)≤6
  split<;>omega
 rw [if_neg h3]
 by_cases h4:p.k=0
 ·rw [if_pos h4]
  by_cases h5:inB ls q.s (q.b+p.o) (p.d+p.p)=true
  ·rw [if_pos h5]
   exact .inr (.inl ⟨rfl,rfl,rfl,rfl,by show 0≤p.d;omega,by show p.d≤65535;omega,by show 0≤p.p;omega,by show p.p≤65535;omega,rfl,h5⟩)
  ·rw [if_neg h5]
   exact .inl ⟨rfl,.inr ⟨by show (2:Int)≤2;omega,by show (2:Int)≤6;omega⟩⟩
 rw [if_neg h4]
 by_cases h5:inB ls q.s (q.b+p.o) (wordsI p.el p.c)=false
 ·rw [if_pos h5]
  exact .inl ⟨rfl,.inr ⟨by show (2:Int)≤2;omega,by show (2:Int)≤6;omega⟩⟩
 rw [if_neg h5]
 have h5':inB ls q.s (q.b+p.o) (wordsI p.el p.c)=true:=by simpa using h5
 by_cases h7:p.el=7
 ·rw [if_pos h7]
  have hwd:=wordV_bd hw q.s (q.b+p.o)
  have htd:=decP_bd _ hwd.1 hwd.2
  unfold compF
  generalize decP (wordV ls q.s (q.b+p.o))=t at *
  by_cases h8:t.k≠0∨t.o<0∨p.c<t.o*(t.d+t.p)
  ·rw [if_pos h8]
   exact .inl ⟨rfl,.inr ⟨by show (2:Int)≤5;omega,by show (5:Int)≤6;omega⟩⟩
  ·rw [if_neg h8]
   rw [h7] at h5'
   refine .inr (.inr (.inr ⟨rfl,rfl,rfl,by show 0≤t.o;omega,by show t.o≤536870911;omega,by show 0≤t.d;omega,by show t.d≤65535;omega,by show 0≤t.p;omega,by show t.p≤65535;omega,p.c,by omega,by omega,by show t.o*(t.d+t.p)≤p.c;omega,?_,?_⟩))
   ·show inB ls q.s (q.b+p.o+1-1) (p.c+1)=true
    rw [show q.b+p.o+1-1=q.b+p.o by omega]
    exact h5'
   ·show (if t.d+t.p=0 then wordsI p.el p.c+t.o else wordsI p.el p.c)=p.c+1+if t.d+t.p=0 then t.o else 0
    rw [h7]
    show (if t.d+t.p=0 then p.c+1+t.o else p.c+1)=_
    split<;>omega
 ·rw [if_neg h7]
  exact .inr (.inr (.inl ⟨rfl,rfl,by show 0≤p.el;omega,by show p.el≤6;omega,by show 0≤p.c;omega,by show p.c≤536870911;omega,rfl,rfl,rfl,h5'⟩))
structure Val where
 n:Nd
 m:Int
 e:Int
def errV (m e:Int):Val:=⟨nd0,m,e⟩
structure Vls where
 ks:List Nd
 m:Int
 e:Int
def runK (f:Int→Nat→Val)(m:Int):Nat→Vls
 | 0=>⟨[],m,0⟩
 | i+1=>if (runK f m i).e≠0 then runK f m i else if (f (runK f m i).m i).e≠0 then ⟨[],(f (runK f m i).m i).m,(f (runK f m i).m i).e⟩ else ⟨(runK f m i).ks++[(f (runK f m i).m i).n],(f (runK f m i).m i).m,0⟩
def datW (ls:List (List Int))(s a n:Int):List Int:=if inB ls s a n=true then sliceL ls s a n else []
def structV (val:Int→Int→Int→Val)(ls:List (List Int))(m:Int)(o:Ob):Val:=
 if (runK (fun m i=>val m o.sg (o.at'+o.d+i)) m o.p.toNat).e≠0 then errV (runK (fun m i=>val m o.sg (o.at'+o.d+i)) m o.p.toNat).m (runK (fun m i=>val m o.sg (o.at'+o.d+i)) m o.p.toNat).e
 else ⟨.mk 1 0 0 (bytesOf (datW ls o.sg o.at' o.d)) (runK (fun m i=>val m o.sg (o.at'+o.d+i)) m o.p.toNat).ks,(runK (fun m i=>val m o.sg (o.at'+o.d+i)) m o.p.toNat).m,0⟩
def elemV (val:Int→Int→Int→Val)(ls:List (List Int))(o:Ob)(m:Int)(i:Nat):Val:=if o.el=6 then val m o.sg (o.at'+i) else structV val ls m (eleO o i)
def listV (val:Int→Int→Int→Val)(ls:List (List Int))(m:Int)(o:Ob):Val:=
 if (runK (elemV val ls o) m o.n.toNat).e≠0 then errV (runK (elemV val ls o) m o.n.toNat).m (runK (elemV val ls o) m o.n.toNat).e
 else ⟨.mk 2 o.el o.n [] (runK (elemV val ls o) m o.n.toNat).ks,(runK (elemV val ls o) m o.n.toNat).m,0⟩
def bodyV (val:Int→Int→Int→Val)(ls:List (List Int))(m:Int)(q:Ob×Int):Val:=
 if q.2≠0 then errV m q.2
 else if m<q.1.cost then errV m 8
 else if q.1.k=1 then structV val ls (m-q.1.cost) q.1
 else if q.1.el<6 then ⟨.mk 2 q.1.el q.1.n (trimL (bytesOf (datW ls q.1.sg q.1.at' q.1.cost)) q.1.el q.1.n) [],m-q.1.cost,0⟩
 else listV val ls (m-q.1.cost) q.1
def valV (ls:List (List Int)):Nat→Int→Int→Int→Val
 | 0,m,s,a=>if (followF ls s a).e≠0∨(followF ls s a).w=0 then errV m (followF ls s a).e else errV m 7
 | r+1,m,s,a=>if (followF ls s a).e≠0∨(followF ls s a).w=0 then errV m (followF ls s a).e else bodyV (valV ls r) ls m (objF ls s a)
theorem runK_keep {f:Int→Nat→Val}{m:Int}{i j:Nat}(h:(runK f m i).e≠0)(hij:i≤j):runK f m j=runK f m i:=by
  induction j with
  | zero => obtain rfl : i = 0 := by omega
            rfl
  | succ j ih=>
    by_cases e:i=j+1
    · subst e;rfl
    · have:=ih (by omega)
      show (if (runK f m j).e≠0 then runK f m j else _)=_
      rw [this,if_pos h]
theorem runK_ok {f:Int→Nat→Val}{m:Int}{i:Nat}(h:(runK f m i).e=0)(hf:(f (runK f m i).m i).e=0):runK f m (i+1)=⟨(runK f m i).ks++[(f (runK f m i).m i).n],(f (runK f m i).m i).m,0⟩:=by
 show (if (runK f m i).e≠0 then runK f m i else if (f (runK f m i).m i).e≠0 then _ else _)=_
 rw [if_neg (by rw [h];simp),if_neg (by rw [hf];simp)]
theorem runK_no {f:Int→Nat→Val}{m:Int}{i:Nat}(h:(runK f m i).e=0)(hf:(f (runK f m i).m i).e≠0):runK f m (i+1)=⟨[],(f (runK f m i).m i).m,(f (runK f m i).m i).e⟩:=by
 show (if (runK f m i).e≠0 then runK f m i else if (f (runK f m i).m i).e≠0 then _ else _)=_
 rw [if_neg (by rw [h];simp),if_pos hf]
theorem runK_length {f:Int→Nat→Val}{m:Int}:∀{i:Nat},(runK f m i).e=0→(runK f m i).ks.length=i
 | 0,_=>rfl
 | i+1,h=>by
  by_cases h1:(runK f m i).e=0
  ·by_cases h2:(f (runK f m i).m i).e=0
   ·rw [runK_ok h1 h2]
    simp [runK_length h1]
   ·rw [runK_no h1 h2] at h
    exact absurd h h2
  ·rw [runK_keep h1 (Nat.le_succ i)] at h
   exact absurd h h1
theorem runK_ind {f:Int→Nat→Val}{m:Int}(P:Int→Prop)(h0:P m):∀n,(∀m i,i<n→P m→P (f m i).m)→P (runK f m n).m
 | 0,_=>h0
 | n+1,hs=>by
  have ih:=runK_ind P h0 n (fun m i hi=>hs m i (by omega))
  by_cases h1:(runK f m n).e=0
  ·have h3:=hs _ n (by omega) ih
   by_cases h2:(f (runK f m n).m n).e=0
   ·rw [runK_ok h1 h2];exact h3
   ·rw [runK_no h1 h2];exact h3
  ·rw [runK_keep h1 (Nat.le_succ n)];exact ih
theorem structV_m {val:Int→Int→Int→Val}(hv:∀m s a,0≤m→0≤(val m s a).m∧(val m s a).m≤m)(ls:List (List Int))(m:Int)(o:Ob)(h:0≤m):0≤(structV val ls m o).m∧(structV val ls m o).m≤m:=by
 have h1:=runK_ind (f:=fun m i=>val m o.sg (o.at'+o.d+i)) (m:=m) (fun x=>0≤x∧x≤m) ⟨h,Int.le_refl _⟩ o.p.toNat (fun m' i _ hm=>by
  have:=hv m' o.sg (o.at'+o.d+i) hm.1
  show 0≤(val m' o.sg (o.at'+o.d+i)).m∧_
  omega)
 unfold structV
 split
 ·exact h1
 ·exact h1
theorem listV_m {val:Int→Int→Int→Val}(hv:∀m s a,0≤m→0≤(val m s a).m∧(val m s a).m≤m)(ls:List (List Int))(m:Int)(o:Ob)(h:0≤m):0≤(listV val ls m o).m∧(listV val ls m o).m≤m:=by
 have h1:=runK_ind (f:=elemV val ls o) (m:=m) (fun x=>0≤x∧x≤m) ⟨h,Int.le_refl _⟩ o.n.toNat (fun m' i _ hm=>by
  unfold elemV
  split
  ·have:=hv m' o.sg (o.at'+i) hm.1;omega
  ·have:=structV_m hv ls m' (eleO o i) hm.1;omega)
 unfold listV
 split
 ·exact h1
 ·exact h1
theorem objF_bd2 {ls:List (List Int)}(hw:Wd2 ls)(hm:ls.length≤40)(hf:∀j,(seg ls j).length≤20000000)(s a k sg at' d p el n cost e:Int)(hq:objF ls s a=(⟨k,sg,at',d,p,el,n,cost⟩,e)):
  0≤k∧k≤2∧0≤sg∧sg≤40∧0≤at'∧at'≤20000001∧0≤d∧d≤65535∧0≤p∧p≤65535∧0≤el∧el≤7∧0≤n∧n≤536870911∧0≤cost∧cost≤1073741824∧0≤e∧e≤6∧0≤n*(d+p)∧n*(d+p)≤20000000:=by
 have h:=objF_cases hw (by omega) (fun j=>by have:=hf j;omega) s a
 rw [hq] at h
 simp only [ob0,Ob.mk.injEq] at h
 rcases h with ⟨⟨rfl,rfl,rfl,rfl,rfl,rfl,rfl,rfl⟩,h2⟩|⟨rfl,rfl,rfl,rfl,h1,h2,h3,h4,rfl,h5⟩|⟨rfl,rfl,h1,h2,h3,h4,rfl,rfl,rfl,h5⟩|⟨rfl,rfl,rfl,h1,h2,h3,h4,h5,h6,c,h7,h8,h9,h10,rfl⟩
 ·omega
 ·have h6:=inB_iff.1 h5
  have h7:=hf sg.toNat
  have h8:(0:Int)*(d+p)=0:=Int.zero_mul _
  omega
 ·have h6:=inB_iff.1 h5
  have h7:=hf sg.toNat
  have h8:n*(0+0)=0:=Int.mul_zero _
  have h9:=wordsI_lim el n h3 h4
  omega
 ·have h11:=inB_iff.1 h10
  have h12:=hf sg.toNat
  have h13:0≤n*(d+p):=Int.mul_nonneg (by omega) (by omega)
  split<;>omega
theorem objF_num {ls:List (List Int)}(hw:Wd2 ls)(hm:ls.length≤40)(hf:∀j,(seg ls j).length≤20000000)(s a:Int){q:Ob×Int}(hq:objF ls s a=q):
  0≤q.1.k∧q.1.k≤2∧0≤q.1.sg∧q.1.sg≤40∧0≤q.1.at'∧q.1.at'≤20000001∧0≤q.1.d∧q.1.d≤65535∧0≤q.1.p∧q.1.p≤65535∧0≤q.1.el∧q.1.el≤7∧0≤q.1.n∧q.1.n≤536870911∧0≤q.1.cost∧q.1.cost≤1073741824∧0≤q.2∧q.2≤6∧0≤q.1.n*(q.1.d+q.1.p)∧q.1.n*(q.1.d+q.1.p)≤20000000:=by
 obtain⟨⟨k,sg,at',d,p,el,n,cost⟩,e⟩:=q
 exact objF_bd2 hw hm hf s a k sg at' d p el n cost e hq
theorem valV_m {ls:List (List Int)}(hw:Wd2 ls)(hm:ls.length≤40)(hf:∀j,(seg ls j).length≤20000000):∀r m s a,0≤m→0≤(valV ls r m s a).m∧(valV ls r m s a).m≤m
 | 0,m,s,a,h=>by
  unfold valV
  split<;>exact⟨h,Int.le_refl _⟩
 | r+1,m,s,a,h=>by
  have ih:=fun m s a h=>valV_m hw hm hf r m s a h
  unfold valV
  split
  ·exact⟨h,Int.le_refl _⟩
  ·have hc:0≤(objF ls s a).1.cost:=(objF_num hw hm hf s a rfl).2.2.2.2.2.2.2.2.2.2.2.2.2.2.1
   unfold bodyV
   generalize objF ls s a=q at *
   split
   ·exact⟨h,Int.le_refl _⟩
   ·split
    ·exact⟨h,Int.le_refl _⟩
    ·split
     ·have:=structV_m ih ls (m-q.1.cost) q.1 (by omega);omega
     ·split
      ·show 0≤m-q.1.cost∧m-q.1.cost≤m;omega
      ·have:=listV_m ih ls (m-q.1.cost) q.1 (by omega);omega
section
def FactU:Type:=List Nat→Fact
structure Ext (av:List Nat) (w:World) (av':List Nat):Prop where
 old:∀b∈av,b∈av'
 new:∀b∈av',b∈av∨w.heap.size≤b
theorem Ext.refl (av:List Nat)(w:World):Ext av w av:=⟨fun _ h=>h,fun _ h=>.inl h⟩
theorem Ext.cons (av:List Nat)(w:World):Ext av w (w.heap.size::av):=⟨fun _ h=>List.mem_cons_of_mem _ h,fun b h=>by
 rcases List.mem_cons.1 h with rfl|h
 ·exact .inr (Nat.le_refl _)
 ·exact .inl h⟩
def stableU (T:FactU):Prop:=∀av av' v w w',T av v w→Below w.heap.size w w'→Ext av w av'→(∀b∈av,b<w.heap.size)→T av' v w'
theorem stableU_of {T:Fact}(h:stable T):stableU fun _=>T:=fun _ _ v w w' hT hb _ _=>h v w w' hT hb
def AfterU (T:FactU)(av:List Nat)(a:Act)(dst:Option Tmp)(w:World)(a':Act)(w':World):Prop:=∃v av',a'=a.put dst v∧T av' v w'∧Below w.heap.size w w'∧Ext av w av'∧∀b∈av',b<w'.heap.size
def StepU (P:Program)(ops:Array Oper)(F:List Nat→List (Tmp×Fact))(a0:Act)(w0:World)(o:Oper)(T:FactU):Prop:=
 ∀av a w,(∀b∈av,b<w.heap.size)→Below w0.heap.size w0 w→(∀s∈o.looksAt ops,Knows (F av) a0 a w s) →
  if Region.wanted o (yielded ops a.tmps) then o.wp P a w (AfterU T av a o.dst w) NoWay else T av undef w
def PureU (P:Program)(ops:Array Oper)(G:List (Tmp×Fact))(a0:Act)(o:Oper)(T:FactU):Prop:=
 o.guard=none∧∃u,T=(fun _=>Is u)∧∀a w,(∀s∈o.looksAt ops,Knows G a0 a w s)→(execOp a.eval o).run P w=.ok (.value u) w
def ChainU (P:Program)(ops:Array Oper)(late:List Nat)(a0:Act)(w0:World)(E:Act→World→Prop):List Oper→Nat→(List Nat→List (Tmp×Fact))→List (Tmp×Fact)→Prop
 | [],_,F,_=>∀av a w,(∀b∈av,b<w.heap.size)→Below w0.heap.size w0 w→a.defers=a0.defers→a.tmps.size=a0.tmps.size→(∀s,s<a0.tmps.size→Knows (F av) a0 a w s)→E a w
 | o::r,i,F,G=>∃d T U,o.dst=some d∧stableU T∧free U∧(∀av v w,T av v w→U v w)∧(if isA late i=true then StepU P ops F a0 w0 o T else PureU P ops G a0 o T)∧ChainU P ops late a0 w0 E r (i+1) (fun av=>(d,T av)::F av) ((d,U)::G)
def atL (av:List Nat)(Ts:List FactU):List Fact:=Ts.map fun T=>T av
theorem atL_length (av:List Nat)(Ts:List FactU):(atL av Ts).length=Ts.length:=by simp [atL]
theorem atL_app (av:List Nat)(Ts:List FactU)(T:FactU):atL av (Ts++[T])=atL av Ts++[T av]:=by simp [atL]
theorem atL_get (av:List Nat){Ts:List FactU}{j:Nat}{T:FactU}(h:Ts[j]?=some T):(atL av Ts)[j]?=some (T av):=by simp [atL,h]
theorem atL_some {av:List Nat}{Ts:List FactU}{j:Nat}{V:Fact}(h:(atL av Ts)[j]?=some V):∃T,Ts[j]?=some T∧T av=V:=by
 unfold atL at h
 rw [List.getElem?_map] at h
 cases e:Ts[j]? with
 | none=>rw [e] at h;cases h
 | some T=>rw [e] at h;injection h with h;exact⟨T,rfl,h⟩
theorem get_appU {Ts:List FactU}{T U:FactU}{i j:Nat}(hT:Ts.length=i)(h:(Ts++[T])[j]?=some U):(j<i∧Ts[j]?=some U)∨(j=i∧U=T):=by
 by_cases hj:j<Ts.length
 ·rw [List.getElem?_append_left hj] at h
  exact .inl ⟨by omega,h⟩
 ·rw [List.getElem?_append_right (by omega)] at h
  have h0:j-Ts.length=0:=by
   rcases Nat.eq_zero_or_pos (j-Ts.length) with h1|h1
   ·exact h1
   ·rw [List.getElem?_eq_none (by simp;omega)] at h;cases h
  rw [h0] at h
  simp at h
  exact .inr ⟨by omega,h.symm⟩
structure FactsU (P:Program) (ops:Array Oper) (l:List Oper) (late:List Nat) (a0:Act) (w0:World) (Ts:List FactU) (Us:List Fact) (i:Nat):Prop where
 len:Ts.length=i
 len2:Us.length=i
 st:∀(j:Nat) (T:FactU),Ts[j]?=some T→stableU T
 fr:∀(j:Nat) (U:Fact),Us[j]?=some U→free U
 weak:∀(j:Nat) (T:FactU) (U:Fact),Ts[j]?=some T→Us[j]?=some U→∀av v w,T av v w→U v w
 step:∀(j:Nat) (o:Oper) (T:FactU),l[j]?=some o→Ts[j]?=some T→if isA late j=true then StepU P ops (fun av=>factsTo l (atL av Ts) j) a0 w0 o T else PureU P ops (factsTo l Us j) a0 o T
theorem chainU_facts {P:Program}{ops:Array Oper}{a0:Act}{w0:World}{E:Act→World→Prop}{l:List Oper}{late:List Nat}:
  ∀(r:List Oper) (i:Nat) (Ts:List FactU) (Us:List Fact),l.drop i=r→i≤l.length→ChainU P ops late a0 w0 E r i (fun av=>factsTo l (atL av Ts) i) (factsTo l Us i)→FactsU P ops l late a0 w0 Ts Us i →
   ∃(Ts:List FactU) (Us:List Fact),FactsU P ops l late a0 w0 Ts Us l.length∧ChainU P ops late a0 w0 E [] l.length (fun av=>factsTo l (atL av Ts) l.length) (factsTo l Us l.length):=by
 intro r
 induction r with
 | nil=>
  intro i Ts Us hd hi hc hF
  have:i=l.length:=by
   have:=congrArg List.length hd
   simp at this
   omega
  subst this
  exact⟨Ts,Us,hF,hc⟩
 | cons o r ih=>
  intro i Ts Us hd hi hc hF
  obtain⟨d,T,U,hdst,hs1,hs2,hw,hstep,hrest⟩:=hc
  have hlt:i<l.length:=by
   have:=congrArg List.length hd
   simp at this
   omega
  have hli:l[i]?=some o:=by
   have:=congrArg (fun x=>x[0]?) hd
   simpa using this
  have hdi:dstAt l i=some d:=by simp [dstAt,hli,hdst]
  have fT:∀av,∀j,j≤i→factsTo l (atL av (Ts++[T])) j=factsTo l (atL av Ts) j:=fun av=>by rw [atL_app];exact factsTo_app (l:=l) (T:=T av) (by rw [atL_length];exact hF.len)
  have fU:=factsTo_app (l:=l) (T:=U) hF.len2
  have gT:(Ts++[T])[i]?=some T:=by rw [List.getElem?_append_right (by have:=hF.len;omega)];simp [hF.len]
  have gU:(Us++[U])[i]?=some U:=by rw [List.getElem?_append_right (by have:=hF.len2;omega)];simp [hF.len2]
  refine ih (i+1) (Ts++[T]) (Us++[U]) (by rw [←List.drop_drop,hd];rfl) (by omega) ?_ ⟨by simp [hF.len],by simp [hF.len2],?_,?_,?_,?_⟩
  ·have e1:(fun av=>factsTo l (atL av (Ts++[T])) (i+1))=fun av=>(d,T av)::factsTo l (atL av Ts) i:=by
    funext av
    rw [factsTo,hdi,atL_get av gT,fT av i (Nat.le_refl _)]
   have e2:factsTo l (Us++[U]) (i+1)=(d,U)::factsTo l Us i:=by rw [factsTo,hdi,gU,fU i (Nat.le_refl _)]
   rw [e1,e2]
   exact hrest
  ·intro j V hV
   rcases get_appU hF.len hV with ⟨_,h⟩|⟨_,rfl⟩
   ·exact hF.st j V h
   ·exact hs1
  ·intro j V hV
   rcases get_app hF.len2 hV with ⟨_,h⟩|⟨_,rfl⟩
   ·exact hF.fr j V h
   ·exact hs2
  ·intro j V V' hV hV'
   rcases get_appU hF.len hV with ⟨h0,h⟩|⟨rfl,rfl⟩
   ·rcases get_app hF.len2 hV' with ⟨_,h'⟩|⟨h1,_⟩
    ·exact hF.weak j V V' h h'
    ·omega
   ·rcases get_app hF.len2 hV' with ⟨h1,_⟩|⟨_,rfl⟩
    ·omega
    ·exact hw
  ·intro j o' V ho' hV
   rcases get_appU hF.len hV with ⟨h0,h⟩|⟨rfl,rfl⟩
   ·have e1:(fun av=>factsTo l (atL av (Ts++[T])) j)=fun av=>factsTo l (atL av Ts) j:=by
     funext av;exact fT av j (by omega)
    rw [e1,fU j (by omega)]
    exact hF.step j o' V ho' h
   ·rw [hli] at ho'
    injection ho' with ho'
    subst ho'
    have e1:(fun av=>factsTo l (atL av (Ts++[V])) j)=fun av=>factsTo l (atL av Ts) j:=by
     funext av;exact fT av j (Nat.le_refl _)
    rw [e1,fU j (Nat.le_refl _)]
    exact hstep
theorem inv1_anyU {P:Program}{l ts:List Oper}{late:List Nat}{Ts:List FactU}{Us:List Fact}{a0:Act}{w0:World}{Q:Exit→Act→World→Prop}(hts:0<ts.length)(hB:chainTB a0.tmps.size late l ts=true)
  (hF:FactsU P (l++ts).toArray l late a0 w0 Ts Us l.length)
  (hend:ChainU P (l++ts).toArray late a0 w0 (fun a w=>wpList P (l++ts).toArray (OnlyN fun a w=>Q .normal a w) ts a w) [] l.length (fun av=>factsTo l (atL av Ts) l.length) (factsTo l Us l.length)) :
  ∀(fuel:Nat) (listed:Array Bool) (a:Act) (w:World) (av:List Nat),(∀b∈av,b<w.heap.size)→listed.size=l.length+ts.length→(∀q,q<ts.length→listed.getD (l.length+q) true=false)→(∃n,n≤fuel∧n=(List.range (l.length+ts.length)).countP (fun j=>!listed.getD j true))→Inv l (atL av Ts) a0 w0 listed a w→(∀(j:Nat) (o:Oper),listed.getD j false=true→l[j]?=some o→∀e∈o.after,Region.binds .any e=true→listed.getD e.on false=true)→wpAny P .any (l++ts).toArray Q fuel listed a w:=by
 have hgl:∀j,j<l.length→(l++ts).toArray[j]?=l[j]?:=fun j hj=>by rw [List.getElem?_toArray,List.getElem?_append_left hj]
 have hgt:∀q,(l++ts).toArray[l.length+q]?=ts[q]?:=fun q=>by
  rw [List.getElem?_toArray,List.getElem?_append_right (by omega)];congr 1;omega
 have hl1:=hF.len
 have hl2:=hF.len2
 have hpure:∀j o,l[j]?=some o→isA late j=false→o.guard=none∧∃u,Ts[j]?=some (fun _=>Is u)∧∀a w,(∀s∈o.looksAt (l++ts).toArray,Knows (factsTo l Us j) a0 a w s)→(execOp a.eval o).run P w=.ok (.value u) w:=by
  intro j o ho hj
  have hjl:j<l.length:=(List.getElem?_eq_some_iff.1 ho).1
  have hT:Ts[j]?=some (Ts[j]'(by omega)):=List.getElem?_eq_getElem (by omega)
  have h:=hF.step j o _ ho hT
  rw [if_neg (by rw [hj];simp)] at h
  obtain⟨hg,u,hu,hr⟩:=h
  exact⟨hg,u,hT.trans (congrArg some hu),hr⟩
 intro fuel
 induction fuel with
 | zero=>
  intro listed a w av hav hsz hop hn hI hC
  exfalso
  obtain⟨n,hn0,hn⟩:=hn
  have:0<(List.range (l.length+ts.length)).countP (fun j=>!listed.getD j true):=List.countP_pos_iff.2 ⟨l.length+0,List.mem_range.2 (by omega),by simp only [hop 0 hts];rfl⟩
  omega
 | succ fuel ih=>
  intro listed a w av hav hsz hop hn hI hC
  have hlA:(atL av Ts).length=l.length:=by rw [atL_length];exact hl1
  have hff:∀{j:Nat},j<listed.size→(listed.getD j true=false↔listed.getD j false=false):=by
   intro j hj
   simp [hj]
  refine⟨fun hr=>?_,fun i hi=>?_⟩
  ·exfalso
   have hall:∀j,j<l.length→listed.getD j false=true:=by
    intro j
    induction j using Nat.strongRecOn with
    | _ j ihj=>
     intro hj
     cases hb:listed.getD j false with
     | true=>rfl
     | false=>
      exfalso
      have hj':l[j]?=some l[j]:=List.getElem?_eq_getElem hj
      have hc:=chainTB_at hB hj'
      have hm:j∈Region.ready .any (l++ts).toArray listed:=by
       rw [mem_ready]
       exact⟨(hff (by rw [hsz];omega)).2 hb,l[j],by rw [hgl j hj,hj'],fun e he hbi=>ihj e.on (hc.2.2.1 e he hbi) (Nat.lt_trans (hc.2.2.1 e he hbi) hj)⟩
      rw [hr] at hm
      cases hm
   have hok:ts[0]?=some ts[0]:=List.getElem?_eq_getElem hts
   have hm:l.length+0∈Region.ready .any (l++ts).toArray listed:=by
    rw [mem_ready]
    exact⟨hop 0 hts,ts[0],by rw [hgt 0,hok],fun e he hb=>hall _ (by have:=(chainTB_tail hB hok).2.1 e he hb;omega)⟩
   rw [hr] at hm
   cases hm
  ·obtain⟨hu,o,ho,hedges⟩:=mem_ready.1 hi
   have hisz:i<l.length+ts.length:=by
    rcases Nat.lt_or_ge i (l.length+ts.length) with h1|h1
    ·exact h1
    ·rw [List.getElem?_toArray,List.getElem?_eq_none (by simpa using h1)] at ho;cases ho
   by_cases hil:i<l.length
   ·have hol:l[i]?=some o:=by rw [←hgl i hil];exact ho
    obtain⟨⟨d,hd,hdm⟩,hdis,hbe,hlook⟩:=chainTB_at hB hol
    have hdi:dstAt l i=some d:=by simp [dstAt,hol,hd]
    have hTi:Ts[i]?=some (Ts[i]'(by omega)):=List.getElem?_eq_getElem (by omega)
    have hK:∀(F:List Fact),F.length=l.length→(∀(j:Nat) (d:Tmp) (V:Fact),listed.getD j false=true→dstAt l j=some d→F[j]?=some V→V (a.tmps.getD d undef) w)→∀s∈o.looksAt (l++ts).toArray,Knows (factsTo l F i) a0 a w s:=by
     intro F hlF hdone s hs
     unfold Knows
     cases hl:look (factsTo l F i) s with
     | some V=>
      obtain⟨j,hj,hdj,hVj⟩:=mem_factsTo (look_some hl)
      obtain⟨⟨e,he,hb,rfl⟩,-⟩:=(hlook s hs).2 j (by omega) hdj
      exact hdone _ s V (hedges e he hb) hdj hVj
     | none=>
      refine hI.rest s fun j hj hdj=>?_
      have hjl:=dst_lt hdj
      obtain⟨⟨e,he,hb,rfl⟩,-⟩:=(hlook s hs).2 j hjl hdj
      have hlt:=hbe e he hb
      have hV:F[e.on]?=some (F[e.on]'(by omega)):=List.getElem?_eq_getElem (by omega)
      obtain⟨V,hV'⟩:=look_mem ⟨_,factsTo_mem (i:=i) hlt hdj hV,rfl⟩
      rw [hV'] at hl
      cases hl
    have hS:if Region.wanted o (yielded (l++ts).toArray a.tmps) then o.wp P a w (AfterU (Ts[i]'(by omega)) av a o.dst w) NoWay else (Ts[i]'(by omega)) av undef w:=by
     by_cases he:isA late i=true
     ·have h:=hF.step i o _ hol hTi
      rw [if_pos he] at h
      exact h av a w hav hI.below (hK (atL av Ts) hlA fun j d V h1 h2 h3=>hI.done j d V h1 h2 h3)
     ·obtain⟨hg,u,hTu,hrun⟩:=hpure i o hol (Bool.eq_false_iff.2 he)
      rw [hTi] at hTu
      injection hTu with hTu
      have hwn:Region.wanted o (yielded (l++ts).toArray a.tmps)=true:=by unfold Region.wanted;rw [hg]
      rw [if_pos hwn]
      have hr:=hrun a w (hK Us hl2 fun j d V h1 h2 h3=>by
       have hjl:=dst_lt h2
       have hT:Ts[j]?=some (Ts[j]'(by omega)):=List.getElem?_eq_getElem (by omega)
       exact hF.weak j _ V hT h3 _ _ _ (hI.done j d _ h1 h2 (atL_get av hT)))
      unfold Oper.wp
      rw [hr]
      exact⟨u,av,rfl,by rw [hTu];rfl,Below.refl _ _,Ext.refl _ _,hav⟩
    refine wpOp_noWay ho (K:=AfterU (Ts[i]'(by omega)) av a o.dst w) ?_ ?_
    ·rintro a' w' ⟨v,av',rfl,hT,hbel,hext,hav'⟩
     have hds:d<a.tmps.size:=by rw [hI.size];exact hdm
     refine ih _ _ _ av' hav' (by simpa using hsz) (fun q hq=>by rw [getD_set_ne true (by omega)];exact hop q hq) ?_ ⟨hI.below.trans (hbel.mono hI.below.size),?_,?_,?_,?_⟩ (fun jj oo hj hoo e he hb=>by
      rcases getD_set_cases hj with rfl|hj2
      ·rw [hol] at hoo
       injection hoo with hoo
       subst hoo
       exact getD_set_true (hedges e he hb)
      ·exact getD_set_true (hC jj oo hj2 hoo e he hb))
     ·obtain⟨n,hn0,hn⟩:=hn
      refine⟨_,?_,rfl⟩
      have hlt:(List.range (l.length+ts.length)).countP (fun j=>!(listed.setIfInBounds i true).getD j true)<(List.range (l.length+ts.length)).countP (fun j=>!listed.getD j true):=by
       refine countP_lt (i:=i) (fun x _ hx=>?_) (List.mem_range.2 hisz) (by simp [hu]) ?_
       ·by_cases e:i=x
        ·subst e;simp [hu]
        ·rw [getD_set_ne true e] at hx;exact hx
       ·have:i<listed.size:=by omega
        simp [this]
      omega
     ·rw [hd];exact hI.defers
     ·rw [hd];simp [Act.put,hI.size]
     ·intro j d' T0 hj hdj hTj0
      obtain⟨T,hTj,rfl⟩:=atL_some hTj0
      rw [hd]
      rcases getD_set_cases hj with rfl|hj2
      ·rw [hdi] at hdj
       injection hdj with hdj
       subst hdj
       rw [hTi] at hTj
       injection hTj with hTj
       subst hTj
       rw [getD_put_same hds]
       exact hT
      ·have hne:d≠d':=by
        rintro rfl
        have hji:j≠i:=by
         rintro rfl
         rw [getD_ff hu] at hj2
         cases hj2
        exact hdis j (dst_lt hdj) hji (by rw [hdj,hd])
       rw [getD_put_ne hne]
       exact hF.st j T hTj _ _ _ _ _ (hI.done j d' _ hj2 hdj (atL_get av hTj)) hbel hext hav
     ·intro s hs
      have hne:d≠s:=by
       rintro rfl
       refine hs i ?_ hdi
       have:i<listed.size:=by omega
       simp [this]
      rw [hd,getD_put_ne hne]
      refine hI.rest s fun j hj hdj=>hs j (getD_set_true hj) hdj
    ·by_cases hw:Region.wanted o (yielded (l++ts).toArray a.tmps)=true
     ·rw [if_pos hw] at hS ⊢
      exact hS
     ·rw [if_neg hw] at hS ⊢
      exact⟨undef,av,rfl,hS,Below.refl _ _,Ext.refl _ _,hav⟩
   ·
    obtain⟨q,rfl⟩:∃q,i=l.length+q:=⟨i-l.length,by omega⟩
    have hql:q<ts.length:=by omega
    rw [hgt q] at ho
    obtain⟨hg,hbe,hbl,hprev,hst⟩:=chainTB_tail hB ho
    obtain rfl:q=0:=by
     refine Classical.byContradiction fun hne=>?_
     obtain⟨e,he,hb,hon⟩:=hprev (by omega)
     have h1:=hedges e he hb
     have h2:=hop (q-1) (by omega)
     rw [hon,show l.length+q-1=l.length+(q-1) by omega,getD_ff h2] at h1
     cases h1
    have hA:∀j,j<l.length→isA late j=true→listed.getD j false=true:=by
     intro j
     generalize hn0:l.length-j=n0
     induction n0 using Nat.strongRecOn generalizing j with
     | _ n0 ihA=>
      intro hj hje
      rcases hbl j hj (.inl hje) with ⟨e,he,hb,hon⟩|⟨-,j',o',h1,h2,h3,h4,e,he,hb,hon⟩
      ·rw [←hon];exact hedges e he hb
      ·rw [←hon];exact hC j' o' (ihA (l.length-j') (by omega) j' rfl h2 h3) h4 e he hb
    have hdu:∀j j' d,j<l.length→j'<l.length→dstAt l j=some d→dstAt l j'=some d→j'=j:=fun j j' d hj hj' h h'=>by
     refine Classical.byContradiction fun hne=>?_
     have hj2:l[j]?=some l[j]:=List.getElem?_eq_getElem hj
     have hd2:l[j].dst=some d:=by simpa [dstAt,hj2] using h
     exact(chainTB_at hB hj2).2.1 j' hj' hne (by rw [h',hd2])
    obtain⟨u,hu2⟩:∃u:Nat→Value,∀j,j<l.length→isA late j=false→Ts[j]?=some (fun _=>Is (u j)):=by
     have hex:∀j,∃u,j<l.length→isA late j=false→Ts[j]?=some (fun _=>Is u):=fun j=>by
      by_cases h:j<l.length∧isA late j=false
      ·obtain⟨-,u,hu,-⟩:=hpure j _ (List.getElem?_eq_getElem h.1) h.2
       exact⟨u,fun _ _=>hu⟩
      ·exact⟨undef,fun h1 h2=>absurd ⟨h1,h2⟩ h⟩
     exact⟨fun j=>Classical.choose (hex j),fun j h1 h2=>Classical.choose_spec (hex j) h1 h2⟩
    have hbs:(fillB l listed u a).tmps.size=a.tmps.size:=by simp [fillB]
    have hbd:∀j d,j<l.length→isA late j=false→dstAt l j=some d→(fillB l listed u a).tmps.getD d undef=u j:=fun j d hj he hd=>by
     have hj2:l[j]?=some l[j]:=List.getElem?_eq_getElem hj
     obtain⟨⟨d',hd',hdm⟩,-⟩:=chainTB_at hB hj2
     have hdd:d'=d:=by
      have:dstAt l j=some d':=by simp [dstAt,hj2,hd']
      rw [hd] at this
      injection this with this
      exact this.symm
     subst hdd
     cases hn:listed.getD j false with
     | false=>exact fillB_yes hj hn hd (by rw [hI.size];exact hdm) (fun j' hj' h'=>hdu j j' _ hj hj' hd h')
     | true=>
      rw [fillB_no (fun j' hj' hn' h'=>by
       obtain rfl:=hdu j j' _ hj hj' hd h'
       rw [hn] at hn';cases hn')]
      exact hI.done j _ _ hn hd (atL_get av (hu2 j hj he))
    have hba:∀s,(∀j,j<l.length→dstAt l j=some s→isA late j=true)→(fillB l listed u a).tmps.getD s undef=a.tmps.getD s undef:=fun s hs=>fillB_no fun j hj hn hd=>by
     rw [hA j hj (hs j hj hd)] at hn;cases hn
    have hph:Ph2 l ts late (fillB l listed u a) a listed 0:=⟨hsz,Nat.zero_le _,fun j hj hor=>by
     rcases hor with h|h
     ·exact hA j hj h
     ·omega,fun q hq=>by omega,fun q _ hq=>hop q hq,fun s hs=>(fillB_no hs).symm,rfl,hbs.symm⟩
    have hwl:=hend av (fillB l listed u a) w hav hI.below hI.defers (by rw [hbs];exact hI.size) fun s hs=>by
     unfold Knows
     cases hl:look (factsTo l (atL av Ts) l.length) s with
     | some T0=>
      obtain⟨j,hj,hd,hT0⟩:=mem_factsTo (look_some hl)
      obtain⟨T,hT,rfl⟩:=atL_some hT0
      by_cases he:isA late j=false
      ·rw [hbd j s hj he hd]
       rw [hu2 j hj he] at hT
       injection hT with hT
       subst hT
       rfl
      ·have he':isA late j=true:=by simpa using he
       rw [hba s (fun j' hj' hd'=>by obtain rfl:=hdu j j' _ hj hj' hd hd';exact he')]
       exact hI.done j s _ (hA j hj he') hd (atL_get av hT)
     | none=>
      have hnd:∀j,j<l.length→dstAt l j≠some s:=fun j hj hd=>by
       have hT:Ts[j]?=some (Ts[j]'(by omega)):=List.getElem?_eq_getElem (by omega)
       obtain⟨T,hT'⟩:=look_mem ⟨_,factsTo_mem (i:=l.length) hj hd (atL_get av hT),rfl⟩
       rw [hT'] at hl
       cases hl
      rw [fillB_no (fun j hj _=>hnd j hj)]
      exact hI.rest s fun j _ hd=>hnd j (dst_lt hd) hd
    refine(ph2_any (by rw [hbs,hI.size];exact hB) ?_ (fuel+1) listed a w 0 hph hn (by simpa using hwl)).2 _ hi
    intro j o ho hj
    have hjl:j<l.length:=(List.getElem?_eq_some_iff.1 ho).1
    obtain⟨hg,u',hTu,hrun⟩:=hpure j o ho hj
    obtain⟨⟨d,hd,hdm⟩,hdis,hbe,hlook⟩:=chainTB_at hB ho
    have hdj:dstAt l j=some d:=by simp [dstAt,ho,hd]
    refine⟨hg,d,hd,fun a' w' hag=>?_⟩
    have huu:u'=u j:=by
     have h2:=hu2 j hjl hj
     rw [hTu] at h2
     injection h2 with h2
     have h3:Is u' u' w:=rfl
     have h4:=congrFun h2 av
     rw [h4] at h3
     exact h3
    rw [hbd j d hjl hj hdj,←huu]
    refine hrun a' w' fun s hs=>?_
    have hsA:∀j',j'<l.length→dstAt l j'=some s→isA late j'=true:=fun j' hj' hd'=>by
     obtain⟨-,h2⟩:=(hlook s hs).2 j' hj' hd'
     exact h2.resolve_left (by rw [hj];simp)
    have hsv:a'.tmps.getD s undef=a.tmps.getD s undef:=by rw [hag s hs,hba s hsA]
    unfold Knows
    rw [hsv]
    cases hl:look (factsTo l Us j) s with
    | some V=>
     obtain⟨j',hj',hd',hV⟩:=mem_factsTo (look_some hl)
     have hT:Ts[j']?=some (Ts[j']'(by omega)):=List.getElem?_eq_getElem (by omega)
     exact hF.fr j' V hV _ w w' (hF.weak j' _ V hT hV _ _ _ (hI.done j' s _ (hA j' (by omega) (hsA j' (by omega) hd')) hd' (atL_get av hT)))
    | none=>
     refine hI.rest s fun j' hj' hd'=>?_
     have hjl':=dst_lt hd'
     obtain⟨⟨e,he,hb,rfl⟩,-⟩:=(hlook s hs).2 j' hjl' hd'
     have hlt:=hbe e he hb
     have hV:Us[e.on]?=some (Us[e.on]'(by omega)):=List.getElem?_eq_getElem (by omega)
     obtain⟨V,hV'⟩:=look_mem ⟨_,factsTo_mem (i:=j) hlt hd' hV,rfl⟩
     rw [hV'] at hl
     cases hl
theorem wp_region_u {P:Program}{id:Nat}{ops:Array Oper}(l ts:List Oper)(late:List Nat){Q:Exit→Act→World→Prop}{a:Act}{w:World}(hops:ops=(l++ts).toArray)(hts:0<ts.length)(hm:P.follows .mixedOrders=true)(hB:chainTB a.tmps.size late l ts=true)
  (h:ChainU P (l++ts).toArray late a w.drew (fun a w=>wpList P (l++ts).toArray (OnlyN fun a w=>Q .normal a w) ts a w) l 0 (fun _=>[]) []):(Code.region id ops true).wp P Q a w:=by
 subst hops
 obtain⟨Ts,Us,hF,hend⟩:=chainU_facts (l:=l) l 0 [] [] rfl (Nat.zero_le _) h ⟨rfl,rfl,fun j T hT=>by simp at hT,fun j T hT=>by simp at hT,fun j T U hT=>by simp at hT,fun j o T _ hT=>by simp at hT⟩
 refine wp_region_any hm ?_
 have hff:∀j b,j<l.length+ts.length→(Array.replicate (l++ts).toArray.size false).getD j b=false:=by
  intro j b hlt
  simp [hlt]
 refine inv1_anyU hts hB hF hend _ _ _ _ [] (by simp) (by simp) (fun q hq=>hff _ _ (by omega)) ⟨_,?_,rfl⟩ ⟨Below.refl _ _,rfl,rfl,?_,fun s _=>rfl⟩ (fun j o hj=>by
  exfalso
  have h0:(Array.replicate (l++ts).toArray.size false).getD j false=false:=by
   simp only [Array.getD_eq_getD_getElem?,Array.getElem?_replicate]
   split<;>rfl
  rw [h0] at hj
  cases hj)
 ·refine Nat.le_trans List.countP_le_length ?_
  simp
 ·intro j d T hj
  exfalso
  have h0:(Array.replicate (l++ts).toArray.size false).getD j false=false:=by
   simp only [Array.getD_eq_getD_getElem?,Array.getElem?_replicate]
   split<;>rfl
  rw [h0] at hj
  cases hj
section
variable {P:Program} {ops:Array Oper} {late:List Nat} {a0:Act} {w0:World} {E:Act→World→Prop} {o:Oper} {r:List Oper} {i:Nat} {F:List Nat→List (Tmp×Fact)} {G:List (Tmp×Fact)} {d:Tmp}
theorem u_val {u:Value}(L:List Tmp)(hi:isA late i=true)(hd:o.dst=some d)(hL:(L.all fun s=>(o.looksAt ops).contains s)=true)(hg:∀av,GuardOK ops (F av) a0 o)
  (h:∀av ρ w,Below w0.heap.size w0 w→Plain ρ→AllK (F av) a0 w ρ L→(execOp ρ o).run P w=.ok (.value u) w) (hr:ChainU P ops late a0 w0 E r (i+1) (fun av=>(d,Is u)::F av) ((d,Is u)::G)):ChainU P ops late a0 w0 E (o::r) i F G:=by
 refine⟨d,fun _=>Is u,Is u,hd,stableU_of (stable_is u),free_is u,fun _ _ _ h=>h,?_,hr⟩
 rw [if_pos hi]
 intro av a w hav hb hk
 rw [if_pos (wanted_of (hg av) hk)]
 unfold Oper.wp
 rw [h av a.eval w hb (plain_eval a) (allK_of hk hL)]
 exact⟨u,av,rfl,rfl,Below.refl _ _,Ext.refl _ _,hav⟩
theorem u_new {T:FactU}(U:Fact)(L:List Tmp)(hi:isA late i=true)(hd:o.dst=some d)(hL:(L.all fun s=>(o.looksAt ops).contains s)=true)(hg:∀av,GuardOK ops (F av) a0 o)(hs:stableU T)(hf:free U)(hTU:∀av v w,T av v w→U v w)
  (h:∀av ρ w,(∀b∈av,b<w.heap.size)→Below w0.heap.size w0 w→Plain ρ→AllK (F av) a0 w ρ L→∃v w',(execOp ρ o).run P w=.ok (.value v) w'∧T av v w'∧Below w.heap.size w w') (hr:ChainU P ops late a0 w0 E r (i+1) (fun av=>(d,T av)::F av) ((d,U)::G)):ChainU P ops late a0 w0 E (o::r) i F G:=by
 refine⟨d,T,U,hd,hs,hf,hTU,?_,hr⟩
 rw [if_pos hi]
 intro av a w hav hb hk
 rw [if_pos (wanted_of (hg av) hk)]
 obtain⟨v,w',h1,h2,h3⟩:=h av a.eval w hav hb (plain_eval a) (allK_of hk hL)
 unfold Oper.wp
 rw [h1]
 exact⟨v,av,rfl,h2,h3,Ext.refl _ _,fun b hb=>Nat.lt_of_lt_of_le (hav b hb) h3.size⟩
theorem u_alloc {T:FactU}(U:Fact)(L:List Tmp)(hi:isA late i=true)(hd:o.dst=some d)(hL:(L.all fun s=>(o.looksAt ops).contains s)=true)(hg:∀av,GuardOK ops (F av) a0 o)(hs:stableU T)(hf:free U)(hTU:∀av v w,T av v w→U v w)
  (h:∀av ρ w,(∀b∈av,b<w.heap.size)→Below w0.heap.size w0 w→Plain ρ→AllK (F av) a0 w ρ L→∃v w',(execOp ρ o).run P w=.ok (.value v) w'∧T (w.heap.size::av) v w'∧Below w.heap.size w w'∧w.heap.size<w'.heap.size) (hr:ChainU P ops late a0 w0 E r (i+1) (fun av=>(d,T av)::F av) ((d,U)::G)):ChainU P ops late a0 w0 E (o::r) i F G:=by
 refine⟨d,T,U,hd,hs,hf,hTU,?_,hr⟩
 rw [if_pos hi]
 intro av a w hav hb hk
 rw [if_pos (wanted_of (hg av) hk)]
 obtain⟨v,w',h1,h2,h3,h4⟩:=h av a.eval w hav hb (plain_eval a) (allK_of hk hL)
 unfold Oper.wp
 rw [h1]
 refine⟨v,_,rfl,h2,h3,Ext.cons _ _,fun b hb=>?_⟩
 rcases List.mem_cons.1 hb with rfl|hb
 ·exact h4
 ·exact Nat.lt_of_lt_of_le (hav b hb) h3.size
theorem u_call {T:FactU}(U:Fact)(f:FuncId)(L:List Tmp)(hi:isA late i=true)(hd:o.dst=some d)(hL:(L.all fun s=>(o.looksAt ops).contains s)=true)(hg:∀av,GuardOK ops (F av) a0 o)(hs:stableU T)(hf:free U)(hTU:∀av v w,T av v w→U v w)
  (h:∀av ρ w,(∀b∈av,b<w.heap.size)→Below w0.heap.size w0 w→Plain ρ→AllK (F av) a0 w ρ L→∃args,(execOp ρ o).run P w=.ok (.enter f args) w∧Calls P f args w fun e w'=>∃v,e=.returned v∧T av v w'∧Below w.heap.size w w') (hr:ChainU P ops late a0 w0 E r (i+1) (fun av=>(d,T av)::F av) ((d,U)::G)):ChainU P ops late a0 w0 E (o::r) i F G:=by
 refine⟨d,T,U,hd,hs,hf,hTU,?_,hr⟩
 rw [if_pos hi]
 intro av a w hav hb hk
 rw [if_pos (wanted_of (hg av) hk)]
 obtain⟨args,h1,h2⟩:=h av a.eval w hav hb (plain_eval a) (allK_of hk hL)
 unfold Oper.wp
 rw [h1]
 refine h2.mono fun e w' ⟨v,he,hT,hbel⟩=>?_
 subst he
 exact⟨v,av,rfl,hT,hbel,Ext.refl _ _,fun b hb=>Nat.lt_of_lt_of_le (hav b hb) hbel.size⟩
theorem u_pure {u:Value}(L:List Tmp)(hi:isA late i=false)(hd:o.dst=some d)(hL:(L.all fun s=>(o.looksAt ops).contains s)=true)(hg:o.guard=none)
  (h:∀ρ w,Plain ρ→AllK G a0 w ρ L→(execOp ρ o).run P w=.ok (.value u) w) (hr:ChainU P ops late a0 w0 E r (i+1) (fun av=>(d,Is u)::F av) ((d,Is u)::G)):ChainU P ops late a0 w0 E (o::r) i F G:=by
 refine⟨d,fun _=>Is u,Is u,hd,stableU_of (stable_is u),free_is u,fun _ _ _ h=>h,?_,hr⟩
 rw [if_neg (by rw [hi];exact Bool.false_ne_true)]
 exact⟨hg,u,rfl,fun a w hk=>h a.eval w (plain_eval a) (allK_of hk hL)⟩
theorem u_end_lit (n:Nat)(hn:a0.tmps.size=n)
  (h:∀(av:List Nat) (f:Tmp→Value) (w:World),(∀b∈av,b<w.heap.size)→Below w0.heap.size w0 w→AllN (fun s=>KnowsV (F av) a0 w s (f s)) n 0→E { tmps:=(frameL f n 0).toArray,defers:=a0.defers } w):ChainU P ops late a0 w0 E [] i F G:=by
 intro av a w hav hb hd hs hk
 have e:a={ tmps:=(frameL (fun s=>a.tmps.getD s undef) n 0).toArray,defers:=a0.defers }:=by
  obtain⟨tm,df⟩:=a
  simp only at hd hs
  subst hd
  congr 1
  apply Array.ext'
  apply List.ext_getElem?
  intro j
  by_cases hj:j<n
  ·rw [show ((frameL (fun s=>tm.getD s undef) n 0).toArray.toList)=frameL (fun s=>tm.getD s undef) n 0 from rfl,frameL_get _ _ _ _ hj]
   have:j<tm.size:=by omega
   simp [this]
  ·rw [show ((frameL (fun s=>tm.getD s undef) n 0).toArray.toList)=frameL (fun s=>tm.getD s undef) n 0 from rfl]
   rw [List.getElem?_eq_none (by simp;omega),List.getElem?_eq_none (by rw [frameL_length];omega)]
 rw [e]
 exact h av _ w hav hb (allN_of n 0 fun j _ hj=>hk j (by rw [hn];omega))
end
theorem wp_region_u11_3 {P:Program}{id:Nat}{o0 o1 o2 o3 o4 o5 o6 o7 o8 o9 o10 t0 t1 t2:Oper}(late:List Nat){Q:Exit→Act→World→Prop}{a:Act}{w:World}(hm:P.follows .mixedOrders=true)(hB:chainTB a.tmps.size late [o0,o1,o2,o3,o4,o5,o6,o7,o8,o9,o10] [t0,t1,t2]=true)
  (h:ChainU P #[o0,o1,o2,o3,o4,o5,o6,o7,o8,o9,o10,t0,t1,t2] late a w.drew (fun a w=>wpList P #[o0,o1,o2,o3,o4,o5,o6,o7,o8,o9,o10,t0,t1,t2] (OnlyN fun a w=>Q .normal a w) [t0,t1,t2] a w) [o0,o1,o2,o3,o4,o5,o6,o7,o8,o9,o10] 0 (fun _=>[]) []):(Code.region id #[o0,o1,o2,o3,o4,o5,o6,o7,o8,o9,o10,t0,t1,t2] true).wp P Q a w:=
 wp_region_u [o0,o1,o2,o3,o4,o5,o6,o7,o8,o9,o10] [t0,t1,t2] late rfl (by simp) hm hB h
end
def NodAv (base:Nat)(x:Nd):FactU:=fun av v w=>∃A c B c2 lo hi,v=.agg #[.int .i64 x.k,.int .i64 x.e,.int .i64 x.n,.slice A x.d.length c,.slice B x.ks.length c2]∧base≤lo∧hi≤w.heap.size∧NdO lo hi w A c B c2 x∧∀b∈av,b<lo∨hi≤b
theorem stable_nodAv (base:Nat)(x:Nd):stableU (NodAv base x):=by
 rintro av av' v w w' ⟨A,c,B,c2,lo,hi,e,h0,h1,h2,h3⟩ hb hx _
 refine⟨A,c,B,c2,lo,hi,e,h0,Nat.le_trans h1 hb.size,h2.below hb h1,fun b hm=>?_⟩
 rcases hx.new b hm with h|h
 ·exact h3 b h
 ·exact .inr (Nat.le_trans h1 h)
theorem NodAv.of {base:Nat}{x:Nd}{av:List Nat}{v:Value}{w w':World}(h:NodF w.heap.size x v w')(hav:∀b∈av,b<w.heap.size)(hb:base≤w.heap.size):NodAv base x av v w':=by
 obtain⟨A,c,B,c2,hi,e,h1,h2⟩:=h
 exact⟨A,c,B,c2,w.heap.size,hi,e,hb,h1,h2,fun b hm=>.inl (hav b hm)⟩
theorem NodAv.zero (base:Nat)(av:List Nat)(w:World):NodAv base nd0 av (.agg #[.int .i64 0,.int .i64 0,.int .i64 0,.slice none 0 0,.slice none 0 0]) w:=
 ⟨none,0,none,0,base,0,rfl,Nat.le_refl _,Nat.zero_le _,fun W _=>nd0_here W 0 (by decide),fun b _=>.inr (Nat.zero_le _)⟩
def Tup2Av (base:Nat)(x:Nd)(r:Value):FactU:=fun av v w=>∃u,v=.tuple #[u,r]∧NodAv base x av u w
def Tup3Av (base:Nat)(x:Nd)(r r':Value):FactU:=fun av v w=>∃u,v=.tuple #[u,r,r']∧NodAv base x av u w
def Tup2W (r:Value):Fact:=fun v _=>∃u,v=.tuple #[u,r]
def Tup3W (r r':Value):Fact:=fun v _=>∃u,v=.tuple #[u,r,r']
theorem stable_tup3Av (base:Nat)(x:Nd)(r r':Value):stableU (Tup3Av base x r r'):=fun av av' v w w' ⟨u,h1,h2⟩ hb hx ha=>⟨u,h1,stable_nodAv base x av av' u w w' h2 hb hx ha⟩
theorem free_tup3W (r r':Value):free (Tup3W r r'):=fun _ _ _ h=>h
theorem Tup2Av.w {base:Nat}{x:Nd}{r:Value}{av:List Nat}{v:Value}{w:World}(h:Tup2Av base x r av v w):Tup2W r v w:=⟨h.choose,h.choose_spec.1⟩
theorem Tup3Av.w {base:Nat}{x:Nd}{r r':Value}{av:List Nat}{v:Value}{w:World}(h:Tup3Av base x r r' av v w):Tup3W r r' v w:=⟨h.choose,h.choose_spec.1⟩
def VarAv (base:Nat)(cs:Array Value):FactU:=fun av v w=>∃b,b∈av∧v=.pointer (some ⟨b,0,none⟩)∧base≤b∧Blk w b cs
theorem stable_varAv (base:Nat)(cs:Array Value):stableU (VarAv base cs):=by
 rintro av av' v w w' ⟨b,h0,h1,h2,h3⟩ hb hx _
 exact⟨b,hx.old b h0,h1,h2,h3.below hb⟩
theorem NdO.apart {lo hi:Nat}{w w':World}{A:Option Addr}{c:Nat}{B:Option Addr}{c2:Nat}{x:Nd}(h:NdO lo hi w A c B c2 x)(S:Nat→Prop)(hS:∀b,S b→b<lo∨hi≤b)(hw:∀k,¬S k→w'.heap[k]?=w.heap[k]?):NdO lo hi w' A c B c2 x:=
 h.to fun k h1 h2=>hw k fun hk=>by rcases hS k hk with h|h<;>omega
def KB (b:Nat):Nat→Prop:=fun k=>k=b
theorem bel_keeps {b:Nat}{w w':World}(h:Keeps (KB b) w w')(hb:b≤w.heap.size):Below b w w':=h.below hb (fun k hk=>by unfold KB at hk;omega)
theorem keeps_alloc {b:Nat}{w w':World}(h:Keeps (KB b) w w')(o:Obj):Keeps (KB b) w (w'.alloc o):=h.trans (keeps_of ((Below.refl _ _).alloc (Nat.le_refl _) o))
theorem keeps_set {b:Nat}{w w':World}(h:Keeps (KB b) w w'){p:Addr}(hp:p.block=b∨w.heap.size≤p.block)(v:Value):Keeps (KB b) w (w'.setCell p v):=by
  refine⟨h.os,h.tape,h.output,by simpa using h.size,fun k hk hS=>?_⟩
  rw [Below.heap_setCell _ _ _ _ (by rcases hp with e|e;·intro e2;exact hS (e2.trans e)
                                     · omega)]
  exact h.block k hk hS
theorem keeps_on {b:Nat}{w w1 w2:World}(h:Keeps (KB b) w w1)(hb:Below w1.heap.size w1 w2):Keeps (KB b) w w2:=h.trans (keeps_of hb)
theorem NodF.keeps {b lo:Nat}{x:Nd}{v:Value}{w w':World}(h:NodF lo x v w)(hk:Keeps (KB b) w w')(hb:b<lo):NodF lo x v w':=by
 obtain⟨A,c,B,c2,hi,h1,h2,h3⟩:=h
 exact⟨A,c,B,c2,hi,h1,Nat.le_trans h2 hk.size,h3.to fun k k1 k2=>hk.block k (by omega) (by unfold KB;omega)⟩
structure RowG (q n:Nat) (ts:List Nd) (W:World):Prop where
 cell:∀o,o<n*5→∃u,W.cell? ⟨q,o,none⟩=some u
 free:∀o,W.frozen? ⟨q,o,none⟩=false
 lt:q<W.heap.size
 done:∀j (hj:j<ts.length),∃A' c' B' c2' lo hi,q<lo∧hi≤W.heap.size∧NdO lo hi W A' c' B' c2' (ts[j])∧∀o,o<5→W.cell? ⟨q,j*5+o,none⟩=(fiveC (ts[j]) A' c' B' c2')[o]?
theorem RowG.agree {q n:Nat}{ts:List Nd}{W W':World}(h:RowG q n ts W)(hs:W.heap.size≤W'.heap.size)(hw:∀k,q≤k→k<W.heap.size→W'.heap[k]?=W.heap[k]?):RowG q n ts W':=by
 have hlt:=h.lt
 have hc:∀o,W'.cell? ⟨q,o,none⟩=W.cell? ⟨q,o,none⟩:=fun o=>World.cell?_of_block (hw q (Nat.le_refl _) hlt)
 refine⟨fun o ho=>?_,fun o=>?_,Nat.lt_of_lt_of_le hlt hs,fun j hj=>?_⟩
 ·obtain⟨u,hu⟩:=h.cell o ho
  exact⟨u,(hc o).trans hu⟩
 ·have:=h.free o
  unfold World.frozen? at this ⊢
  rw [show W'.heap[(⟨q,o,none⟩:Addr).block]?=W.heap[(⟨q,o,none⟩:Addr).block]? from hw q (Nat.le_refl _) hlt]
  exact this
 ·obtain⟨A',c',B',c2',lo,hi',h1,h2,h3,h5⟩:=h.done j hj
  exact⟨A',c',B',c2',lo,hi',h1,Nat.le_trans h2 hs,h3.to fun k k1 k2=>hw k (by omega) (by omega),fun o ho=>(hc _).trans (h5 o ho)⟩
theorem RowG.below {q n:Nat}{ts:List Nd}{W W':World}(h:RowG q n ts W)(hb:Below W.heap.size W W'):RowG q n ts W':=h.agree hb.size fun k _ h2=>hb.block k h2
theorem RowG.keeps {b q n:Nat}{ts:List Nd}{W W':World}(h:RowG q n ts W)(hk:Keeps (KB b) W W')(hb:b<q):RowG q n ts W':=h.agree hk.size fun k h1 h2=>hk.block k h2 (by unfold KB;omega)
theorem RowG.alloc {q n:Nat}{ts:List Nd}{W:World}(h:RowG q n ts W)(o:Obj):RowG q n ts (W.alloc o):=h.below ((Below.refl _ _).alloc (Nat.le_refl _) o)
theorem RowG.other {q n:Nat}{ts:List Nd}{W:World}(h:RowG q n ts W){p:Addr}(hp:p.block<q)(v:Value):RowG q n ts (W.setCell p v):=
 h.agree (by simp) fun k h1 _=>Below.heap_setCell _ _ _ _ (by omega)
theorem RowG.set {q n:Nat}{ts:List Nd}{W:World}(h:RowG q n ts W){p:Nat}(hp:ts.length*5≤p)(v:Value):RowG q n ts (W.setCell ⟨q,p,none⟩ v):=by
 have hd:∀o,p≠o→(W.setCell ⟨q,p,none⟩ v).cell? ⟨q,o,none⟩=W.cell? ⟨q,o,none⟩:=fun o ho=>cell_diff (fun e=>by injection e with e1 e2;exact ho e2)
 refine⟨fun o ho=>?_,fun o=>by rw [World.frozen?_setCell];exact h.free o,by simpa using h.lt,fun j hj=>?_⟩
 ·obtain⟨u,hu⟩:=h.cell o ho
  by_cases e:p=o
  ·subst e
   exact⟨v,cell_same hu⟩
  ·exact⟨u,(hd o e).trans hu⟩
 ·obtain⟨A',c',B',c2',lo,hi',h1,h2,h3,h5⟩:=h.done j hj
  exact⟨A',c',B',c2',lo,hi',h1,by simpa using h2,h3.to fun k k1 _=>Below.heap_setCell _ _ _ _ (by show k≠q;omega),fun o ho=>(hd _ (by omega)).trans (h5 o ho)⟩
theorem RowG.next {q n i:Nat}{ts:List Nd}{W:World}{x:Nd}(h:RowG q n ts W)(hi:ts.length=i)(hn:i<n){A':Option Addr}{c':Nat}{B':Option Addr}{c2' lo hi':Nat}(h1:q<lo)(h2:hi'≤W.heap.size)(h3:NdO lo hi' W A' c' B' c2' x):
  RowG q n (ts++[x]) (((((W.setCell ⟨q,i*5,none⟩ (.int .i64 x.k)).setCell ⟨q,i*5+1,none⟩ (.int .i64 x.e)).setCell ⟨q,i*5+2,none⟩ (.int .i64 x.n)).setCell ⟨q,i*5+3,none⟩ (.slice A' x.d.length c')).setCell ⟨q,i*5+4,none⟩ (.slice B' x.ks.length c2')):=by
 subst hi
 have hr:=((((h.set (p:=ts.length*5) (by omega) (.int .i64 x.k)).set (p:=ts.length*5+1) (by omega) (.int .i64 x.e)).set (p:=ts.length*5+2) (by omega) (.int .i64 x.n)).set (p:=ts.length*5+3) (by omega) (.slice A' x.d.length c')).set (p:=ts.length*5+4) (by omega) (.slice B' x.ks.length c2')
 refine⟨hr.cell,hr.free,hr.lt,fun j hj=>?_⟩
 by_cases e:j<ts.length
 ·have:=hr.done j e
  rw [List.getElem_append_left e]
  exact this
 have hjl:j=ts.length:=by rw [List.length_append,List.length_singleton] at hj;omega
 subst hjl
 have hx:(ts++[x])[ts.length]'hj=x:=by rw [List.getElem_append_right (Nat.le_refl _)];simp
 rw [hx]
 have hg:∀(w:World) k p v,lo≤k→(w.setCell ⟨q,p,none⟩ v).heap[k]?=w.heap[k]?:=fun w k p v hk=>Below.heap_setCell _ _ _ _ (by show k≠q;omega)
 refine⟨A',c',B',c2',lo,hi',h1,by simpa using h2,h3.to fun k k1 _=>by rw [hg _ _ _ _ k1,hg _ _ _ _ k1,hg _ _ _ _ k1,hg _ _ _ _ k1,hg _ _ _ _ k1],fun o ho=>?_⟩
 have d:∀(w:World) (p r:Nat) v,p≠r→(w.setCell ⟨q,p,none⟩ v).cell? ⟨q,r,none⟩=w.cell? ⟨q,r,none⟩:=fun w p r v hpr=>cell_diff (fun e=>by injection e with e1 e2;exact hpr e2)
 have c0:=fun o (ho:o<5)=>h.cell (ts.length*5+o) (by omega)
 have:o=0∨o=1∨o=2∨o=3∨o=4:=by omega
 rcases this with rfl|rfl|rfl|rfl|rfl
 ·obtain⟨u,hu⟩:=c0 0 (by omega)
  rw [d _ _ _ _ (by omega),d _ _ _ _ (by omega),d _ _ _ _ (by omega),d _ _ _ _ (by omega)]
  exact cell_same hu
 ·obtain⟨u,hu⟩:=c0 1 (by omega)
  rw [d _ _ _ _ (by omega),d _ _ _ _ (by omega),d _ _ _ _ (by omega)]
  exact cell_same (u:=u) (by rw [d _ _ _ _ (by omega)];exact hu)
 ·obtain⟨u,hu⟩:=c0 2 (by omega)
  rw [d _ _ _ _ (by omega),d _ _ _ _ (by omega)]
  exact cell_same (u:=u) (by rw [d _ _ _ _ (by omega),d _ _ _ _ (by omega)];exact hu)
 ·obtain⟨u,hu⟩:=c0 3 (by omega)
  rw [d _ _ _ _ (by omega)]
  exact cell_same (u:=u) (by rw [d _ _ _ _ (by omega),d _ _ _ _ (by omega),d _ _ _ _ (by omega)];exact hu)
 ·obtain⟨u,hu⟩:=c0 4 (by omega)
  exact cell_same (u:=u) (by rw [d _ _ _ _ (by omega),d _ _ _ _ (by omega),d _ _ _ _ (by omega),d _ _ _ _ (by omega)];exact hu)
theorem RowG.made {q n base:Nat}{W:World}{vs:List Value}(h:W.ownsRow base 53 5 (.slice (some ⟨q,0,none⟩) n n) n vs):RowG q n [] W:=by
 refine⟨fun o ho=>?_,fun o=>World.ownsRow.frozenAt h o,(h.lt q rfl).2,fun j hj=>by simp at hj⟩
 have hl:o<vs.length:=by rw [h.1];exact ho
 exact⟨vs[o],by rw [World.ownsRow.cellAt h o ho,List.getElem?_eq_getElem hl]⟩
section
attribute [local simp] AllK KnowsV look Is
def WrdG (lo:Nat)(xs:List Int):Fact:=fun v w=>Got w lo 39 .u64 v xs
theorem stable_wrdg (lo:Nat)(xs:List Int):stable (WrdG lo xs):=fun v w w' h hb=>Got.below h hb (Nat.le_refl _)
structure ObOK (ls:List (List Int)) (o:Ob):Prop where
 k:0≤o.k∧o.k≤2
 sg:0≤o.sg∧o.sg≤40
 at':0≤o.at'∧o.at'≤100000000000
 d:0≤o.d∧o.d≤65535
 p:0≤o.p∧o.p≤65535
 el:0≤o.el∧o.el≤7
 n:0≤o.n∧o.n≤536870911
 by':o.k=2→o.el<6→bytesI o.el o.n≤8*(datW ls o.sg o.at' (wordsI o.el o.n)).length
end
section
attribute [local simp] AllK KnowsV look Is
theorem ptrO_bd {ls:List (List Int)}{o:Ob}{x y:Int}(ho:ObOK ls o)(h:ptrO o=(x,y)):0≤x∧x≤150000000000∧0≤y∧y≤536870911:=by
 obtain⟨hk0,hsg,hat,hd,hp,hel,hn,hby⟩:=ho
 unfold ptrO at h
 split at h
 ·simp only [Prod.mk.injEq] at h;omega
 ·split at h
  ·simp only [Prod.mk.injEq] at h;omega
  ·simp only [Prod.mk.injEq] at h;omega
end
end Go.Proofs.YtfaflahfjgnphaaGreatDoor
