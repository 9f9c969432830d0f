/- The texts ObjNum (what is wanted of them), one after the other. -/
import Derived.Test.YtbpmeppdjicmhaaGreatDoorMg17
namespace Go.Proofs.YtbpmeppdjicmhaaGreatDoor
open Go.ChangeShapes Go.WideShapes Go.ChangeAt Go.RowKit
set_option linter.unusedVariables false
set_option linter.unusedSimpArgs false
set_option maxRecDepth 100000
theorem inB_iff {ls:List (List Int)}{s a n:Int}:inB ls s a n=true↔0≤s∧s<ls.length∧0≤a∧0≤n∧a+n≤(seg ls s.toNat).length:=by
 unfold inB
 rw [decide_eq_true_iff]
 constructor<;>intro h<;>omega
theorem objF_cases {ls:List (List Int)}(hw:Wd2 ls)(hm:ls.length≤140737488355328)(hf:∀j,(seg ls j).length≤140737488355328)(s a:Int):
  ((objF ls s a).1=ob0∧((objF ls s a).2=0∨2≤(objF ls s a).2∧(objF ls s a).2≤6)) ∨
  ((objF ls s a).2=0∧(objF ls s a).1.k=1∧(objF ls s a).1.el=0∧(objF ls s a).1.n=0∧0≤(objF ls s a).1.d∧(objF ls s a).1.d≤65535∧0≤(objF ls s a).1.p∧(objF ls s a).1.p≤65535∧(objF ls s a).1.cost=(objF ls s a).1.d+(objF ls s a).1.p∧inB ls (objF ls s a).1.sg (objF ls s a).1.at' ((objF ls s a).1.d+(objF ls s a).1.p)=true) ∨
  ((objF ls s a).2=0∧(objF ls s a).1.k=2∧0≤(objF ls s a).1.el∧(objF ls s a).1.el≤6∧0≤(objF ls s a).1.n∧(objF ls s a).1.n≤536870911∧(objF ls s a).1.d=0∧(objF ls s a).1.p=0∧(objF ls s a).1.cost=wordsI (objF ls s a).1.el (objF ls s a).1.n∧inB ls (objF ls s a).1.sg (objF ls s a).1.at' (objF ls s a).1.cost=true) ∨
  ((objF ls s a).2=0∧(objF ls s a).1.k=2∧(objF ls s a).1.el=7∧0≤(objF ls s a).1.n∧(objF ls s a).1.n≤536870911∧0≤(objF ls s a).1.d∧(objF ls s a).1.d≤65535∧0≤(objF ls s a).1.p∧(objF ls s a).1.p≤65535 ∧
   ∃c,0≤c∧c≤536870911∧(objF ls s a).1.n*((objF ls s a).1.d+(objF ls s a).1.p)≤c∧inB ls (objF ls s a).1.sg ((objF ls s a).1.at'-1) (c+1)=true∧(objF ls s a).1.cost=c+1+if (objF ls s a).1.d+(objF ls s a).1.p=0 then (objF ls s a).1.n else 0):=by
 have hbd:=followF_bd hw hm hf s a
 have hpd:=decP_bd (followF ls s a).w hbd.1 hbd.2.1
 have he:(followF ls s a).e=0∨2≤(followF ls s a).e∧(followF ls s a).e≤3:=by
  unfold followF
  repeat' split
  all_goals simp [folE]
 unfold objF
 generalize followF ls s a=q at *
 by_cases h1:q.e≠0∨q.w=0
 ·rw [if_pos h1]
  exact .inl ⟨rfl,by show q.e=0∨2≤q.e∧q.e≤6;omega⟩
 rw [if_neg h1]
 unfold objP
 generalize decP q.w=p at *
 by_cases h3:p.k=3
 ·rw [if_pos h3]
  refine .inl ⟨rfl,.inr ?_⟩
  show 2≤(if p.lo=0 then (6:Int) else 4)∧(if p.lo=0 then (6:Int) else 4)≤6
  split<;>omega
 rw [if_neg h3]
 by_cases h4:p.k=0
 ·rw [if_pos h4]
  by_cases h5:inB ls q.s (q.b+p.o) (p.d+p.p)=true
  ·rw [if_pos h5]
   exact .inr (.inl ⟨rfl,rfl,rfl,rfl,by show 0≤p.d;omega,by show p.d≤65535;omega,by show 0≤p.p;omega,by show p.p≤65535;omega,rfl,h5⟩)
  ·rw [if_neg h5]
   exact .inl ⟨rfl,.inr ⟨by show (2:Int)≤2;omega,by show (2:Int)≤6;omega⟩⟩
 rw [if_neg h4]
 by_cases h5:inB ls q.s (q.b+p.o) (wordsI p.el p.c)=false
 ·rw [if_pos h5]
  exact .inl ⟨rfl,.inr ⟨by show (2:Int)≤2;omega,by show (2:Int)≤6;omega⟩⟩
 rw [if_neg h5]
 have h5':inB ls q.s (q.b+p.o) (wordsI p.el p.c)=true:=by simpa using h5
 by_cases h7:p.el=7
 ·rw [if_pos h7]
  have hwd:=wordV_bd hw q.s (q.b+p.o)
  have htd:=decP_bd _ hwd.1 hwd.2
  unfold compF
  generalize decP (wordV ls q.s (q.b+p.o))=t at *
  by_cases h8:t.k≠0∨t.o<0∨p.c<t.o*(t.d+t.p)
  ·rw [if_pos h8]
   exact .inl ⟨rfl,.inr ⟨by show (2:Int)≤5;omega,by show (5:Int)≤6;omega⟩⟩
  ·rw [if_neg h8]
   rw [h7] at h5'
   refine .inr (.inr (.inr ⟨rfl,rfl,rfl,by show 0≤t.o;omega,by show t.o≤536870911;omega,by show 0≤t.d;omega,by show t.d≤65535;omega,by show 0≤t.p;omega,by show t.p≤65535;omega,p.c,by omega,by omega,by show t.o*(t.d+t.p)≤p.c;omega,?_,?_⟩))
   ·show inB ls q.s (q.b+p.o+1-1) (p.c+1)=true
    rw [show q.b+p.o+1-1=q.b+p.o by omega]
    exact h5'
   ·show (if t.d+t.p=0 then wordsI p.el p.c+t.o else wordsI p.el p.c)=p.c+1+if t.d+t.p=0 then t.o else 0
    rw [h7]
    show (if t.d+t.p=0 then p.c+1+t.o else p.c+1)=_
    split<;>omega
 ·rw [if_neg h7]
  exact .inr (.inr (.inl ⟨rfl,rfl,by show 0≤p.el;omega,by show p.el≤6;omega,by show 0≤p.c;omega,by show p.c≤536870911;omega,rfl,rfl,rfl,h5'⟩))
end Go.Proofs.YtbpmeppdjicmhaaGreatDoor
