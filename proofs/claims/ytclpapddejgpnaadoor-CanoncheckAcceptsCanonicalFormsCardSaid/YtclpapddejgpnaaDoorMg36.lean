/- The texts KcM (what is wanted of them), one after the other. -/
import Derived.Test.YtclpapddejgpnaaDoorMg33
namespace Go.Proofs.YtclpapddejgpnaaDoor
open Go.ChangeShapes Go.WideShapes Go.ChangeAt Go.RowKit
set_option linter.unusedVariables false
set_option linter.unusedSimpArgs false
set_option maxRecDepth 100000
section
def KBd (L:Nat)(f:Ks→Option Ks):Prop:=∀s s',s.1≤L→0≤s.2→f s=some s'→s'.1≤L∧0≤s'.2∧s'.2≤s.2
theorem kTake_ok {L:Nat}{s:Ks}{a:Nat}{o:Int}{n:Nat}(h:¬kTake L s a o n=none):(a:Int)+1+o=s.1∧s.1+n≤L∧(n:Int)≤s.2:=by
 unfold kTake at h
 by_cases c:(a:Int)+1+o=s.1∧s.1+n≤L∧(n:Int)≤s.2
 ·exact c
 ·rw [if_neg c] at h;exact absurd rfl h
theorem kTake_no {L:Nat}{s:Ks}{a:Nat}{o:Int}{n:Nat}:kTake L s a o n=none↔¬((a:Int)+1+o=s.1∧s.1+n≤L∧(n:Int)≤s.2):=by
 unfold kTake
 by_cases c:(a:Int)+1+o=s.1∧s.1+n≤L∧(n:Int)≤s.2
 ·rw [if_pos c];simp [c]
 ·rw [if_neg c];simp [c]
theorem kRow_some {f:Nat→Ks→Option Ks}{s t:Ks}{i:Nat}(h:kRow f i s=some t):kRow f (i+1) s=f i t:=by
 show (kRow f i s).bind (f i)=_
 rw [h];rfl
theorem kRow_none {f:Nat→Ks→Option Ks}{s:Ks}{i:Nat}(h:kRow f i s=none):∀j,i≤j→kRow f j s=none
 | 0,hj=>by
  obtain rfl:i=0:=by omega
  exact h
 | j+1,hj=>by
  by_cases e:i=j+1
  ·subst e;exact h
  ·show (kRow f j s).bind (f j)=none
   rw [kRow_none h j (by omega)];rfl
theorem kRow_bd {L:Nat}{f:Nat→Ks→Option Ks}(hf:∀i,KBd L (f i)):∀n,KBd L (kRow f n)
 | 0,s,s',h1,h2,h=>by
  have:s=s':=by injection h
  subst this
  exact⟨h1,h2,Int.le_refl _⟩
 | n+1,s,s',h1,h2,h=>by
  cases hc:kRow f n s with
  | none=>rw [kRow_none hc (n+1) (by omega)] at h;cases h
  | some t=>
   rw [kRow_some hc] at h
   obtain⟨a1,a2,a3⟩:=kRow_bd hf n s t h1 h2 hc
   obtain⟨b1,b2,b3⟩:=hf n t s' a1 a2 h
   exact⟨b1,b2,Int.le_trans b3 a3⟩
theorem kStr_bd {vis:Nat→Ks→Option Ks}{W:List Int}(hv:∀a,KBd W.length (vis a))(a:Nat)(o:Int)(A b:Nat):KBd W.length (kStr vis W a o A b):=by
 intro s s' h1 h2 h
 unfold kStr at h
 by_cases c1:A+b=0
 ·rw [if_pos c1] at h
  by_cases c2:o=-1
  ·rw [if_pos c2] at h
   have:s=s':=by injection h
   subst this
   exact⟨h1,h2,Int.le_refl _⟩
  ·rw [if_neg c2] at h;cases h
 rw [if_neg c1] at h
 by_cases c2:kTake W.length s a o (A+b)=none∨(0<A∧zat W (s.1+A-1)=0)∨(0<b∧zat W (s.1+A+b-1)=0)
 ·rw [if_pos c2] at h;cases h
 rw [if_neg c2] at h
 obtain⟨k1,k2,k3⟩:=kTake_ok (fun h3=>c2 (.inl h3))
 have hr:=kRow_bd (f:=fun i=>vis (s.1+A+i)) (fun i=>hv _) b (s.1+(A+b),s.2-(A+b:Nat)) s' k2 (by show 0≤s.2-((A+b:Nat):Int);omega) h
 have h3:s'.2≤s.2-((A+b:Nat):Int):=hr.2.2
 exact⟨hr.1,hr.2.1,by omega⟩
theorem kLst_bd {vis:Nat→Ks→Option Ks}{W:List Int}(hv:∀a,KBd W.length (vis a))(a:Nat)(o e c:Int):KBd W.length (kLst vis W a o e c):=by
 intro s s' h1 h2 h
 unfold kLst at h
 by_cases c2:kTake W.length s a o (wordsI e c).toNat=none∨(0<bitsI e*c % 64∧fld (zat W (s.1+(wordsI e c).toNat-1)) (bitsI e*c % 64) (64-bitsI e*c % 64)≠0)
 ·rw [if_pos c2] at h;cases h
 rw [if_neg c2] at h
 obtain⟨k1,k2,k3⟩:=kTake_ok (fun h3=>c2 (.inl h3))
 by_cases c3:e=6
 ·rw [if_pos c3] at h
  have hr:=kRow_bd (f:=fun i=>vis (s.1+i)) (fun i=>hv _) c.toNat (s.1+(wordsI e c).toNat,s.2-(wordsI e c).toNat) s' k2 (by show 0≤s.2-((wordsI e c).toNat:Int);omega) h
  have h3:s'.2≤s.2-((wordsI e c).toNat:Int):=hr.2.2
  exact⟨hr.1,hr.2.1,by omega⟩
 ·rw [if_neg c3] at h
  have:(s.1+(wordsI e c).toNat,s.2-((wordsI e c).toNat:Int))=s':=by injection h
  subst this
  exact⟨k2,by show 0≤s.2-((wordsI e c).toNat:Int);omega,by show s.2-((wordsI e c).toNat:Int)≤s.2;omega⟩
theorem kCmp_bd {vis:Nat→Ks→Option Ks}{W:List Int}(hv:∀a,KBd W.length (vis a))(a:Nat)(o:Int)(c:Nat):KBd W.length (kCmp vis W a o c):=by
 intro s s' h1 h2 h
 unfold kCmp at h
 generalize decP (zat W s.1)=T at *
 by_cases c2:kTake W.length s a o (c+1)=none∨¬(T.k=0∧0≤T.o∧T.o*(T.d+T.p)=c)
 ·rw [if_pos c2] at h;cases h
 rw [if_neg c2] at h
 obtain⟨k1,k2,k3⟩:=kTake_ok (fun h3=>c2 (.inl h3))
 have k4:T.k=0∧0≤T.o∧T.o*(T.d+T.p)=c:=Classical.byContradiction fun h3=>c2 (.inr h3)
 by_cases c3:T.d+T.p=0
 ·rw [if_pos c3] at h
  by_cases c4:T.o≤s.2-(c+1:Nat)
  ·rw [if_pos c4] at h
   have:(s.1+(c+1),s.2-((c+1:Nat):Int)-T.o)=s':=by injection h
   subst this
   exact⟨k2,by show 0≤s.2-((c+1:Nat):Int)-T.o;omega,by show s.2-((c+1:Nat):Int)-T.o≤s.2;omega⟩
  ·rw [if_neg c4] at h;cases h
 rw [if_neg c3] at h
 split at h
 ·cases h
 ·have hr:=kRow_bd (f:=fun j=>kRow (fun i=>vis (s.1+1+j*(T.d.toNat+T.p.toNat)+T.d.toNat+i)) T.p.toNat) (fun j=>kRow_bd (fun i=>hv _) _) T.o.toNat (s.1+(c+1),s.2-(c+1:Nat)) s' k2 (by show 0≤s.2-((c+1:Nat):Int);omega) h
  have h3:s'.2≤s.2-((c+1:Nat):Int):=hr.2.2
  exact⟨hr.1,hr.2.1,by omega⟩
section
variable {vis:Nat→Ks→Option Ks} {W:List Int} {a x c:Nat} {o m:Int} {T:Ptr} (hT:decP (zat W x)=T)
include hT
theorem kCmp_no1 (h:¬(T.k=0∧0≤T.o∧T.o*(T.d+T.p)=c)):kCmp vis W a o c (x,m)=none:=by
 unfold kCmp
 show (if _∨¬((decP (zat W x)).k=0∧_) then none else _)=_
 rw [hT,if_pos (.inr h)]
variable (hk:kTake W.length (x,m) a o (c+1)=some (x+(c+1),m-(c+1:Nat))) (h:T.k=0∧0≤T.o∧T.o*(T.d+T.p)=c)
include hk h
theorem kCmp_zero (h2:T.d+T.p=0):kCmp vis W a o c (x,m)=if T.o≤m-(c+1:Nat) then some (x+(c+1),m-(c+1:Nat)-T.o) else none:=by
 unfold kCmp
 show (if kTake W.length (x,m) a o (c+1)=none∨¬((decP (zat W x)).k=0∧_) then none else _)=_
 rw [if_neg (by rintro(g|g);rw [hk] at g;cases g;exact g (by rw [hT];exact h))]
 show (if (decP (zat W x)).d+(decP (zat W x)).p=0 then _ else _)=_
 rw [hT,if_pos h2]
theorem kCmp_no2 {n d p:Nat}(hn:T.o=n)(hd:T.d=d)(hp:T.p=p)(h2:d+p≠0)(h3:(0<d∧¬AnyP W (x+d) n (d+p))∨(0<p∧¬AnyP W (x+(d+p)) n (d+p))):kCmp vis W a o c (x,m)=none:=by
 unfold kCmp
 show (if kTake W.length (x,m) a o (c+1)=none∨¬((decP (zat W x)).k=0∧_) then none else _)=_
 rw [if_neg (by rintro(g|g);rw [hk] at g;cases g;exact g (by rw [hT];exact h))]
 show (if (decP (zat W x)).d+(decP (zat W x)).p=0 then _ else _)=_
 rw [hT,hn,hd,hp,if_neg (by omega)]
 simp only [Int.toNat_natCast]
 rw [if_pos]
 rcases h3 with ⟨g1,g2⟩|⟨g1,g2⟩
 ·exact .inl ⟨by omega,g2⟩
 ·exact .inr ⟨by omega,g2⟩
theorem kCmp_row {n d p:Nat}(hn:T.o=n)(hd:T.d=d)(hp:T.p=p)(h2:d+p≠0)(h3:¬(0<d∧¬AnyP W (x+d) n (d+p)))(h4:¬(0<p∧¬AnyP W (x+(d+p)) n (d+p))):kCmp vis W a o c (x,m)=kRow (fun j=>kRow (fun i=>vis (x+1+j*(d+p)+d+i)) p) n (x+(c+1),m-(c+1:Nat)):=by
 unfold kCmp
 show (if kTake W.length (x,m) a o (c+1)=none∨¬((decP (zat W x)).k=0∧_) then none else _)=_
 rw [if_neg (by rintro(g|g);rw [hk] at g;cases g;exact g (by rw [hT];exact h))]
 show (if (decP (zat W x)).d+(decP (zat W x)).p=0 then _ else _)=_
 rw [hT,hn,hd,hp,if_neg (by omega)]
 simp only [Int.toNat_natCast]
 rw [if_neg]
 rintro(⟨g1,g2⟩|⟨g1,g2⟩)
 ·exact h3 ⟨by omega,g2⟩
 ·exact h4 ⟨by omega,g2⟩
end
theorem kVis_bd {W:List Int}:∀r a,KBd W.length (kVis W r a)
 | 0,a,s,s',h1,h2,h=>by
  unfold kVis at h
  by_cases c:zat W a=0
  ·rw [if_pos c] at h
   have:s=s':=by injection h
   subst this
   exact⟨h1,h2,Int.le_refl _⟩
  ·rw [if_neg c] at h;cases h
 | r+1,a,s,s',h1,h2,h=>by
  unfold kVis at h
  by_cases c:zat W a=0
  ·rw [if_pos c] at h
   have:s=s':=by injection h
   subst this
   exact⟨h1,h2,Int.le_refl _⟩
  ·rw [if_neg c] at h
   unfold kBody at h
   split at h
   ·exact kStr_bd (kVis_bd r) _ _ _ _ s s' h1 h2 h
   ·split at h
    ·split at h
     ·exact kCmp_bd (kVis_bd r) _ _ _ s s' h1 h2 h
     ·exact kLst_bd (kVis_bd r) _ _ _ _ s s' h1 h2 h
    ·cases h
end
end Go.Proofs.YtclpapddejgpnaaDoor
