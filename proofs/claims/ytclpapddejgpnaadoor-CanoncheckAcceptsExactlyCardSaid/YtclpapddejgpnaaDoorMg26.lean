/- The texts Chk1 (what is wanted of them), one after the other. -/
import Derived.Test.YtclpapddejgpnaaDoorMg21
namespace Go.Proofs.YtclpapddejgpnaaDoor
open Go.ChangeShapes Go.WideShapes Go.ChangeAt Go.RowKit
set_option linter.unusedVariables false
set_option linter.unusedSimpArgs false
set_option maxRecDepth 100000
section
def Lay (W:List Int)(nx a:Nat)(t:Nd):Prop:=zat W a=ptrW t ((nx:Int)-a-1)∧Has W nx (objW t)
def LayK (W:List Int)(nx P:Nat)(ts:List Nd):Prop:=∀j (hj:j<ts.length),Lay W (nx+(objK (ts.take j)).length) (P+j) ts[j]
def chkR (f:Int→Nat→Int)(nx:Int):Nat→Int
 | 0=>nx
 | i+1=>if chkR f nx i<0 then -1 else if f (chkR f nx i) i<0 then -1 else f (chkR f nx i) i
open Classical in
noncomputable def layVK (W:List Int) (nx P:Nat) (ts:List Nd):Int:=if LayK W nx P ts then ((nx+(objK ts).length:Nat):Int) else -1
open Classical in
noncomputable def layV (W:List Int) (nx a:Nat) (t:Nd):Int:=if Lay W nx a t then ((nx+(objW t).length:Nat):Int) else -1
theorem layK_take {W:List Int}{nx P:Nat}{ts:List Nd}{i:Nat}(hi:i<ts.length):LayK W nx P (ts.take (i+1))↔LayK W nx P (ts.take i)∧Lay W (nx+(objK (ts.take i)).length) (P+i) ts[i]:=by
 constructor
 ·intro h
  refine⟨fun j hj=>?_,?_⟩
  ·rw [List.length_take] at hj
   have:=h j (by rw [List.length_take];omega)
   rw [List.take_take,Nat.min_eq_left (by omega),List.getElem_take] at this
   rw [List.take_take,Nat.min_eq_left (by omega),List.getElem_take]
   exact this
  ·have:=h i (by rw [List.length_take];omega)
   rw [List.take_take,Nat.min_eq_left (by omega),List.getElem_take] at this
   exact this
 ·rintro⟨h1,h2⟩ j hj
  rw [List.length_take] at hj
  rw [List.take_take,Nat.min_eq_left (by omega),List.getElem_take]
  by_cases e:j=i
  ·subst e;exact h2
  ·have:=h1 j (by rw [List.length_take];omega)
   rw [List.take_take,Nat.min_eq_left (by omega),List.getElem_take] at this
   exact this
theorem layK_le {W:List Int}{nx P:Nat}(hn:nx≤W.length):∀{ts:List Nd},LayK W nx P ts→nx+(objK ts).length≤W.length:=by
 intro ts h
 rcases Nat.eq_zero_or_pos ts.length with h0|h0
 ·rw [List.eq_nil_of_length_eq_zero h0]
  simpa [objK] using hn
 ·have h1:=(h (ts.length-1) (by omega)).2.1
  have h2:=objK_take ts (ts.length-1) (by omega)
  rw [show ts.length-1+1=ts.length by omega,List.take_length] at h2
  rw [h2,List.length_append]
  omega
theorem chkR_ok {f:Int→Nat→Int}{W:List Int}{P nx:Nat}{ts:List Nd}(hn:nx≤W.length)(hf:∀j (hj:j<ts.length) (q:Nat),q≤W.length→f q j=layV W q (P+j) ts[j]):∀i,i≤ts.length→chkR f nx i=layVK W nx P (ts.take i):=by
 intro i
 induction i with
 | zero=>
  intro _
  unfold layVK
  have h0:LayK W nx P (ts.take 0):=fun j hj=>by simp at hj
  rw [if_pos h0]
  simp [chkR,objK]
 | succ i ih=>
  intro hi
  have hlt:i<ts.length:=by omega
  have h1:=ih (by omega)
  have ht:=layK_take (W:=W) (nx:=nx) (P:=P) hlt
  unfold chkR
  rw [h1]
  unfold layVK
  by_cases hA:LayK W nx P (ts.take i)
  ·rw [if_pos hA,if_neg (by omega)]
   have hle:=layK_le hn hA
   have h2:=hf i hlt (nx+(objK (ts.take i)).length) hle
   rw [h2]
   unfold layV
   by_cases hB:Lay W (nx+(objK (ts.take i)).length) (P+i) ts[i]
   ·rw [if_pos hB,if_neg (by omega),if_pos (ht.2 ⟨hA,hB⟩),objK_take ts i hlt,List.length_append]
    omega
   ·rw [if_neg hB,if_pos (by omega),if_neg (fun h=>hB (ht.1 h).2)]
  ·rw [if_neg hA,if_pos (by omega),if_neg (fun h=>hA (ht.1 h).1)]
theorem chkR_all {f:Int→Nat→Int}{W:List Int}{P nx:Nat}{ts:List Nd}(hn:nx≤W.length)(hf:∀j (hj:j<ts.length) (q:Nat),q≤W.length→f q j=layV W q (P+j) ts[j]):chkR f nx ts.length=layVK W nx P ts:=by
 have:=chkR_ok hn hf ts.length (Nat.le_refl _)
 rw [List.take_length] at this
 exact this
theorem has_append {W:List Int}{p:Nat}{a b:List Int}:Has W p (a++b)↔Has W p a∧Has W (p+a.length) b:=by
 refine⟨fun h=>⟨h.left,h.right⟩,fun ⟨h1,h2⟩=>?_⟩
 have k1:=h2.1
 refine⟨by rw [List.length_append];omega,fun i hi=>?_⟩
 rw [List.length_append] at hi
 by_cases e:i<a.length
 ·rw [zat_append_left _ _ _ e];exact h1.2 i e
 ·rw [zat_append_right _ _ _ (by omega),←h2.2 (i-a.length) (by omega)]
  congr 1
  omega
theorem has_cons {W:List Int}{p:Nat}{x:Int}{l:List Int}:Has W p (x::l)↔p<W.length∧zat W p=x∧Has W (p+1) l:=by
 refine⟨fun h=>h.head,fun ⟨h1,h2,h3⟩=>?_⟩
 have:=(has_append (W:=W) (p:=p) (a:=[x]) (b:=l)).2 ⟨⟨by simp;omega,fun i hi=>by
  obtain rfl:i=0:=by simp at hi;omega
  simpa [zat] using h2⟩,by simpa using h3⟩
 simpa using this
theorem has_nil {W:List Int}{p:Nat}:Has W p []↔p≤W.length:=⟨fun h=>by simpa using h.1,fun h=>⟨by simpa using h,fun i hi=>by simp at hi⟩⟩
theorem layK_iff {W:List Int}:∀{ts:List Nd} {P nx:Nat} {pos x:Int},(∀t∈ts,validN t=true)→x-pos=(nx:Int)-P→nx≤W.length→P+ts.length≤W.length→(LayK W nx P ts↔Has W P (ptrsW pos x ts)∧Has W nx (objK ts))
 | [],P,nx,pos,x,_,_,h1,h2=>by
  refine⟨fun _=>⟨has_nil.2 (by simpa using h2),has_nil.2 h1⟩,fun _ j hj=>by simp at hj⟩
 | t::ts,P,nx,pos,x,hv,he,h1,h2=>by
  have hlen:((objW t).length:Int)=canN t:=objW_length t (hv t (List.mem_cons_self ..))
  have hsplit:LayK W nx P (t::ts)↔Lay W nx P t∧LayK W (nx+(objW t).length) (P+1) ts:=by
   constructor
   ·intro h
    refine⟨by
    have h9:=h 0 (by simp)
    simp only [List.take_zero,objK,List.length_nil,Nat.add_zero] at h9
    exact h9,fun j hj=>?_⟩
    have:=h (j+1) (by simpa using hj)
    simp only [List.take_succ_cons,objK,List.length_append,List.getElem_cons_succ] at this
    rw [show P+1+j=P+(j+1) by omega,Nat.add_assoc]
    exact this
   ·rintro⟨g1,g2⟩ j hj
    cases j with
    | zero=>simpa only [List.take_zero,objK,List.length_nil,Nat.add_zero,List.getElem_cons_zero] using g1
    | succ j=>
     have:=g2 j (by simpa using hj)
     simp only [List.take_succ_cons,objK,List.length_append,List.getElem_cons_succ]
     rw [show P+1+j=P+(j+1) by omega,Nat.add_assoc] at this
     exact this
  have hp:x-pos-1=(nx:Int)-P-1:=by omega
  rw [hsplit]
  simp only [ptrsW,objK]
  rw [has_cons,has_append,hp]
  constructor
  ·rintro⟨⟨g1,g2⟩,g3⟩
   have g4:=(layK_iff (fun y hy=>hv y (List.mem_cons_of_mem _ hy)) (pos:=pos+1) (x:=x+canN t) (by omega) g2.1 (by simp at h2;omega)).1 g3
   exact⟨⟨by simp at h2;omega,g1,g4.1⟩,g2,g4.2⟩
  ·rintro⟨⟨g1,g2,g3⟩,g4,g5⟩
   exact⟨⟨g2,g4⟩,(layK_iff (fun y hy=>hv y (List.mem_cons_of_mem _ hy)) (pos:=pos+1) (x:=x+canN t) (by omega) g4.1 (by simp at h2;omega)).2 ⟨g3,g5⟩⟩
end
end Go.Proofs.YtclpapddejgpnaaDoor
