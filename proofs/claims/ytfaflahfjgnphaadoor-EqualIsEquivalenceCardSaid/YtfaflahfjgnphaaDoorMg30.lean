/- The texts OpenS (what is wanted of them), one after the other. -/
import Derived.Test.YtfaflahfjgnphaaDoorMg29
import Derived.Deep.Matrix
namespace Go.Proofs.YtfaflahfjgnphaaDoor
open Go.ChangeShapes Go.WideShapes Go.ChangeAt Go.RowKit
set_option linter.unusedVariables false
set_option linter.unusedSimpArgs false
set_option maxRecDepth 100000
structure RowS (w:World) (A:Option Addr) (len cap:Nat) (ls:List (List Int)):Prop where
 sg:Sg w A ls
 len_eq:len=ls.length
 le:len≤cap
 cap_le:cap≤maxLen
 nil:A=none→cap=0
 wd:Wd2 ls
theorem RowS.none {w:World}:RowS w .none 0 0 []:=⟨Sg.nil _ _,rfl,Nat.le_refl _,Nat.zero_le _,fun _=>rfl,fun z hz=>by cases hz⟩
theorem RowS.some {w:World}{x:Addr}{len cap:Nat}{A:Nat→Option Addr}{L C:Nat→Nat}{Z:Nat→List Int}(hl:len≤cap)(hm:cap≤maxLen)
  (h:∀r,r<cap→w.cell? (x.add r)=.some (.slice (A r) (L r) (C r))∧L r≤C r∧C r≤maxLen∧(Z r).length=C r∧(∀n∈Z r,(Lit.int .u64 n).wf=true)∧(A r=.none→C r=0) ∧
    ∀a',A r=.some a'→∀c,c<C r→w.cell? (a'.add c)=.some (.int .u64 ((Z r).getD c 0))) :
  RowS w (.some x) len cap ((List.range len).map fun r=>(Z r).take (L r)):=by
 have hlen:((List.range len).map fun r=>(Z r).take (L r)).length=len:=by simp
 have hseg:∀r,r<len→seg ((List.range len).map fun r=>(Z r).take (L r)) r=(Z r).take (L r):=by
  intro r hr
  simp [seg,List.getD_eq_getElem?_getD,hr]
 have hrow:∀r,r<len→Row .u64 w (A r) (L r) (C r) ((Z r).take (L r)):=by
  intro r hr
  obtain⟨h1,h2,h3,h4,h5,h6,h7⟩:=h r (by omega)
  cases hA:A r with
  | none=>
   have hC:=h6 hA
   have hL:L r=0:=by omega
   have:(Z r).take (L r)=[]:=by rw [hL];rfl
   rw [this,hL,hC]
   exact Row.none
  | some a'=>exact Row.some h2 h3 h4 (fun i hi=>h7 a' hA i (by omega)) h5
 refine⟨?_,hlen.symm,hl,hm,(fun h=>by cases h),?_⟩
 ·by_cases h0:0<len
  ·obtain⟨b,off,spot⟩:=x
   have hs:spot=.none:=by
    have:=World.cell?_spot (h 0 (by omega)).1
    simpa [Addr.add] using this
   subst hs
   refine .inr ⟨b,off,rfl,fun j hj=>?_⟩
   rw [hlen] at hj
   have h1:=(h j (by omega)).1
   rw [add_plain] at h1
   have hr:=hrow j hj
   refine⟨_,h1,A j,C j,?_,?_,hr.nil,?_,hr.cap_le⟩
   ·rw [hseg j hj]
    exact congrArg (fun n=>Value.slice (A j) n (C j)) hr.len_eq
   ·rw [hseg j hj];exact hr.ri
   ·rw [hseg j hj,←hr.len_eq];exact hr.le
  ·exact .inl (List.eq_nil_of_length_eq_zero (by omega))
 ·intro l hl2
  simp only [List.mem_map,List.mem_range] at hl2
  obtain⟨r,hr,rfl⟩:=hl2
  exact(hrow r hr).wds
end Go.Proofs.YtfaflahfjgnphaaDoor
