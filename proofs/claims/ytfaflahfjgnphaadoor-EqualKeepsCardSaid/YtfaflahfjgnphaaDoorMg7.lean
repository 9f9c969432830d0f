/- The texts RegionA, RegionU (what is wanted of them), one after the other. -/
import Derived.Test.YtfaflahfjgnphaaDoorMg5
namespace Go.Proofs.YtfaflahfjgnphaaDoor
open Go.RowKit
set_option linter.unusedVariables false
set_option linter.unusedSimpArgs false
set_option maxRecDepth 100000
section
structure Keeps (S:Nat→Prop) (w w':World):Prop where
 os:w'.os=w.os
 tape:w'.tape=w.tape
 output:w'.output=w.output
 size:w.heap.size≤w'.heap.size
 block:∀k,k<w.heap.size→¬S k→w'.heap[k]?=w.heap[k]?
theorem Keeps.refl (S:Nat→Prop)(w:World):Keeps S w w:=⟨rfl,rfl,rfl,Nat.le_refl _,fun _ _ _=>rfl⟩
theorem Keeps.trans {S:Nat→Prop}{a b c:World}(h:Keeps S a b)(k:Keeps S b c):Keeps S a c:=
 ⟨k.os.trans h.os,k.tape.trans h.tape,k.output.trans h.output,Nat.le_trans h.size k.size,fun i hi hS=>(k.block i (Nat.lt_of_lt_of_le hi h.size) hS).trans (h.block i hi hS)⟩
theorem keeps_of {S:Nat→Prop}{w w':World}(h:Below w.heap.size w w'):Keeps S w w':=⟨h.os,h.tape,h.output,h.size,fun k hk _=>h.block k hk⟩
theorem Keeps.below {S:Nat→Prop}{w w':World}(h:Keeps S w w'){B:Nat}(hB:B≤w.heap.size)(hS:∀k,S k→B≤k):Below B w w':=
 ⟨h.os,h.tape,h.output,h.size,fun k hk=>h.block k (by omega) (fun hk2=>by have:=hS k hk2;omega)⟩
def Any:Fact:=fun _ _=>True
def before (l:List Oper)(i m:Nat):Bool:=i==m||(match l[m]? with
 | none=>false
 | some o=>o.after.any fun e=>Region.binds .any e&&e.on==i)
theorem factsTo_app {l:List Oper}{Ts:List Fact}{T:Fact}{i:Nat}(hT:Ts.length=i):∀j,j≤i→factsTo l (Ts++[T]) j=factsTo l Ts j:=by
 intro j
 induction j with
 | zero=>intro _;rfl
 | succ j ihj=>
  intro hj
  unfold factsTo
  rw [ihj (by omega),List.getElem?_append_left (by omega)]
theorem get_app {Ts:List Fact}{T U:Fact}{i j:Nat}(hT:Ts.length=i)(h:(Ts++[T])[j]?=some U):(j<i∧Ts[j]?=some U)∨(j=i∧U=T):=by
 by_cases hj:j<Ts.length
 ·rw [List.getElem?_append_left hj] at h
  exact .inl ⟨by omega,h⟩
 ·rw [List.getElem?_append_right (by omega)] at h
  have h0:j-Ts.length=0:=by
   rcases Nat.eq_zero_or_pos (j-Ts.length) with h1|h1
   ·exact h1
   ·rw [List.getElem?_eq_none (by simp;omega)] at h;cases h
  rw [h0] at h
  simp at h
  exact .inr ⟨by omega,h.symm⟩
theorem dst_lt {l:List Oper}{j:Nat}{s:Tmp}(h:dstAt l j=some s):j<l.length:=by
 rcases Nat.lt_or_ge j l.length with h1|h1
 ·exact h1
 ·simp [dstAt,List.getElem?_eq_none h1] at h
def OnlyN (K:Act→World→Prop):Exit→Act→World→Prop:=fun e a w=>e=.normal∧K a w
section
variable {P:Program} {ops:Array Oper} {l:List Oper} {t:Oper} {m:Nat} {S:Nat→Prop} {a0:Act} {w0:World} {Q:Exit→Act→World→Prop} {o:Oper} {r:List Oper} {i:Nat} {F G:List (Tmp×Fact)} {d:Tmp}
end
section
variable {P:Program} {ops:Array Oper} {l:List Oper} {t:Oper} {a0:Act} {w0:World} {Q:Exit→Act→World→Prop} {o:Oper} {r:List Oper} {i:Nat} {F G:List (Tmp×Fact)} {d:Tmp}
end
theorem chain_skipU {P:Program}{ops:Array Oper}{a0:Act}{w0:World}{Q:Exit→Act→World→Prop}{o:Oper}{r:List Oper}{F:List (Tmp×Fact)}{d:Tmp}{g s:Nat}{b:Bool}(hgd:o.guard=some (g,b))(hd:o.dst=some d)(hs:s∈o.looksAt ops)(hb:(ops[g]?).bind (·.dst)=some s)
  (hv:∀w x,KnowsV F a0 w s x→x=undef) (hr:Chain P ops a0 w0 Q r ((d,Is undef)::F)):Chain P ops a0 w0 Q (o::r) F:=by
 refine⟨d,Is undef,hd,stable_is _,fun a w _ hk=>?_,hr⟩
 have hx:=hv w _ (hk s hs)
 have hy:yielded ops a.tmps g=none:=by
  unfold yielded
  rw [hb]
  simp only [Option.bind_some]
  simp only [Array.getD_eq_getD_getElem?] at hx
  cases ht:a.tmps[s]? with
  | none=>rfl
  | some v=>rw [ht] at hx;simp at hx;subst hx;rfl
 have hw:Region.wanted o (yielded ops a.tmps)=false:=by
  unfold Region.wanted
  rw [hgd]
  simp only [hy]
  cases b<;>rfl
 rw [if_neg (by rw [hw];exact Bool.false_ne_true)]
 rfl
section
variable {P:Program} {ops:Array Oper} {l:List Oper} {t:Oper} {m:Nat} {S:Nat→Prop} {a0:Act} {w0:World} {Q:Exit→Act→World→Prop} {o:Oper} {r:List Oper} {i:Nat} {F G:List (Tmp×Fact)} {d:Tmp}
end
end
section
def FactU:Type:=List Nat→Fact
structure Ext (av:List Nat) (w:World) (av':List Nat):Prop where
 old:∀b∈av,b∈av'
 new:∀b∈av',b∈av∨w.heap.size≤b
theorem Ext.refl (av:List Nat)(w:World):Ext av w av:=⟨fun _ h=>h,fun _ h=>.inl h⟩
theorem Ext.cons (av:List Nat)(w:World):Ext av w (w.heap.size::av):=⟨fun _ h=>List.mem_cons_of_mem _ h,fun b h=>by
 rcases List.mem_cons.1 h with rfl|h
 ·exact .inr (Nat.le_refl _)
 ·exact .inl h⟩
section
variable {P:Program} {ops:Array Oper} {late:List Nat} {a0:Act} {w0:World} {E:Act→World→Prop} {o:Oper} {r:List Oper} {i:Nat} {F:List Nat→List (Tmp×Fact)} {G:List (Tmp×Fact)} {d:Tmp}
end
end
end Go.Proofs.YtfaflahfjgnphaaDoor
