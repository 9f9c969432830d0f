/- The texts MsgOwn, AppS0 (what is wanted of them), one after the other. -/
import Derived.Test.YtfaflahfjgnphaaDoorMg9
import Derived.Lib.AppendZeros
namespace Go.Proofs.YtfaflahfjgnphaaDoor
open Go.RowKit Go.ChangeShapes Go.WideShapes Go.ChangeAt
set_option linter.unusedVariables false
set_option linter.unusedSimpArgs false
set_option maxRecDepth 100000
def GotS (w:World)(base:Nat)(v:Value)(ls:List (List Int)):Prop:=
 ∃vs:List Value,w.ownsRow base 31 1 v ls.length vs∧∀j,j<ls.length→∃u,vs[j]?=some u∧Got w base 32 .u64 u (seg ls j)
theorem GotS.empty (w:World)(base:Nat):GotS w base (.slice none 0 0) []:=⟨[],World.ownsRow_nil w base _ 1,fun j hj=>by simp at hj⟩
theorem ownsRow_belowS {w w':World}{base B n size:Nat}{e:TypeId}{v:Value}{xs:List Value}(h:w.ownsRow base e size v n xs)(hb:Below B w w')(hB:w.heap.size≤B):w'.ownsRow base e size v n xs:=by
 obtain⟨h1,h2⟩:=h
 refine⟨h1,?_⟩
 rcases h2 with h2|⟨g,cap,cur,hv,hg,hh,r⟩
 ·exact .inl h2
 ·refine .inr ⟨g,cap,cur,hv,hg,?_,r⟩
  have hlt:g<w.heap.size:=by
   rcases Nat.lt_or_ge g w.heap.size with hlt|hge
   ·exact hlt
   ·rw [Array.getElem?_eq_none hge] at hh;cases hh
  rw [hb.block g (by omega)]
  exact hh
theorem GotS.below {w w':World}{base B:Nat}{v:Value}{ls:List (List Int)}(h:GotS w base v ls)(hb:Below B w w')(hB:w.heap.size≤B):GotS w' base v ls:=by
 obtain⟨vs,h1,h2⟩:=h
 refine⟨vs,ownsRow_belowS h1 hb hB,fun j hj=>?_⟩
 obtain⟨u,hu,hg⟩:=h2 j hj
 exact⟨u,hu,hg.below hb hB⟩
theorem GotS.mono {w:World}{base base':Nat}{v:Value}{ls:List (List Int)}(h:GotS w base v ls)(hb:base'≤base):GotS w base' v ls:=by
 obtain⟨vs,⟨h0,h1⟩,h2⟩:=h
 refine⟨vs,⟨h0,?_⟩,fun j hj=>?_⟩
 ·rcases h1 with h1|⟨g,cap,cur,hv,hg,r⟩
  ·exact .inl h1
  ·exact .inr ⟨g,cap,cur,hv,by omega,r⟩
 ·obtain⟨u,hu,hg⟩:=h2 j hj
  exact⟨u,hu,hg.mono hb⟩
theorem Got.holds {w:World}{base:Nat}{v:Value}{l:List Int}(h:Got w base 32 .u64 v l):Holds w v l:=by
 rcases h.2 with ⟨rfl,hn⟩|⟨g,cap,cur,hv,_⟩
 ·have:l=[]:=List.eq_nil_of_length_eq_zero hn
  subst this
  exact⟨none,0,rfl,Ri.nil _ _ _,fun _=>rfl,Nat.le_refl _,Nat.zero_le _⟩
 ·obtain⟨A,c,h1,h2,h3,h4⟩:=h.slice
  refine⟨A,c,h1,h4,fun hA=>?_,h2,h3⟩
  subst hA
  rw [h1] at hv
  injection hv with e
  cases e
theorem GotS.slice {w:World}{base:Nat}{v:Value}{ls:List (List Int)}(h:GotS w base v ls):∃A c,v=.slice A ls.length c∧ls.length≤c∧c≤maxLen∧Sg w A ls:=by
 obtain⟨vs,h1,h2⟩:=h
 have h0:=h1
 rcases h1.2 with ⟨rfl,hn⟩|⟨g,cap,cur,rfl,hg,hh,hc,hm,hs,ht⟩
 ·have:ls=[]:=List.eq_nil_of_length_eq_zero hn
  subst this
  exact⟨none,0,rfl,Nat.le_refl _,Nat.zero_le _,.inl rfl⟩
 ·refine⟨some ⟨g,0,none⟩,cap,rfl,hc,hm,.inr ⟨g,0,rfl,fun j hj=>?_⟩⟩
  obtain⟨u,hu,hgu⟩:=h2 j hj
  refine⟨u,?_,hgu.holds⟩
  rw [Nat.zero_add,World.ownsRow.cellAt h0 j (by omega)]
  exact hu
theorem slices_info:(Tryd.prog.info? 31).map (fun i=>(i.zero,i.size,i.bytes))=some (some (.slice none 0 0),1,24):=by kernel_rfl
theorem wpList_appS {ops:Array Oper}{rest:List Oper}{o:Oper}{a:Act}{Q:Exit→Act→World→Prop}{w:World}(hgd:o.guard=none)(s x:Operand)(t:TypeId)
  (ho:o.op=.call { callee:=.builtin .append,args:=#[s,x],argTypes:=#[t,t] }) (ht:Tryd.prog.underlying t=some (.slice 31))
  {base:Nat} {v u:Value} {ls:List (List Int)} {l:List Int} (hs:a.eval s=v) (hown:GotS w base v ls) (hu:Got w base 32 .u64 u l) {T:TypeId} (hx:a.eval x=.slice (some ⟨w.heap.size,0,none⟩) 1 1)
  (hn:ls.length+1≤1000000) (hbase:base≤w.heap.size)
  (h:∀v' w',GotS w' base v' (ls++[l])→Below base w w'→wpList Tryd.prog ops Q rest (a.put o.dst v') w'):wpList Tryd.prog ops Q (o::rest) a (w.alloc (.cells #[u] T)):=by
 obtain⟨i,hi,hz0,hz1,hz2⟩:=info_parts slices_info
 obtain⟨vs,h1,h2⟩:=hown
 have hu1:u.oneCell'=true:=by
  obtain⟨A,c,rfl,_⟩:=hu.slice
  rfl
 have hb0:Below w.heap.size w (w.alloc (.cells #[u] T)):=(Below.refl _ _).alloc (Nat.le_refl _) _
 refine wpList_append_own _ hgd s x t ho base _ i _ 1 24 ht hi hz0 hz1 hz2 rfl (by decide) v ls.length vs hs (h1.alloc _)
  ⟨w.heap.size,0,none⟩ 1 1 [u] hx rfl ?_ ?_ (by unfold maxLen;omega) (by omega) (by simp;omega) ?_
 ·intro j y hj
  cases j with
  | zero=>simp at hj;subst hj;simp [Addr.add]
  | succ j=>simp at hj
 ·intro y hy
  simp at hy
  subst hy
  exact hu1
 ·intro v' w' k1 k2 _
  have hlen:vs.length=ls.length:=by rw [h1.1,Nat.mul_one]
  have hkeep:∀{y:Value} {m:List Int},Got w base 32 .u64 y m→Got w' base 32 .u64 y m:=by
   intro y m hy
   have hy2:=hy.below hb0 (Nat.le_refl _)
   refine World.ownsRow.kept hy2 k2 ?_
   rcases hy.2 with ⟨rfl,_⟩|⟨g,cap,cur,rfl,hg,hh,_⟩
   ·exact .inl rfl
   ·right
    intro e
    rcases h1.2 with ⟨rfl,_⟩|⟨g',cap',cur',rfl,hg',hh',_⟩
    ·simp [Value.ownBlock] at e
    ·simp [Value.ownBlock] at e
     subst e
     rw [hh] at hh'
     injection hh' with e2
     injection e2 with _ e3
     exact absurd e3 (by decide)
  refine h v' w' ⟨vs++[u],by simpa using k1,fun j hj=>?_⟩ ?_
  ·by_cases hjl:j<ls.length
   ·obtain⟨y,hy,hg⟩:=h2 j hjl
    exact⟨y,by rw [List.getElem?_append_left (by omega)];exact hy,by rw [seg_append_left _ _ _ hjl];exact hkeep hg⟩
   ·have hje:j=ls.length:=by simp at hj;omega
    subst hje
    refine⟨u,by rw [←hlen];simp,?_⟩
    rw [seg_append_right _ _ _ (Nat.le_refl _),Nat.sub_self]
    exact hkeep hu
  ·exact((Below.refl base w).alloc hbase _).grown k2 (by simp;omega) (fun g hg=>(h1.lt g hg).1)
theorem wpList_appS0 {ops:Array Oper}{rest:List Oper}{o:Oper}{a:Act}{Q:Exit→Act→World→Prop}{w:World}(hgd:o.guard=none)(s x:Operand)(t:TypeId)
  (ho:o.op=.call { callee:=.builtin .append,args:=#[s,x],argTypes:=#[t,t] }) (ht:Tryd.prog.underlying t=some (.slice 31))
  {base g:Nat} {u:Value} {l:List Int} (hs:a.eval s=.slice (some ⟨g,0,none⟩) 0 0) (hu:Got w base 32 .u64 u l) {T:TypeId} (hx:a.eval x=.slice (some ⟨w.heap.size,0,none⟩) 1 1)
  (hbase:base≤w.heap.size)
  (h:∀v' w',GotS w' base v' [l]→Below w.heap.size w w'→wpList Tryd.prog ops Q rest (a.put o.dst v') w'):wpList Tryd.prog ops Q (o::rest) a (w.alloc (.cells #[u] T)):=by
 obtain⟨i,hi,hz0,hz1,hz2⟩:=info_parts slices_info
 have hu1:u.oneCell'=true:=by
  obtain⟨A,c,rfl,_⟩:=hu.slice
  rfl
 have hr:=run_append_grow (P:=Tryd.prog) (w.alloc (.cells #[u] T)) t o.type 31 i _ ht hi hz0 ⟨g,0,none⟩ 0 0 [] (by simp) (fun j v h=>by simp at h) ⟨w.heap.size,0,none⟩ 1 1 [u] (by rw [hz1];rfl) (by
  intro j y hj
  cases j with
  | zero=>simp at hj;subst hj;simp [Addr.add]
  | succ j=>simp at hj) (by omega) (by decide) (growslice_fits (by omega) (by rw [hz2];decide))
 refine Lib.wpList_append_run _ hgd s x t t ho _ _ hs hx _ _ hr (h _ _ ?_ ?_)
 ·have hge:=grownCap_ge (w.alloc (.cells #[u] T)) (0+1) 0 31
  have hcm:=grownCap_le_maxLen (w.alloc (.cells #[u] T)) (0+1) 0 31 (by decide)
  refine⟨[u],⟨rfl,.inr ⟨(w.alloc (.cells #[u] T)).heap.size,_,_,rfl,by simp;omega,heap_alloc_new (w.alloc (.cells #[u] T)).drew _,hge,hcm,?_,?_⟩⟩,fun j hj=>?_⟩
  ·simp only [Array.size_append,List.size_toArray,size_zeroCells,List.length_nil,List.length_singleton]
   have:(Value.slice none 0 0).cells.size=1:=rfl
   rw [this]
   omega
  ·simp
  ·obtain rfl:j=0:=by simp at hj;omega
   have hb:Below w.heap.size w (((w.alloc (.cells #[u] T)).drew).alloc (.cells ([].toArray++[u].toArray++Builtin.zeroCells (Value.slice none 0 0).cells (grownCap (w.alloc (.cells #[u] T)) (0+1) 0 31-(0+1))) 31)):=
    (bel_drewN ((Below.refl w.heap.size w).alloc (Nat.le_refl _) (.cells #[u] T)) 1).alloc (by simp) _
   exact⟨u,rfl,hu.below hb (Nat.le_refl _)⟩
 ·exact(bel_drewN ((Below.refl w.heap.size w).alloc (Nat.le_refl _) (.cells #[u] T)) 1).alloc (by simp) _
end Go.Proofs.YtfaflahfjgnphaaDoor
