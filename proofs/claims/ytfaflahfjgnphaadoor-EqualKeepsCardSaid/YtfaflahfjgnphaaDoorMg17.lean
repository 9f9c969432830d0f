/- The texts MsgMix, MsgSet (what is wanted of them), one after the other. -/
import Derived.Test.YtfaflahfjgnphaaDoorMg16
namespace Go.Proofs.YtfaflahfjgnphaaDoor
open Go.RowKit
set_option linter.unusedVariables false
set_option linter.unusedSimpArgs false
set_option maxRecDepth 100000
def SegOK (w:World)(base:Nat)(u:Value)(l:List Int):Prop:=
 Got w base 32 .u64 u l∨(Holds w u l∧(l=[]∨∀b,u.ownBlock=some b→b<base))
theorem SegOK.holds {w:World}{base:Nat}{u:Value}{l:List Int}(h:SegOK w base u l):Holds w u l:=by
 rcases h with h|h
 ·exact h.holds
 ·exact h.1
theorem Holds.slice {w:World}{u:Value}{l:List Int}(h:Holds w u l):u.oneCell'=true:=by
 obtain⟨A,c,rfl,_⟩:=h
 rfl
theorem Holds.low {w w':World}{base:Nat}{u:Value}{l:List Int}(h:Holds w u l)(hlow:l=[]∨∀b,u.ownBlock=some b→b<base)(hb:Below base w w'):Holds w' u l:=by
 obtain⟨A,c,rfl,hr,h3⟩:=h
 refine⟨A,c,rfl,?_,h3⟩
 rcases hr with h0|⟨b,off,rfl,hc⟩
 ·exact .inl h0
 ·rcases hlow with h0|hlow
  ·exact .inl h0
  ·refine .inr ⟨b,off,rfl,fun j hj=>?_⟩
   exact(hb.cell (p:=⟨b,off+j,none⟩) (hlow b rfl)).trans (hc j hj)
theorem SegOK.below {w w':World}{base B:Nat}{u:Value}{l:List Int}(h:SegOK w base u l)(hb:Below B w w')(hB:w.heap.size≤B):SegOK w' base u l:=by
 rcases h with h|h
 ·exact .inl (h.below hb hB)
 ·exact .inr ⟨h.1.below hb hB,h.2⟩
theorem SegOK.came {W w:World}{base:Nat}{u:Value}{l:List Int}(h:Holds W u l)(hW:W.heap.size≤base)(hb:Below base W w):SegOK w base u l:=by
 have hlow:l=[]∨∀b,u.ownBlock=some b→b<base:=by
  by_cases h0:l=[]
  ·exact .inl h0
  ·right
   intro b hbk
   obtain⟨A,c,rfl,hr,_⟩:=h
   rcases hr with h1|⟨b',off,rfl,hc⟩
   ·exact absurd h1 h0
   ·simp [Value.ownBlock] at hbk
    subst hbk
    have hl:0<l.length:=by
     cases l with
     | nil=>exact absurd rfl h0
     | cons x r=>simp
    have hlt:b'<W.heap.size:=World.block_lt_of_cell? W ⟨b',off+0,none⟩ (hc 0 hl)
    omega
 exact .inr ⟨h.low hlow hb,hlow⟩
def OwnS (w:World)(base:Nat)(v:Value)(ls:List (List Int)):Prop:=
 ∃vs:List Value,w.ownsRow base 31 1 v ls.length vs∧∀j,j<ls.length→∃u,vs[j]?=some u∧SegOK w base u (seg ls j)
theorem OwnS.empty (w:World)(base:Nat):OwnS w base (.slice none 0 0) []:=⟨[],World.ownsRow_nil w base _ 1,fun j hj=>by simp at hj⟩
theorem OwnS.below {w w':World}{base B:Nat}{v:Value}{ls:List (List Int)}(h:OwnS w base v ls)(hb:Below B w w')(hB:w.heap.size≤B):OwnS w' base v ls:=by
 obtain⟨vs,h1,h2⟩:=h
 refine⟨vs,ownsRow_belowS h1 hb hB,fun j hj=>?_⟩
 obtain⟨u,hu,hg⟩:=h2 j hj
 exact⟨u,hu,hg.below hb hB⟩
theorem OwnS.slice {w:World}{base:Nat}{v:Value}{ls:List (List Int)}(h:OwnS w base v ls):∃A c,v=.slice A ls.length c∧ls.length≤c∧c≤maxLen∧Sg w A ls:=by
 obtain⟨vs,h1,h2⟩:=h
 have h0:=h1
 rcases h1.2 with ⟨rfl,hn⟩|⟨g,cap,cur,rfl,hg,hh,hc,hm,hs,ht⟩
 ·have:ls=[]:=List.eq_nil_of_length_eq_zero hn
  subst this
  exact⟨none,0,rfl,Nat.le_refl _,Nat.zero_le _,.inl rfl⟩
 ·refine⟨some ⟨g,0,none⟩,cap,rfl,hc,hm,.inr ⟨g,0,rfl,fun j hj=>?_⟩⟩
  obtain⟨u,hu,hgu⟩:=h2 j hj
  refine⟨u,?_,hgu.holds⟩
  rw [Nat.zero_add,World.ownsRow.cellAt h0 j (by omega)]
  exact hu
theorem OwnS.lt {w:World}{base:Nat}{v:Value}{ls:List (List Int)}(h:OwnS w base v ls):∀k,v.ownBlock=some k→base≤k∧k<w.heap.size:=by
 obtain⟨vs,h1,_⟩:=h
 exact h1.lt
theorem SegOK.grown {w w':World}{base n:Nat}{v u:Value}{vs:List Value}{l:List Int}(h:SegOK w base u l)(hv:w.ownsRow base 31 1 v n vs)(hg:w.grownBy w' v.ownBlock)(hb:Below base w w'):SegOK w' base u l:=by
 rcases h with h|h
 ·left
  refine World.ownsRow.kept h hg ?_
  rcases h.2 with ⟨rfl,_⟩|⟨g,cap,cur,rfl,hgb,hh,_⟩
  ·exact .inl rfl
  ·right
   intro e
   rcases hv.2 with ⟨rfl,_⟩|⟨g',cap',cur',rfl,hg',hh',_⟩
   ·simp [Value.ownBlock] at e
   ·simp [Value.ownBlock] at e
    subst e
    rw [hh] at hh'
    injection hh' with e2
    injection e2 with _ e3
    exact absurd e3 (by decide)
 ·exact .inr ⟨h.1.low h.2 hb,h.2⟩
theorem Got.lit (w:World){base:Nat}(zs:List Int)(hb:base≤w.heap.size)(n:Nat)(hn:n=zs.length)(hm:n≤maxLen):Got (w.alloc (.cells (zs.map (Value.int .u64)).toArray 32)) base 32 .u64 (.slice (some ⟨w.heap.size,0,none⟩) n n) zs:=by
 subst hn
 exact⟨by simp,.inr ⟨w.heap.size,zs.length,(zs.map (Value.int .u64)).toArray,rfl,hb,by unfold World.alloc;simp,Nat.le_refl _,hm,by simp,by simp [List.take_of_length_le]⟩⟩
theorem OwnS.made (w:World){base:Nat}(hb:base≤w.heap.size):OwnS (w.alloc (.cells #[] 31)) base (.slice (some ⟨w.heap.size,0,none⟩) 0 0) []:=
 ⟨[],World.ownsRow_made w #[] 0 hb (Nat.zero_le _) rfl,fun j hj=>by simp at hj⟩
theorem SegOK.stored {w:World}{base g c n:Nat}{u y:Value}{vs:List Value}{l:List Int}(h:SegOK w base u l)(hv:w.ownsRow base 31 1 (.slice (some ⟨g,0,none⟩) n c) n vs)(j:Nat):SegOK (w.setCell ⟨g,j,none⟩ y) base u l:=by
 have hg:=(hv.lt g rfl).1
 exact h.grown hv (World.ownsRow.stored hv j y).2 ((Below.refl _ _).setCell hg y)
theorem OwnS.set {w:World}{base g c:Nat}{ls:List (List Int)}(h:OwnS w base (.slice (some ⟨g,0,none⟩) ls.length c) ls){j:Nat}(hj:j<ls.length){u:Value}{l:List Int}(hu:SegOK w base u l):
  OwnS (w.setCell ⟨g,j,none⟩ u) base (.slice (some ⟨g,0,none⟩) ls.length c) (ls.set j l):=by
 obtain⟨vs,h1,h2⟩:=h
 have h3:=(World.ownsRow.stored h1 j u).1
 have hvl:=h1.1
 refine⟨vs.set j u,by rw [List.length_set];exact h3,fun i hi=>?_⟩
 rw [List.length_set] at hi
 by_cases e:j=i
 ·subst e
  obtain⟨u0,hu0,_⟩:=h2 j hj
  have hlt:j<vs.length:=(List.getElem?_eq_some_iff.1 hu0).1
  refine⟨u,List.getElem?_set_self hlt,?_⟩
  have e2:seg (ls.set j l) j=l:=by unfold seg;rw [List.getD_eq_getElem?_getD,List.getElem?_set_self hj];rfl
  rw [e2]
  exact hu.stored h1 j
 ·obtain⟨u0,hu0,hs0⟩:=h2 i hi
  refine⟨u0,by rw [List.getElem?_set_ne e];exact hu0,?_⟩
  have e2:seg (ls.set j l) i=seg ls i:=by unfold seg;rw [List.getD_eq_getElem?_getD,List.getElem?_set_ne e,List.getD_eq_getElem?_getD]
  rw [e2]
  exact hs0.stored h1 j
theorem OwnS.row {w:World}{base:Nat}{v:Value}{ls:List (List Int)}(h:OwnS w base v ls)(h0:0<ls.length):∃g c,v=.slice (some ⟨g,0,none⟩) ls.length c∧base≤g∧g<w.heap.size∧ls.length≤c∧(∀j,w.frozen? ⟨g,j,none⟩=false)∧∀j,j<ls.length→∃u,w.cell? ⟨g,j,none⟩=some u:=by
 obtain⟨vs,h1,h2⟩:=h
 have h3:=h1
 rcases h1.2 with ⟨rfl,hn⟩|⟨g,cap,cur,rfl,hg,hh,hc,hm,hs,ht⟩
 ·omega
 ·have hlt:=(h3.lt g rfl)
  refine⟨g,cap,rfl,hlt.1,hlt.2,hc,fun j=>h3.frozenAt j,fun j hj=>?_⟩
  obtain⟨u,hu,_⟩:=h2 j hj
  refine⟨u,?_⟩
  rw [World.ownsRow.cellAt h3 j (by omega)]
  exact hu
end Go.Proofs.YtfaflahfjgnphaaDoor
