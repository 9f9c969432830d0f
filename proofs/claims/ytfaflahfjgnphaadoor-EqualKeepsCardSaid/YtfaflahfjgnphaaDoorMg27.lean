/- The texts TrimU (what is wanted of them), one after the other. -/
import Derived.Test.YtfaflahfjgnphaaDoorMg20
namespace Go.Proofs.YtfaflahfjgnphaaDoor
open Go.ChangeShapes Go.WideShapes Go.ChangeAt Go.RowKit
set_option linter.unusedVariables false
set_option linter.unusedSimpArgs false
set_option maxRecDepth 100000
def gone (w:World)(b:Nat):World:={ w with heap:=w.heap.setIfInBounds b (.cells #[] 0) }
theorem gone_heap (w:World)(b k:Nat)(h:k≠b):(gone w b).heap[k]?=w.heap[k]?:=by
 unfold gone
 rw [Array.getElem?_setIfInBounds_ne (by omega)]
theorem gone_cell (w:World)(b o:Nat):(gone w b).cell? ⟨b,o,none⟩=none:=by
 unfold gone World.cell?
 by_cases h:b<w.heap.size
 ·simp [h]
 ·simp [Array.getElem?_eq_none (Nat.le_of_not_lt h),h]
theorem NdO.data {lo hi:Nat}{w:World}{A:Option Addr}{c:Nat}{B:Option Addr}{c2:Nat}{x:Nd}(h:NdO lo hi w A c B c2 x)(h0:0<x.d.length):∃b off,A=some ⟨b,off,none⟩∧lo≤b∧b<hi:=by
 obtain⟨k,e,n,d,ks⟩:=x
 obtain⟨b,off,hA,hc⟩:=h.nd.open.2.2.2.1.at (i:=0) h0
 refine⟨b,off,hA,Classical.byContradiction fun hn=>?_⟩
 have h1:=h (gone w b) (fun k hk1 hk2=>gone_heap w b k (fun e=>hn (e ▸ ⟨hk1,hk2⟩)))
 obtain⟨b',off',hA',hc'⟩:=h1.open.2.2.2.1.at (i:=0) h0
 rw [hA] at hA'
 injection hA' with e
 injection e with e1 e2
 subst e1
 have:=hc' 0 h0
 rw [gone_cell] at this
 cases this
theorem NdO.row {lo hi:Nat}{w:World}{A:Option Addr}{c:Nat}{B:Option Addr}{c2:Nat}{x:Nd}(h:NdO lo hi w A c B c2 x){j:Nat}(hj:j<x.ks.length):∃b off,B=some ⟨b,off,none⟩∧lo≤b∧b<hi:=by
 obtain⟨b,off,A',c',B',c2',hB,h0,-⟩:=h.nd.kidsX.1.at hj
 refine⟨b,off,hB,Classical.byContradiction fun hn=>?_⟩
 have h1:=h (gone w b) (fun k hk1 hk2=>gone_heap w b k (fun e=>hn (e ▸ ⟨hk1,hk2⟩)))
 obtain⟨b',off',_,_,_,_,hB',h0',-⟩:=h1.kidsX.1.at hj
 rw [hB] at hB'
 injection hB' with e
 injection e with e1 e2
 subst e1
 rw [gone_cell] at h0'
 cases h0'
def Byt (w:World)(base top:Nat)(A:Option Addr)(n:Nat):Prop:=n=0∨∃b off,A=some ⟨b,off,none⟩∧base≤b∧b<top∧(∀o,w.frozen? ⟨b,o,none⟩=false)∧∀j,j<n→∃z:Int,0≤z∧z<256∧w.cell? ⟨b,off+j,none⟩=some (.int .u8 z)
def Rws (w:World)(base top b off:Nat)(FA:Nat→Option Addr)(FL FC:Nat→Nat)(i kl:Nat):Prop:=base≤b∧b<top∧(∀o,w.frozen? ⟨b,o,none⟩=false)∧∀j,i≤j→j<kl→(∃k e n:Int,∃B l c,w.cell? ⟨b,off+j*5,none⟩=some (.int .i64 k)∧w.cell? ⟨b,off+j*5+1,none⟩=some (.int .i64 e)∧w.cell? ⟨b,off+j*5+2,none⟩=some (.int .i64 n) ∧
 w.cell? ⟨b,off+j*5+3,none⟩=some (.slice (FA j) (FL j) (FC j))∧w.cell? ⟨b,off+j*5+4,none⟩=some (.slice B l c))∧FL j≤FC j∧FC j≤9223372036854775807∧Byt w base top (FA j) (FL j)
theorem cell_same {w:World}{p:Addr}{u v:Value}(h:w.cell? p=some u):(w.setCell p v).cell? p=some v:=World.cell?_setCell_same' _ _ _ (by rw [h];rfl)
theorem cell_diff {w:World}{p q:Addr}{v:Value}(h:p≠q):(w.setCell p v).cell? q=w.cell? q:=World.cell?_setCell_other w p q v h
theorem Byt.put {w:World}{base top n:Nat}{A:Option Addr}(h:Byt w base top A n){p:Addr}{z z':Int}(hp:w.cell? p=some (.int .u8 z))(h0:0≤z')(h1:z'<256):Byt (w.setCell p (.int .u8 z')) base top A n:=by
 rcases h with h|⟨b,off,hA,hb,ht,hf,hc⟩
 ·exact .inl h
 ·refine .inr ⟨b,off,hA,hb,ht,fun o=>by rw [World.frozen?_setCell];exact hf o,fun j hj=>?_⟩
  by_cases e:p=⟨b,off+j,none⟩
  ·subst e
   exact⟨z',h0,h1,cell_same hp⟩
  ·obtain⟨y,h2,h3,h4⟩:=hc j hj
   exact⟨y,h2,h3,by rw [cell_diff e];exact h4⟩
theorem Byt.far {w:World}{base top n:Nat}{A:Option Addr}(h:Byt w base top A n){p:Addr}{u v:Value}(hp:w.cell? p=some u)(hu:∀z,u≠.int .u8 z):Byt (w.setCell p v) base top A n:=by
 rcases h with h|⟨b,off,hA,hb,ht,hf,hc⟩
 ·exact .inl h
 ·refine .inr ⟨b,off,hA,hb,ht,fun o=>by rw [World.frozen?_setCell];exact hf o,fun j hj=>?_⟩
  obtain⟨y,h2,h3,h4⟩:=hc j hj
  have e:p≠⟨b,off+j,none⟩:=by
   intro e
   subst e
   rw [h4] at hp
   injection hp with hp
   exact hu _ hp.symm
  exact⟨y,h2,h3,by rw [cell_diff e];exact h4⟩
theorem Rws.put {w:World}{base top b off i kl:Nat}{FA:Nat→Option Addr}{FL FC:Nat→Nat}(h:Rws w base top b off FA FL FC i kl){p:Addr}{z z':Int}(hp:w.cell? p=some (.int .u8 z))(h0:0≤z')(h1:z'<256):Rws (w.setCell p (.int .u8 z')) base top b off FA FL FC i kl:=by
 obtain⟨g1,g2,g3,g4⟩:=h
 refine⟨g1,g2,fun o=>by rw [World.frozen?_setCell];exact g3 o,fun j hi hj=>?_⟩
 obtain⟨⟨k,e,n,B,l,c,k0,k1,k2,k3,k4⟩,l1,l2,hb⟩:=g4 j hi hj
 have hd:∀q u,w.cell? q=some u→(∀z,u≠.int .u8 z)→(w.setCell p (.int .u8 z')).cell? q=some u:=by
  intro q u hq hu
  rw [cell_diff (fun e=>by subst e;rw [hp] at hq;injection hq with hq;exact hu _ hq.symm),hq]
 exact⟨⟨k,e,n,B,l,c,hd _ _ k0 (fun z h=>by cases h),hd _ _ k1 (fun z h=>by cases h),hd _ _ k2 (fun z h=>by cases h),hd _ _ k3 (fun z h=>by cases h),hd _ _ k4 (fun z h=>by cases h)⟩,l1,l2,hb.put hp h0 h1⟩
theorem Rws.cell {w:World}{base top b off i kl o:Nat}{FA:Nat→Option Addr}{FL FC:Nat→Nat}(h:Rws w base top b off FA FL FC (i+1) kl)(ho:o<5){u v:Value}(hp:w.cell? ⟨b,off+i*5+o,none⟩=some u)(hu:∀z,u≠.int .u8 z):Rws (w.setCell ⟨b,off+i*5+o,none⟩ v) base top b off FA FL FC (i+1) kl:=by
 obtain⟨g1,g2,g3,g4⟩:=h
 refine⟨g1,g2,fun o=>by rw [World.frozen?_setCell];exact g3 o,fun j hi hj=>?_⟩
 obtain⟨⟨k,e,n,B,l,c,k0,k1,k2,k3,k4⟩,l1,l2,hb⟩:=g4 j hi hj
 have hd:∀q,off+i*5+o<q→(w.setCell ⟨b,off+i*5+o,none⟩ v).cell? ⟨b,q,none⟩=w.cell? ⟨b,q,none⟩:=by
  intro q hq
  exact cell_diff (fun e=>by injection e with e1 e2;omega)
 exact⟨⟨k,e,n,B,l,c,by rw [hd _ (by omega)];exact k0,by rw [hd _ (by omega)];exact k1,by rw [hd _ (by omega)];exact k2,by rw [hd _ (by omega)];exact k3,by rw [hd _ (by omega)];exact k4⟩,l1,l2,hb.far hp hu⟩
theorem Rws.next {w:World}{base top b off i kl:Nat}{FA:Nat→Option Addr}{FL FC:Nat→Nat}(h:Rws w base top b off FA FL FC i kl)(hi:i<kl)(v0 v1 v2:Int)(A3:Option Addr)(l3 c3:Nat)(v4:Value):
  Rws (((((w.setCell ⟨b,off+i*5,none⟩ (.int .i64 v0)).setCell ⟨b,off+i*5+1,none⟩ (.int .i64 v1)).setCell ⟨b,off+i*5+2,none⟩ (.int .i64 v2)).setCell ⟨b,off+i*5+3,none⟩ (.slice A3 l3 c3)).setCell ⟨b,off+i*5+4,none⟩ v4) base top b off FA FL FC (i+1) kl:=by
 obtain⟨⟨k,e,n,B,l,c,k0,k1,k2,k3,k4⟩,-,-,-⟩:=h.2.2.2 i (Nat.le_refl _) hi
 have h1:Rws w base top b off FA FL FC (i+1) kl:=⟨h.1,h.2.1,h.2.2.1,fun j hj=>h.2.2.2 j (by omega)⟩
 have d:∀(w:World) (p q:Nat) v,p≠q→(w.setCell ⟨b,p,none⟩ v).cell? ⟨b,q,none⟩=w.cell? ⟨b,q,none⟩:=fun w p q v hpq=>cell_diff (fun e=>by injection e with e1 e2;exact hpq e2)
 refine(((((h1.cell (o:=0) (by omega) k0 (fun z h=>by cases h)).cell (o:=1) (u:=.int .i64 e) (by omega) ?_ (fun z h=>by cases h)).cell (o:=2) (u:=.int .i64 n) (by omega) ?_ (fun z h=>by cases h)).cell (o:=3) (u:=.slice (FA i) (FL i) (FC i)) (by omega) ?_ (fun z h=>by cases h)).cell (o:=4) (u:=.slice B l c) (by omega) ?_ (fun z h=>by cases h))
 ·rw [d _ _ _ _ (by omega)];exact k1
 ·rw [d _ _ _ _ (by omega),d _ _ _ _ (by omega)];exact k2
 ·rw [d _ _ _ _ (by omega),d _ _ _ _ (by omega),d _ _ _ _ (by omega)];exact k3
 ·rw [d _ _ _ _ (by omega),d _ _ _ _ (by omega),d _ _ _ _ (by omega),d _ _ _ _ (by omega)];exact k4
theorem Byt.below {w w':World}{base top n N:Nat}{A:Option Addr}(h:Byt w base top A n)(hb:Below N w w')(hN:top≤N):Byt w' base top A n:=by
 rcases h with h|⟨b,off,hA,h1,h2,hf,hc⟩
 ·exact .inl h
 ·refine .inr ⟨b,off,hA,h1,h2,fun o=>?_,fun j hj=>?_⟩
  ·rw [hb.frozen (p:=⟨b,o,none⟩) (by show b<N;omega)];exact hf o
  ·obtain⟨z,z0,z1,hz⟩:=hc j hj
   exact⟨z,z0,z1,by rw [hb.cell (p:=⟨b,off+j,none⟩) (by show b<N;omega)];exact hz⟩
theorem Rws.below {w w':World}{base top b off i kl N:Nat}{FA:Nat→Option Addr}{FL FC:Nat→Nat}(h:Rws w base top b off FA FL FC i kl)(hb:Below N w w')(hN:top≤N):Rws w' base top b off FA FL FC i kl:=by
 obtain⟨g1,g2,g3,g4⟩:=h
 refine⟨g1,g2,fun o=>by rw [hb.frozen (p:=⟨b,o,none⟩) (by show b<N;omega)];exact g3 o,fun j hi hj=>?_⟩
 obtain⟨⟨k,e,n,B,l,c,k0,k1,k2,k3,k4⟩,l1,l2,hbt⟩:=g4 j hi hj
 have hc:=fun o=>hb.cell (p:=⟨b,o,none⟩) (by show b<N;omega)
 exact⟨⟨k,e,n,B,l,c,(hc _).trans k0,(hc _).trans k1,(hc _).trans k2,(hc _).trans k3,(hc _).trans k4⟩,l1,l2,hbt.below hb hN⟩
end Go.Proofs.YtfaflahfjgnphaaDoor
