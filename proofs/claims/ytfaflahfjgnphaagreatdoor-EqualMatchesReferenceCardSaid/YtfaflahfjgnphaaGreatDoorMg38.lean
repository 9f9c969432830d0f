/- The texts DenJ (what is wanted of them), one after the other. -/
import Derived.Test.YtfaflahfjgnphaaGreatDoorMg30
namespace Go.Proofs.YtfaflahfjgnphaaGreatDoor
open Go.ChangeShapes Go.WideShapes Go.ChangeAt Go.RowKit
set_option linter.unusedVariables false
set_option linter.unusedSimpArgs false
set_option maxRecDepth 100000
theorem NodV.alloc {lo:Nat}{x:Nd}{v:Value}{w:World}(h:NodV lo x v w)(o:Obj):NodV lo x v (w.alloc o):=by
 have hb:Below w.heap.size w (w.alloc o):=(Below.refl _ _).alloc (Nat.le_refl _) o
 obtain⟨A,c,B,c2,hi,h1,h2,h3,h4,h5,h6⟩:=h
 refine⟨A,c,B,c2,hi,h1,Nat.le_trans h2 hb.size,h3.below hb h2,h4.below hb (Nat.le_refl _),h5.below hb (Nat.le_refl _),fun b off j A' l' c' e1 e2 e3=>?_⟩
 rw [hb.cell (p:=⟨b,off+j*5+3,none⟩) (h5 b off e1).1] at e3
 exact(h6 b off j A' l' c' e1 e2 e3).below hb (Nat.le_refl _)
theorem NodV.set {lo:Nat}{x:Nd}{v:Value}{w:World}(h:NodV lo x v w){p:Addr}(hp:p.block<lo)(u:Value):NodV lo x v (w.setCell p u):=by
 obtain⟨A,c,B,c2,hi,h1,h2,h3,h4,h5,h6⟩:=h
 refine⟨A,c,B,c2,hi,h1,by simpa using h2,h3.to fun k k1 k2=>Below.heap_setCell _ _ _ _ (by omega),h4.set _ _,h5.set _ _,fun b off j A' l' c' e1 e2 e3=>?_⟩
 obtain⟨b',off',e4,k1,-⟩:=h3.row e2
 rw [e1] at e4
 injection e4 with e4
 injection e4 with e5 e6
 subst e5
 rw [cell_diff (fun e=>by rw [e] at hp;exact absurd k1 (Nat.not_le.2 hp))] at e3
 exact(h6 b off j A' l' c' e1 e2 e3).set _ _
def MsgP (nb lo:Nat)(x:Nd)(er:Int)(W:World):Prop:=
 (er=0→∃A c B c2,Blk W nb #[.int .i64 x.k,.int .i64 x.e,.int .i64 x.n,.slice A x.d.length c,.slice B x.ks.length c2]∧NodV lo x (.agg #[.int .i64 x.k,.int .i64 x.e,.int .i64 x.n,.slice A x.d.length c,.slice B x.ks.length c2]) W) ∧
 (er≠0→Blk W nb #[.int .i64 0,.int .i64 0,.int .i64 0,.slice none 0 0,.slice none 0 0])
theorem MsgP.alloc {nb lo:Nat}{x:Nd}{er:Int}{W:World}(h:MsgP nb lo x er W)(o:Obj):MsgP nb lo x er (W.alloc o):=
 ⟨fun e=>by obtain⟨A,c,B,c2,h1,h2⟩:=h.1 e;exact⟨A,c,B,c2,h1.alloc o,h2.alloc o⟩,fun e=>(h.2 e).alloc o⟩
theorem MsgP.set {nb lo:Nat}{x:Nd}{er:Int}{W:World}(h:MsgP nb lo x er W){p:Addr}(hp:p.block<lo)(hn:p.block≠nb)(u:Value):MsgP nb lo x er (W.setCell p u):=
 ⟨fun e=>by obtain⟨A,c,B,c2,h1,h2⟩:=h.1 e;exact⟨A,c,B,c2,h1.other hn u,h2.set hp u⟩,fun e=>(h.2 e).other hn u⟩
theorem bel_of_keeps {b N:Nat}{w w':World}(h:Keeps (KB b) w w')(hN:N≤w.heap.size)(hb:N≤b):Below N w w':=h.below hN (fun k hk=>by unfold KB at hk;omega)
end Go.Proofs.YtfaflahfjgnphaaGreatDoor
