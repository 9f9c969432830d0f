/- The texts NodeU, DenI (what is wanted of them), one after the other. -/
import Derived.Test.YtclpapddejgpnaaDoorMg17
import Derived.Test.YtclpapddejgpnaaDoorMg20
import Derived.Test.YtclpapddejgpnaaDoorMg29
import Derived.Laws.CopyOwn
import Derived.Laws.EntriesVeiled
import Derived.Recover
namespace Go.Proofs.YtclpapddejgpnaaDoor
open Go.ChangeShapes Go.WideShapes Go.ChangeAt Go.RowKit
set_option linter.unusedVariables false
set_option linter.unusedSimpArgs false
set_option maxRecDepth 100000
def NodAv (base:Nat)(x:Nd):FactU:=fun av v w=>∃A c B c2 lo hi,v=.agg #[.int .i64 x.k,.int .i64 x.e,.int .i64 x.n,.slice A x.d.length c,.slice B x.ks.length c2]∧base≤lo∧hi≤w.heap.size∧NdO lo hi w A c B c2 x∧∀b∈av,b<lo∨hi≤b
theorem stable_nodAv (base:Nat)(x:Nd):stableU (NodAv base x):=by
 rintro av av' v w w' ⟨A,c,B,c2,lo,hi,e,h0,h1,h2,h3⟩ hb hx _
 refine⟨A,c,B,c2,lo,hi,e,h0,Nat.le_trans h1 hb.size,h2.below hb h1,fun b hm=>?_⟩
 rcases hx.new b hm with h|h
 ·exact h3 b h
 ·exact .inr (Nat.le_trans h1 h)
theorem NodAv.of {base:Nat}{x:Nd}{av:List Nat}{v:Value}{w w':World}(h:NodF w.heap.size x v w')(hav:∀b∈av,b<w.heap.size)(hb:base≤w.heap.size):NodAv base x av v w':=by
 obtain⟨A,c,B,c2,hi,e,h1,h2⟩:=h
 exact⟨A,c,B,c2,w.heap.size,hi,e,hb,h1,h2,fun b hm=>.inl (hav b hm)⟩
theorem NodAv.zero (base:Nat)(av:List Nat)(w:World):NodAv base nd0 av (.agg #[.int .i64 0,.int .i64 0,.int .i64 0,.slice none 0 0,.slice none 0 0]) w:=
 ⟨none,0,none,0,base,0,rfl,Nat.le_refl _,Nat.zero_le _,fun W _=>nd0_here W 0 (by decide),fun b _=>.inr (Nat.zero_le _)⟩
def Tup2Av (base:Nat)(x:Nd)(r:Value):FactU:=fun av v w=>∃u,v=.tuple #[u,r]∧NodAv base x av u w
def Tup3Av (base:Nat)(x:Nd)(r r':Value):FactU:=fun av v w=>∃u,v=.tuple #[u,r,r']∧NodAv base x av u w
def Tup2W (r:Value):Fact:=fun v _=>∃u,v=.tuple #[u,r]
def Tup3W (r r':Value):Fact:=fun v _=>∃u,v=.tuple #[u,r,r']
theorem stable_tup3Av (base:Nat)(x:Nd)(r r':Value):stableU (Tup3Av base x r r'):=fun av av' v w w' ⟨u,h1,h2⟩ hb hx ha=>⟨u,h1,stable_nodAv base x av av' u w w' h2 hb hx ha⟩
theorem free_tup3W (r r':Value):free (Tup3W r r'):=fun _ _ _ h=>h
theorem Tup2Av.w {base:Nat}{x:Nd}{r:Value}{av:List Nat}{v:Value}{w:World}(h:Tup2Av base x r av v w):Tup2W r v w:=⟨h.choose,h.choose_spec.1⟩
theorem Tup3Av.w {base:Nat}{x:Nd}{r r':Value}{av:List Nat}{v:Value}{w:World}(h:Tup3Av base x r r' av v w):Tup3W r r' v w:=⟨h.choose,h.choose_spec.1⟩
def VarAv (base:Nat)(cs:Array Value):FactU:=fun av v w=>∃b,b∈av∧v=.pointer (some ⟨b,0,none⟩)∧base≤b∧Blk w b cs
theorem stable_varAv (base:Nat)(cs:Array Value):stableU (VarAv base cs):=by
 rintro av av' v w w' ⟨b,h0,h1,h2,h3⟩ hb hx _
 exact⟨b,hx.old b h0,h1,h2,h3.below hb⟩
theorem NdO.apart {lo hi:Nat}{w w':World}{A:Option Addr}{c:Nat}{B:Option Addr}{c2:Nat}{x:Nd}(h:NdO lo hi w A c B c2 x)(S:Nat→Prop)(hS:∀b,S b→b<lo∨hi≤b)(hw:∀k,¬S k→w'.heap[k]?=w.heap[k]?):NdO lo hi w' A c B c2 x:=
 h.to fun k h1 h2=>hw k fun hk=>by rcases hS k hk with h|h<;>omega
section
attribute [local simp] AllK KnowsV look Is
def TrvF (lo:Nat)(cs:Array Value)(W1:World):Fact:=fun v w=>∃b w0,v=.pointer (some ⟨b,0,none⟩)∧w0.heap.size=b∧Below W1.heap.size W1 w0∧Below b w0 w∧Blk w b cs
theorem TrvF.new {lo:Nat}{cs:Array Value}{W1 wc:World}{T:TypeId}(hb:Below W1.drew.heap.size W1.drew wc):TrvF lo cs W1 (.pointer (some ⟨wc.heap.size,0,none⟩)) (wc.alloc (.cells cs T)):=
 ⟨wc.heap.size,wc,rfl,rfl,bel_undrew hb,(Below.refl _ _).alloc (Nat.le_refl _) _,Blk.fresh _ _ _⟩
end
end Go.Proofs.YtclpapddejgpnaaDoor
