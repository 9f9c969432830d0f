/- The texts Tab, TabL, List, WriA (what is wanted of them), one after the other. -/
import Derived.Test.YtclpapddejgpnaaDoorMg25
import Derived.WalkSpells
import Derived.Test.YtclpapddejgpnaaDoorCards
import Derived.Test.YtclpapddejgpnaaDoorTie
import Derived.Deep.DeepHandedRow
import Derived.Lib.LaidTab
import Derived.Lib.SliceRun
import Derived.Lib.AppendZerosOnto
import Derived.Deep.DeepAppendRoom
namespace Go.Proofs.YtclpapddejgpnaaDoor
open Go.RowKit Go.ChangeShapes Go.WideShapes Go.ChangeAt
set_option linter.unusedVariables false
set_option linter.unusedSimpArgs false
set_option maxRecDepth 100000
def elemZ:List Int:=[0,1,8,16,32,64,64,0]
def TabOK (w:World):Prop:=∀i,i<8→w.cell? ⟨0,i,none⟩=some (.int .i64 (elemZ.getD i 0))
theorem TabOK.below {w w':World}(h:TabOK w){B:Nat}(hb:Below B w w')(hB:w.heap.size≤B):TabOK w':=fun i hi=>cell_later (hb.mono hB) (h i hi)
theorem TabOK.on {w w':World}(h:TabOK w)(hb:Below w.heap.size w w'):TabOK w':=h.below hb (Nat.le_refl _)
theorem TabOK.alloc {w:World}(h:TabOK w)(o:Obj):TabOK (w.alloc o):=h.on ((Below.refl _ _).alloc (Nat.le_refl _) o)
theorem TabOK.drew {w:World}(h:TabOK w):TabOK w.drew:=h
theorem TabOK.drewN {w:World}(h:TabOK w)(n:Nat):TabOK (w.drewN n):=h
theorem TabOK.lt {w:World}(h:TabOK w):0<w.heap.size:=World.block_lt_of_cell? w _ (h 0 (by decide))
theorem TabOK.setCell {w:World}(h:TabOK w){p:Addr}(hp:w.heap.size≤p.block)(u:Value):TabOK (w.setCell p u):=h.on ((Below.refl _ _).setCell hp u)
theorem gTab : Tryd.prog.globalNamed "capnp/listsize.elementBits" = some 0 := by kernel_rfl
theorem gTabType:(Tryd.prog.globals[0]?).map (·.type)=some 124:=by kernel_rfl
theorem cellsTab:Tryd.prog.cellsOf 124=8:=by kernel_rfl
theorem cellsInt:Tryd.prog.cellsOf 3=1:=by kernel_rfl
theorem tab_laid {W : World} (h : laidMetH Tryd.prog [("capnp/listsize.elementBits", Rows.laid_capnp_listsize_elementBits)] W) : TabOK W := by
 have hT : Lib.TabIs Tryd.prog W "capnp/listsize.elementBits" .i64 elemZ := Lib.tabIs_of_head (rest := []) gTab gTabType Tryd.underlying124 Tryd.underlying3 cellsInt cellsTab h
 exact fun i hi=>hT.cell gTab i hi
noncomputable def laidWorld (os:Os):World:=
 { World.holding Tryd.prog os ⟨#[],#[],[]⟩ with heap:=(World.holding Tryd.prog os ⟨#[],#[],[]⟩).heap.modify 0 fun
   | .cells _ t frozen=>.cells #[.int .i64 0,.int .i64 1,.int .i64 8,.int .i64 16,.int .i64 32,.int .i64 64,.int .i64 64,.int .i64 0] t frozen
   | o=>o }
section
theorem elemZ_bits (k:Nat)(h:k≤7):elemZ.getD k 0=bitsI k:=by
 rcases(by omega:k=0∨k=1∨k=2∨k=3∨k=4∨k=5∨k=6∨k=7) with h|h|h|h|h|h|h|h<;>subst h<;>rfl
theorem LBits_any (e:Int)(w:World)(hT:TabOK w)(h0:0≤e)(h7:e≤7):Calls Tryd.prog 64 #[.int .i64 e] w fun r w'=>r=.returned (.int .i64 (bitsI e))∧w=w':=by
 obtain⟨k,rfl⟩:=Int.eq_ofNat_of_zero_le h0
 have hk:k≤7:=by omega
 have hc:=hT k (by omega)
 rw [elemZ_bits k hk] at hc
 have HT:=Lib.hid hT
 generalize bitsI k=x at *
 clear hT
 go_enter Tryd.func64,Tryd.ntmps64
 go_wp2
 go_ret
 exact⟨rfl,rfl⟩
theorem totalBits_any (e c:Int)(w:World)(hT:TabOK w)(h0:0≤e)(h7:e≤7)(hc:0≤c)(h1:c≤536870911):Calls Tryd.prog 95 #[.int .i64 e,.int .i64 c] w fun r w'=>r=.returned (.int .i64 (bitsI e*c))∧w=w':=by
 have HB:=Lib.hid (LBits_any e w hT h0 h7)
 obtain⟨m0,m1⟩:=bitsI_mul e c hc
 clear hT
 generalize bitsI e=x at *
 go_enter Tryd.func95,Tryd.ntmps95
 go_wp2_with fail
 refine HB.out.mono ?_
 rintro e w' ⟨rfl,rfl⟩
 go_wp2
 go_ret
 exact⟨rfl,rfl⟩
theorem units_any (e c s:Int)(w:World)(hT:TabOK w)(h0:0≤e)(h7:e≤7)(hc:0≤c)(h1:c≤536870911)(hs:s=8∨s=64):Calls Tryd.prog 81 #[.int .i64 e,.int .i64 c,.int .i64 s] w fun r w'=>r=.returned (.int .i64 ((bitsI e*c+s-1) / s))∧w=w':=by
 have HB:=Lib.hid (totalBits_any e c w hT h0 h7 hc h1)
 obtain⟨m0,m1⟩:=bitsI_mul e c hc
 clear hT
 generalize bitsI e*c=x at *
 rcases hs with rfl|rfl
 all_goals
  go_enter Tryd.func81,Tryd.ntmps81
  go_wp2_with fail
  refine HB.out.mono ?_
  rintro e w' ⟨rfl,rfl⟩
  go_wp2
  go_ret
  exact⟨rfl,rfl⟩
theorem LWords_any (e c:Int)(w:World)(hT:TabOK w)(h0:0≤e)(h7:e≤7)(hc:0≤c)(h1:c≤536870911):Calls Tryd.prog 61 #[.int .i64 e,.int .i64 c] w fun r w'=>r=.returned (.int .i64 (wordsI e c))∧w=w':=by
 by_cases he:e=7
 ·subst he
  have HW:Hid (wordsI 7 c=1+c):=Lib.hid (by unfold wordsI;rw [if_pos rfl];omega)
  clear hT
  go_enter Tryd.func61,Tryd.ntmps61
  go_wp2
  go_ret
  exact⟨by rw [HW.out];rfl,rfl⟩
 ·have HW:Hid (wordsI e c=(bitsI e*c+64-1) / 64):=Lib.hid (by unfold wordsI;rw [if_neg he];omega)
  have HB:=Lib.hid (units_any e c 64 w hT h0 h7 hc h1 (.inr rfl))
  have he2:(e==7)=false:=beq_eq_false_iff_ne.2 he
  clear hT he
  rw [←HW.out] at HB
  generalize wordsI e c=x at *
  go_enter Tryd.func61,Tryd.ntmps61
  go_wp2_with fail
  refine HB.out.mono ?_
  rintro e w' ⟨rfl,rfl⟩
  go_wp2
  go_ret
  exact⟨rfl,rfl⟩
attribute [local irreducible] p2
end
def KS (wb q:Nat):Nat→Prop:=fun k=>k=wb∨k=q
theorem ks_set {S:Nat→Prop}{w w':World}(h:Keeps S w w'){p:Addr}(hp:S p.block∨w.heap.size≤p.block)(v:Value):Keeps S w (w'.setCell p v):=by
  refine⟨h.os,h.tape,h.output,by simpa using h.size,fun k hk hS=>?_⟩
  rw [Below.heap_setCell _ _ _ _ (by rcases hp with e|e;·intro e2;rw [e2] at hS;exact hS e
                                     · omega)]
  exact h.block k hk hS
theorem ks_on {S:Nat→Prop}{w w1 w2:World}(h:Keeps S w w1)(hb:Below w1.heap.size w1 w2):Keeps S w w2:=h.trans (keeps_of hb)
structure Wr (W:World) (wb q cap base:Nat) (cur:List Int):Prop where
 blk:Blk W wb #[.slice (some ⟨q,0,none⟩) cur.length cap]
 got:Got W base 32 .u64 (.slice (some ⟨q,0,none⟩) cur.length cap) cur
theorem Wr.below {W W':World}{wb q cap base:Nat}{cur:List Int}(h:Wr W wb q cap base cur)(hb:Below W.heap.size W W'):Wr W' wb q cap base cur:=⟨h.blk.below hb,h.got.below hb (Nat.le_refl _)⟩
theorem Wr.alloc {W:World}{wb q cap base:Nat}{cur:List Int}(h:Wr W wb q cap base cur)(o:Obj):Wr (W.alloc o) wb q cap base cur:=h.below ((Below.refl _ _).alloc (Nat.le_refl _) o)
theorem Wr.drew {W:World}{wb q cap base:Nat}{cur:List Int}(h:Wr W wb q cap base cur):Wr W.drew wb q cap base cur:=⟨h.blk.drew,h.got⟩
theorem Wr.put {W:World}{wb q cap base:Nat}{cur:List Int}(h:Wr W wb q cap base cur)(hne:wb≠q)(j:Nat)(y:Int):Wr (W.setCell ⟨q,j,none⟩ (.int .u64 y)) wb q cap base (cur.set j y):=by
 have e:(cur.set j y).length=cur.length:=List.length_set
 exact⟨by rw [e];exact h.blk.other (fun e=>hne e.symm) _,by rw [e];exact h.got.put j y⟩
theorem got_other15 {w:World}{base:Nat}{E:TypeId}{k:IntKind}{u:Value}{zs:List Int}(h:Got w base E k u zs){p:Addr}(hp:u.ownBlock=some p.block→False)(v:Value):Got (w.setCell p v) base E k u zs:=by
 refine⟨h.1,?_⟩
 rcases h.2 with h3|⟨g,cap,cur,hv,hg,hh,r⟩
 ·exact .inl h3
 ·exact .inr ⟨g,cap,cur,hv,hg,(Below.heap_setCell _ _ _ _ (fun e=>hp (by rw [hv,←e];rfl))).trans hh,r⟩
theorem Wr.grow {W:World}{wb q cap base n:Nat}{u:Value}{cur:List Int}(hg:Got W base 32 .u64 (.slice (some ⟨q,0,none⟩) n cap) cur)(hb:Blk W wb #[u])(hne:wb≠q)(hn:n=cur.length):Wr (W.setCell ⟨wb,0,none⟩ (.slice (some ⟨q,0,none⟩) n cap)) wb q cap base cur:=by
 subst hn
 exact⟨hb.set 0 (by simp) _,got_other15 hg (fun e=>by injection e with e;exact hne e.symm) _⟩
theorem Wr.q {W:World}{wb q cap base:Nat}{cur:List Int}(h:Wr W wb q cap base cur):base≤q∧q<W.heap.size∧cur.length≤cap∧cap≤maxLen:=by
 obtain⟨h1,h2⟩:=h.got.lt q rfl
 obtain⟨A,c,e,h3,h4,-⟩:=h.got.slice
 injection e with e1 e2 e3
 subst e3
 exact⟨h1,h2,h3,h4⟩
end Go.Proofs.YtclpapddejgpnaaDoor
