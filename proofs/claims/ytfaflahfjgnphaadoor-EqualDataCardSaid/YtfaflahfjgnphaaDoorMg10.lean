/- The texts Tab, List (what is wanted of them), one after the other. -/
import Derived.Test.YtfaflahfjgnphaaDoorMg3
import Derived.WalkSpells
import Derived.Lib.SliceRun
namespace Go.Proofs.YtfaflahfjgnphaaDoor
open Go.RowKit Go.ChangeShapes Go.WideShapes Go.ChangeAt
set_option linter.unusedVariables false
set_option linter.unusedSimpArgs false
set_option maxRecDepth 100000
def elemZ:List Int:=[0,1,8,16,32,64,64,0]
def TabOK (w:World):Prop:=∀i,i<8→w.cell? ⟨0,i,none⟩=some (.int .i64 (elemZ.getD i 0))
theorem TabOK.below {w w':World}(h:TabOK w){B:Nat}(hb:Below B w w')(hB:w.heap.size≤B):TabOK w':=fun i hi=>cell_later (hb.mono hB) (h i hi)
theorem TabOK.on {w w':World}(h:TabOK w)(hb:Below w.heap.size w w'):TabOK w':=h.below hb (Nat.le_refl _)
theorem TabOK.alloc {w:World}(h:TabOK w)(o:Obj):TabOK (w.alloc o):=h.on ((Below.refl _ _).alloc (Nat.le_refl _) o)
theorem TabOK.drew {w:World}(h:TabOK w):TabOK w.drew:=h
theorem TabOK.drewN {w:World}(h:TabOK w)(n:Nat):TabOK (w.drewN n):=h
theorem TabOK.lt {w:World}(h:TabOK w):0<w.heap.size:=World.block_lt_of_cell? w _ (h 0 (by decide))
theorem TabOK.setCell {w:World}(h:TabOK w){p:Addr}(hp:w.heap.size≤p.block)(u:Value):TabOK (w.setCell p u):=h.on ((Below.refl _ _).setCell hp u)
section
theorem elemZ_bits (k:Nat)(h:k≤7):elemZ.getD k 0=bitsI k:=by
 rcases(by omega:k=0∨k=1∨k=2∨k=3∨k=4∨k=5∨k=6∨k=7) with h|h|h|h|h|h|h|h<;>subst h<;>rfl
theorem LBits_any (e:Int)(w:World)(hT:TabOK w)(h0:0≤e)(h7:e≤7):Calls Tryd.prog 39 #[.int .i64 e] w fun r w'=>r=.returned (.int .i64 (bitsI e))∧w=w':=by
 obtain⟨k,rfl⟩:=Int.eq_ofNat_of_zero_le h0
 have hk:k≤7:=by omega
 have hc:=hT k (by omega)
 rw [elemZ_bits k hk] at hc
 have HT:=Lib.hid hT
 generalize bitsI k=x at *
 clear hT
 go_enter Tryd.func39,Tryd.ntmps39
 go_wp2
 go_ret
 exact⟨rfl,rfl⟩
theorem totalBits_any (e c:Int)(w:World)(hT:TabOK w)(h0:0≤e)(h7:e≤7)(hc:0≤c)(h1:c≤536870911):Calls Tryd.prog 65 #[.int .i64 e,.int .i64 c] w fun r w'=>r=.returned (.int .i64 (bitsI e*c))∧w=w':=by
 have HB:=Lib.hid (LBits_any e w hT h0 h7)
 obtain⟨m0,m1⟩:=bitsI_mul e c hc
 clear hT
 generalize bitsI e=x at *
 go_enter Tryd.func65,Tryd.ntmps65
 go_wp2_with fail
 refine HB.out.mono ?_
 rintro e w' ⟨rfl,rfl⟩
 go_wp2
 go_ret
 exact⟨rfl,rfl⟩
theorem units_any (e c s:Int)(w:World)(hT:TabOK w)(h0:0≤e)(h7:e≤7)(hc:0≤c)(h1:c≤536870911)(hs:s=8∨s=64):Calls Tryd.prog 51 #[.int .i64 e,.int .i64 c,.int .i64 s] w fun r w'=>r=.returned (.int .i64 ((bitsI e*c+s-1) / s))∧w=w':=by
 have HB:=Lib.hid (totalBits_any e c w hT h0 h7 hc h1)
 obtain⟨m0,m1⟩:=bitsI_mul e c hc
 clear hT
 generalize bitsI e*c=x at *
 rcases hs with rfl|rfl
 all_goals
  go_enter Tryd.func51,Tryd.ntmps51
  go_wp2_with fail
  refine HB.out.mono ?_
  rintro e w' ⟨rfl,rfl⟩
  go_wp2
  go_ret
  exact⟨rfl,rfl⟩
theorem LWords_any (e c:Int)(w:World)(hT:TabOK w)(h0:0≤e)(h7:e≤7)(hc:0≤c)(h1:c≤536870911):Calls Tryd.prog 40 #[.int .i64 e,.int .i64 c] w fun r w'=>r=.returned (.int .i64 (wordsI e c))∧w=w':=by
 by_cases he:e=7
 ·subst he
  have HW:Hid (wordsI 7 c=1+c):=Lib.hid (by unfold wordsI;rw [if_pos rfl];omega)
  clear hT
  go_enter Tryd.func40,Tryd.ntmps40
  go_wp2
  go_ret
  exact⟨by rw [HW.out];rfl,rfl⟩
 ·have HW:Hid (wordsI e c=(bitsI e*c+64-1) / 64):=Lib.hid (by unfold wordsI;rw [if_neg he];omega)
  have HB:=Lib.hid (units_any e c 64 w hT h0 h7 hc h1 (.inr rfl))
  have he2:(e==7)=false:=beq_eq_false_iff_ne.2 he
  clear hT he
  rw [←HW.out] at HB
  generalize wordsI e c=x at *
  go_enter Tryd.func40,Tryd.ntmps40
  go_wp2_with fail
  refine HB.out.mono ?_
  rintro e w' ⟨rfl,rfl⟩
  go_wp2
  go_ret
  exact⟨rfl,rfl⟩
attribute [local irreducible] p2
end
end Go.Proofs.YtfaflahfjgnphaaDoor
