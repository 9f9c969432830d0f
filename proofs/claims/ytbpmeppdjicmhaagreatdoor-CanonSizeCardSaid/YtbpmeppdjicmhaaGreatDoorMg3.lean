/- The texts Tab (what is wanted of them), one after the other. -/
import Derived.Test.YtbpmeppdjicmhaaGreatDoorMg1
import Derived.Test.YtbpmeppdjicmhaaGreatDoorRows
import Derived.WalkSpells
namespace Go.Proofs.YtbpmeppdjicmhaaGreatDoor
open Go.RowKit
set_option linter.unusedVariables false
set_option linter.unusedSimpArgs false
set_option maxRecDepth 100000
def elemZ:List Int:=[0,1,8,16,32,64,64,0]
def TabOK (w:World):Prop:=∀i,i<8→w.cell? ⟨0,i,none⟩=some (.int .i64 (elemZ.getD i 0))
theorem TabOK.below {w w':World}(h:TabOK w){B:Nat}(hb:Below B w w')(hB:w.heap.size≤B):TabOK w':=fun i hi=>cell_later (hb.mono hB) (h i hi)
theorem TabOK.on {w w':World}(h:TabOK w)(hb:Below w.heap.size w w'):TabOK w':=h.below hb (Nat.le_refl _)
theorem TabOK.alloc {w:World}(h:TabOK w)(o:Obj):TabOK (w.alloc o):=h.on ((Below.refl _ _).alloc (Nat.le_refl _) o)
theorem TabOK.drew {w:World}(h:TabOK w):TabOK w.drew:=h
theorem TabOK.drewN {w:World}(h:TabOK w)(n:Nat):TabOK (w.drewN n):=h
theorem TabOK.lt {w:World}(h:TabOK w):0<w.heap.size:=World.block_lt_of_cell? w _ (h 0 (by decide))
theorem TabOK.setCell {w:World}(h:TabOK w){p:Addr}(hp:w.heap.size≤p.block)(u:Value):TabOK (w.setCell p u):=h.on ((Below.refl _ _).setCell hp u)
end Go.Proofs.YtbpmeppdjicmhaaGreatDoor
