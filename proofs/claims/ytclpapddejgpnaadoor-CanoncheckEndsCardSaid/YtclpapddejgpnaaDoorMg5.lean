/- The texts Blk, PtrLay (what is wanted of them), one after the other. -/
import Derived.Test.YtclpapddejgpnaaDoorMg2
import Derived.Test.YtclpapddejgpnaaDoorMg4
import Derived.StillTailTactics
namespace Go.Proofs.YtclpapddejgpnaaDoor
open Go.ChangeShapes Go.WideShapes Go.ChangeAt Go.RowKit
set_option linter.unusedVariables false
set_option linter.unusedSimpArgs false
set_option maxRecDepth 100000
section
structure Blk (W:World) (b:Nat) (cs:Array Value):Prop where
 cell:∀o,W.cell? ⟨b,o,none⟩=cs[o]?
 free:∀o,W.frozen? ⟨b,o,none⟩=false
 lt:b<W.heap.size
section
variable {W W':World} {b:Nat} {cs:Array Value}
theorem Blk.fresh (W:World)(cs:Array Value)(T:TypeId):Blk (W.alloc (.cells cs T)) W.heap.size cs:=
 ⟨blk_new W cs T,fun o=>by simp,by simp⟩
theorem Blk.new {T:TypeId}(hb:W.heap.size=b):Blk (W.alloc (.cells cs T)) b cs:=hb ▸ Blk.fresh W cs T
theorem Blk.alloc (h:Blk W b cs)(o:Obj):Blk (W.alloc o) b cs:=by
 have hb:Below W.heap.size W (W.alloc o):=(Below.refl _ _).alloc (Nat.le_refl _) o
 have hz:=h.lt
 refine⟨blk_alloc h.cell (by omega) _,fun j=>?_,?_⟩
 ·rw [hb.frozen (p:=⟨b,j,none⟩) (by show b<_;omega)]
  exact h.free j
 ·simp;omega
theorem Blk.below (h:Blk W b cs)(hb:Below W.heap.size W W'):Blk W' b cs:=by
 have hz:=h.lt
 have h2:=hb.size
 refine⟨blk_below h.cell hb (by omega),fun j=>?_,by omega⟩
 rw [hb.frozen (p:=⟨b,j,none⟩) (by show b<_;omega)]
 exact h.free j
theorem Blk.drewN (h:Blk W b cs)(n:Nat):Blk (W.drewN n) b cs:=⟨h.cell,h.free,h.lt⟩
theorem Blk.drew (h:Blk W b cs):Blk W.drew b cs:=⟨h.cell,h.free,h.lt⟩
theorem Blk.belowN (h:Blk W b cs){N:Nat}(hb:Below N W W')(hN:b<N):Blk W' b cs:=by
 have h2:=hb.size
 have hz:=h.lt
 refine⟨fun j=>(hb.cell (p:=⟨b,j,none⟩) hN).trans (h.cell j),fun j=>(hb.frozen (p:=⟨b,j,none⟩) hN).trans (h.free j),by omega⟩
theorem blk_set' (x:∀o,W.cell? ⟨b,o,none⟩=cs[o]?)(k:Nat)(hk:k<cs.size)(v:Value):∀o,(W.setCell ⟨b,k,none⟩ v).cell? ⟨b,o,none⟩=(cs.setIfInBounds k v)[o]?:=by
 intro o
 by_cases e:k=o
 ·subst e
  rw [World.cell?_setCell_same' _ _ _ (by rw [x k];simp [hk])]
  simp [hk]
 ·rw [World.cell?_setCell_other W ⟨b,k,none⟩ ⟨b,o,none⟩ v (by intro h;injection h with _ h2;exact e h2),x o]
  simp [Array.getElem?_setIfInBounds_ne e]
theorem Blk.set (h:Blk W b cs)(k:Nat)(hk:k<cs.size)(v:Value):Blk (W.setCell ⟨b,k,none⟩ v) b (cs.setIfInBounds k v):=
 ⟨blk_set' h.cell k hk v,fun o=>by have:=h.free o;simpa using this,by have:=h.lt;simpa using this⟩
theorem Blk.other (h:Blk W b cs){p:Addr}(hp:p.block≠b)(v:Value):Blk (W.setCell p v) b cs:=
 ⟨fun o=>by rw [World.cell?_setCell_other W p ⟨b,o,none⟩ v (by intro e;rw [e] at hp;exact hp rfl)];exact h.cell o,fun o=>by have:=h.free o;simpa using this,by have:=h.lt;simpa using this⟩
end
theorem abs_world {P:Program}{f:FuncId}{args:Array Value}{V:World}{Q:Ending→World→Prop}(F:World→Prop)(hF:F V)(h:∀W,F W→Calls P f args W Q):Calls P f args V Q:=h V hF
theorem abs_post {P:Program}{fn:Func}{Q:Ending→World→Prop}{e:Exit}{a:Act}{V:World}(F:World→Prop)(hF:F V)(h:∀W,F W→bodyPost P fn Q e a W):bodyPost P fn Q e a V:=h V hF
end
section
theorem lay_map:Tryd.prog.underlying 119=some (.map 3 117):=by kernel_rfl
theorem lay_key:Tryd.prog.underlying 3=some (.int .i64):=by kernel_rfl
def ents:Array MapEntry:=#[{ key:=.int .i64 0,val:=.func (.func 88) #[] #[],born:=0 },{ key:=.int .i64 1,val:=.func (.func 90) #[] #[],born:=1 },
 { key:=.int .i64 2,val:=.func (.func 91) #[] #[],born:=2 },{ key:=.int .i64 3,val:=.func (.func 94) #[] #[],born:=3 }]
theorem layouts_any (w:World):Calls Tryd.prog 79 #[] w fun e w'=>e=.returned (.map (some w.heap.size))∧w'=w.alloc (.map ents 4):=by
 have hmm:=@run_makeMap Tryd.prog
 have h0:(Instr.mapUpdate 119 (.map (some w.heap.size)) (.int .i64 0) (.func (.func 88) #[] #[])).run Tryd.prog (w.alloc (.map #[] 0))=.ok () (w.alloc (.map #[{ key:=.int .i64 0,val:=.func (.func 88) #[] #[],born:=0 }] 1)):=
  run_insert_new w _ _ _ _ _ _ _ lay_map lay_key (by rfl)
 have h1:(Instr.mapUpdate 119 (.map (some w.heap.size)) (.int .i64 1) (.func (.func 90) #[] #[])).run Tryd.prog (w.alloc (.map #[{ key:=.int .i64 0,val:=.func (.func 88) #[] #[],born:=0 }] 1))=.ok () (w.alloc (.map #[{ key:=.int .i64 0,val:=.func (.func 88) #[] #[],born:=0 },{ key:=.int .i64 1,val:=.func (.func 90) #[] #[],born:=1 }] 2)):=
  run_insert_new w _ _ _ _ _ _ _ lay_map lay_key (by rfl)
 have h2:(Instr.mapUpdate 119 (.map (some w.heap.size)) (.int .i64 2) (.func (.func 91) #[] #[])).run Tryd.prog (w.alloc (.map #[{ key:=.int .i64 0,val:=.func (.func 88) #[] #[],born:=0 },{ key:=.int .i64 1,val:=.func (.func 90) #[] #[],born:=1 }] 2))=.ok () (w.alloc (.map #[{ key:=.int .i64 0,val:=.func (.func 88) #[] #[],born:=0 },{ key:=.int .i64 1,val:=.func (.func 90) #[] #[],born:=1 },{ key:=.int .i64 2,val:=.func (.func 91) #[] #[],born:=2 }] 3)):=
  run_insert_new w _ _ _ _ _ _ _ lay_map lay_key (by rfl)
 have h3:(Instr.mapUpdate 119 (.map (some w.heap.size)) (.int .i64 3) (.func (.func 94) #[] #[])).run Tryd.prog (w.alloc (.map #[{ key:=.int .i64 0,val:=.func (.func 88) #[] #[],born:=0 },{ key:=.int .i64 1,val:=.func (.func 90) #[] #[],born:=1 },{ key:=.int .i64 2,val:=.func (.func 91) #[] #[],born:=2 }] 3))=.ok () (w.alloc (.map #[{ key:=.int .i64 0,val:=.func (.func 88) #[] #[],born:=0 },{ key:=.int .i64 1,val:=.func (.func 90) #[] #[],born:=1 },{ key:=.int .i64 2,val:=.func (.func 91) #[] #[],born:=2 },{ key:=.int .i64 3,val:=.func (.func 94) #[] #[],born:=3 }] 4)):=
  run_insert_new w _ _ _ _ _ _ _ lay_map lay_key (by rfl)
 go_enter Tryd.func79,Tryd.ntmps79
 go_wp2
 go_ret
 exact⟨rfl,rfl⟩
theorem IsMap.stab (es:Array MapEntry)(n:Nat):stable (IsMap es n):=fun v w w' h hb=>h.below hb
attribute [local simp] AllK KnowsV look Is
def Lays (K:Int)(fv:Value)(ok:Bool):Prop:=∀(w:World) (r:Nat),w.heap[r]?=some (.map ents 4)→(Instr.lookup 119 (.map (some r)) (.int .i64 K) true).run Tryd.prog w=.ok (.tuple #[fv,.bool ok]) w
theorem lays0:Lays 0 (.func (.func 88) #[] #[]) true:=fun w r h=>run_lookup_yes w _ _ _ r _ _ 0 0 _ lay_map lay_key h (by rfl)
theorem lays1:Lays 1 (.func (.func 90) #[] #[]) true:=fun w r h=>run_lookup_yes w _ _ _ r _ _ 1 1 _ lay_map lay_key h (by rfl)
theorem lays2:Lays 2 (.func (.func 91) #[] #[]) true:=fun w r h=>run_lookup_yes w _ _ _ r _ _ 2 2 _ lay_map lay_key h (by rfl)
theorem lays3:Lays 3 (.func (.func 94) #[] #[]) true:=fun w r h=>run_lookup_yes w _ _ _ r _ _ 3 3 _ lay_map lay_key h (by rfl)
end
end Go.Proofs.YtclpapddejgpnaaDoor
