/- The texts PtrNum, PtrLay (what is wanted of them), one after the other. -/
import Derived.Test.YtfaflahfjgnphaaGreatDoorMg2
import Derived.Test.YtfaflahfjgnphaaGreatDoorMg3
import Derived.StillTailTactics
namespace Go.Proofs.YtfaflahfjgnphaaGreatDoor
open Go.ChangeShapes Go.WideShapes Go.ChangeAt Go.RowKit
set_option linter.unusedVariables false
set_option linter.unusedSimpArgs false
set_option maxRecDepth 100000
structure Ptr where
 k:Int
 o:Int
 d:Int
 p:Int
 el:Int
 c:Int
 db:Bool
 pa:Int
 sg:Int
 lo:Int
theorem fld_eq (x a n:Int)(hx:0≤x):fld x a n=x / ((2 ^ a.toNat:Nat):Int) % ((2 ^ n.toNat:Nat):Int):=by
 obtain⟨X,rfl⟩:=Int.eq_ofNat_of_zero_le hx
 unfold fld fldN
 rw [Int.toNat_natCast]
 simp
theorem f_0_2 (x:Int)(hx:0≤x):fld x 0 2=x % 4:=by
 rw [fld_eq x 0 2 hx];show x / 1 % 4=x % 4;omega
theorem f_2_1 (x:Int)(hx:0≤x):fld x 2 1=x / 4 % 2:=by rw [fld_eq x _ _ hx];rfl
theorem f_2_30 (x:Int)(hx:0≤x):fld x 2 30=x / 4 % 1073741824:=by rw [fld_eq x _ _ hx];rfl
theorem f_3_29 (x:Int)(hx:0≤x):fld x 3 29=x / 8 % 536870912:=by rw [fld_eq x _ _ hx];rfl
theorem f_32_3 (x:Int)(hx:0≤x):fld x 32 3=x / 4294967296 % 8:=by rw [fld_eq x _ _ hx];rfl
theorem f_32_16 (x:Int)(hx:0≤x):fld x 32 16=x / 4294967296 % 65536:=by rw [fld_eq x _ _ hx];rfl
theorem f_32_32 (x:Int)(hx:0≤x):fld x 32 32=x / 4294967296 % 4294967296:=by rw [fld_eq x _ _ hx];rfl
theorem f_35_29 (x:Int)(hx:0≤x):fld x 35 29=x / 34359738368 % 536870912:=by rw [fld_eq x _ _ hx];rfl
theorem f_48_16 (x:Int)(hx:0≤x):fld x 48 16=x / 281474976710656 % 65536:=by rw [fld_eq x _ _ hx];rfl
def off30 (x:Int):Int:=if 536870912≤x / 4 % 1073741824 then x / 4 % 1073741824-1073741824 else x / 4 % 1073741824
theorem s_2_30 (x:Int)(hx:0≤x):sgn x 2 30=off30 x:=by
 unfold sgn off30
 rw [f_2_30 x hx]
 rfl
def decP (x:Int):Ptr:=
 if x % 4=0 then ⟨0,off30 x,x / 4294967296 % 65536,x / 281474976710656 % 65536,0,0,false,0,0,0⟩
 else if x % 4=1 then ⟨1,off30 x,0,0,x / 4294967296 % 8,x / 34359738368 % 536870912,false,0,0,0⟩
 else if x % 4=2 then ⟨2,0,0,0,0,0,x / 4 % 2==1,x / 8 % 536870912,x / 4294967296 % 4294967296,0⟩
 else ⟨3,0,0,0,0,0,false,0,x / 4294967296 % 4294967296,x / 4 % 1073741824⟩
def encW (q:Ptr):Int:=
 if q.k=0 then 4*(q.o % 1073741824)+4294967296*(q.d % 65536)+281474976710656*(q.p % 65536)
 else if q.k=1 then 1+4*(q.o % 1073741824)+4294967296*(q.el % 8)+34359738368*(q.c % 536870912)
 else if q.k=2 then 2+(if q.db then 4 else 0)+8*(q.pa % 536870912)+4294967296*(q.sg % 4294967296)
 else 3+4*(q.lo % 1073741824)+4294967296*(q.sg % 4294967296)
def Vld (q:Ptr):Prop:=
 (q.k=0∧-536870912≤q.o∧q.o≤536870911∧0≤q.d∧q.d≤65535∧0≤q.p∧q.p≤65535∧q.el=0∧q.c=0∧q.db=false∧q.pa=0∧q.sg=0∧q.lo=0) ∨
 (q.k=1∧-536870912≤q.o∧q.o≤536870911∧q.d=0∧q.p=0∧0≤q.el∧q.el≤7∧0≤q.c∧q.c≤536870911∧q.db=false∧q.pa=0∧q.sg=0∧q.lo=0) ∨
 (q.k=2∧q.o=0∧q.d=0∧q.p=0∧q.el=0∧q.c=0∧0≤q.pa∧q.pa≤536870911∧0≤q.sg∧q.sg≤4294967295∧q.lo=0) ∨
 (q.k=3∧q.o=0∧q.d=0∧q.p=0∧q.el=0∧q.c=0∧q.db=false∧q.pa=0∧0≤q.sg∧q.sg≤4294967295∧0≤q.lo∧q.lo≤1073741823)
instance (q:Ptr):Decidable (Vld q):=by unfold Vld;infer_instance
theorem decP_vld (x:Int)(h0:0≤x)(h1:x<18446744073709551616):Vld (decP x):=by
 unfold decP Vld off30
 by_cases c0:x % 4=0
 ·rw [if_pos c0];left;simp;split<;>omega
 ·rw [if_neg c0]
  by_cases c1:x % 4=1
  ·rw [if_pos c1];right;left;simp;split<;>omega
  ·rw [if_neg c1]
   by_cases c2:x % 4=2
   ·rw [if_pos c2];right;right;left;simp;omega
   ·rw [if_neg c2];right;right;right;simp;omega
theorem encW_bd (q:Ptr):0≤encW q∧encW q<18446744073709551616:=by
 unfold encW
 split
 ·omega
 ·split
  ·omega
  ·split
   ·split<;>omega
   ·omega
theorem decP_encW (q:Ptr)(h:Vld q):decP (encW q)=q:=by
 obtain⟨k,o,d,p,el,c,db,pa,sg,lo⟩:=q
 unfold Vld at h
 simp only at h
 rcases h with ⟨rfl,h⟩|⟨rfl,h⟩|⟨rfl,h⟩|⟨rfl,h⟩
 ·obtain⟨h1,h2,h3,h4,h5,h6,rfl,rfl,rfl,rfl,rfl,rfl⟩:=h
  simp only [encW,if_pos]
  generalize hx:4*(o % 1073741824)+4294967296*(d % 65536)+281474976710656*(p % 65536)=x
  unfold decP off30
  rw [if_pos (by omega)]
  simp only [Ptr.mk.injEq,and_true,true_and]
  refine⟨?_,by omega,by omega⟩
  split<;>omega
 ·obtain⟨h1,h2,rfl,rfl,h5,h6,h7,h8,rfl,rfl,rfl,rfl⟩:=h
  simp only [encW,show ((1:Int)=0)=False by decide,if_false,if_true]
  generalize hx:1+4*(o % 1073741824)+4294967296*(el % 8)+34359738368*(c % 536870912)=x
  unfold decP off30
  rw [if_neg (by omega),if_pos (by omega)]
  simp only [Ptr.mk.injEq,and_true,true_and]
  refine⟨?_,by omega,by omega⟩
  split<;>omega
 ·obtain⟨rfl,rfl,rfl,rfl,rfl,h5,h6,h7,h8,rfl⟩:=h
  simp only [encW,show ((2:Int)=0)=False by decide,show ((2:Int)=1)=False by decide,if_false,if_true]
  cases db
  ·simp only [Bool.false_eq_true,if_false]
   generalize hx:2+0+8*(pa % 536870912)+4294967296*(sg % 4294967296)=x
   unfold decP
   rw [if_neg (by omega),if_neg (by omega),if_pos (by omega)]
   simp only [Ptr.mk.injEq,and_true,true_and]
   refine⟨?_,by omega,by omega⟩
   rw [beq_eq_false_iff_ne];omega
  ·simp only [if_true]
   generalize hx:2+4+8*(pa % 536870912)+4294967296*(sg % 4294967296)=x
   unfold decP
   rw [if_neg (by omega),if_neg (by omega),if_pos (by omega)]
   simp only [Ptr.mk.injEq,and_true,true_and]
   refine⟨?_,by omega,by omega⟩
   rw [beq_iff_eq];omega
 ·obtain⟨rfl,rfl,rfl,rfl,rfl,rfl,rfl,h5,h6,h7,h8⟩:=h
  simp only [encW,show ((3:Int)=0)=False by decide,show ((3:Int)=1)=False by decide,show ((3:Int)=2)=False by decide,if_false]
  generalize hx:3+4*(lo % 1073741824)+4294967296*(sg % 4294967296)=x
  unfold decP
  rw [if_neg (by omega),if_neg (by omega),if_neg (by omega)]
  simp only [Ptr.mk.injEq,and_true,true_and]
  omega
section
theorem lay_map:Tryz.prog.underlying 157=some (.map 3 155):=by kernel_rfl
theorem lay_key:Tryz.prog.underlying 3=some (.int .i64):=by kernel_rfl
def ents:Array MapEntry:=#[{ key:=.int .i64 0,val:=.func (.func 115) #[] #[],born:=0 },{ key:=.int .i64 1,val:=.func (.func 117) #[] #[],born:=1 },
 { key:=.int .i64 2,val:=.func (.func 118) #[] #[],born:=2 },{ key:=.int .i64 3,val:=.func (.func 121) #[] #[],born:=3 }]
theorem layouts_any (w:World):Calls Tryz.prog 105 #[] w fun e w'=>e=.returned (.map (some w.heap.size))∧w'=w.alloc (.map ents 4):=by
 have hmm:=@run_makeMap Tryz.prog
 have h0:(Instr.mapUpdate 157 (.map (some w.heap.size)) (.int .i64 0) (.func (.func 115) #[] #[])).run Tryz.prog (w.alloc (.map #[] 0))=.ok () (w.alloc (.map #[{ key:=.int .i64 0,val:=.func (.func 115) #[] #[],born:=0 }] 1)):=
  run_insert_new w _ _ _ _ _ _ _ lay_map lay_key (by rfl)
 have h1:(Instr.mapUpdate 157 (.map (some w.heap.size)) (.int .i64 1) (.func (.func 117) #[] #[])).run Tryz.prog (w.alloc (.map #[{ key:=.int .i64 0,val:=.func (.func 115) #[] #[],born:=0 }] 1))=.ok () (w.alloc (.map #[{ key:=.int .i64 0,val:=.func (.func 115) #[] #[],born:=0 },{ key:=.int .i64 1,val:=.func (.func 117) #[] #[],born:=1 }] 2)):=
  run_insert_new w _ _ _ _ _ _ _ lay_map lay_key (by rfl)
 have h2:(Instr.mapUpdate 157 (.map (some w.heap.size)) (.int .i64 2) (.func (.func 118) #[] #[])).run Tryz.prog (w.alloc (.map #[{ key:=.int .i64 0,val:=.func (.func 115) #[] #[],born:=0 },{ key:=.int .i64 1,val:=.func (.func 117) #[] #[],born:=1 }] 2))=.ok () (w.alloc (.map #[{ key:=.int .i64 0,val:=.func (.func 115) #[] #[],born:=0 },{ key:=.int .i64 1,val:=.func (.func 117) #[] #[],born:=1 },{ key:=.int .i64 2,val:=.func (.func 118) #[] #[],born:=2 }] 3)):=
  run_insert_new w _ _ _ _ _ _ _ lay_map lay_key (by rfl)
 have h3:(Instr.mapUpdate 157 (.map (some w.heap.size)) (.int .i64 3) (.func (.func 121) #[] #[])).run Tryz.prog (w.alloc (.map #[{ key:=.int .i64 0,val:=.func (.func 115) #[] #[],born:=0 },{ key:=.int .i64 1,val:=.func (.func 117) #[] #[],born:=1 },{ key:=.int .i64 2,val:=.func (.func 118) #[] #[],born:=2 }] 3))=.ok () (w.alloc (.map #[{ key:=.int .i64 0,val:=.func (.func 115) #[] #[],born:=0 },{ key:=.int .i64 1,val:=.func (.func 117) #[] #[],born:=1 },{ key:=.int .i64 2,val:=.func (.func 118) #[] #[],born:=2 },{ key:=.int .i64 3,val:=.func (.func 121) #[] #[],born:=3 }] 4)):=
  run_insert_new w _ _ _ _ _ _ _ lay_map lay_key (by rfl)
 go_enter Tryz.func105,Tryz.ntmps105
 go_wp2
 go_ret
 exact⟨rfl,rfl⟩
theorem IsMap.stab (es:Array MapEntry)(n:Nat):stable (IsMap es n):=fun v w w' h hb=>h.below hb
attribute [local simp] AllK KnowsV look Is
def Lays (K:Int)(fv:Value)(ok:Bool):Prop:=∀(w:World) (r:Nat),w.heap[r]?=some (.map ents 4)→(Instr.lookup 157 (.map (some r)) (.int .i64 K) true).run Tryz.prog w=.ok (.tuple #[fv,.bool ok]) w
theorem lays0:Lays 0 (.func (.func 115) #[] #[]) true:=fun w r h=>run_lookup_yes w _ _ _ r _ _ 0 0 _ lay_map lay_key h (by rfl)
theorem lays1:Lays 1 (.func (.func 117) #[] #[]) true:=fun w r h=>run_lookup_yes w _ _ _ r _ _ 1 1 _ lay_map lay_key h (by rfl)
theorem lays2:Lays 2 (.func (.func 118) #[] #[]) true:=fun w r h=>run_lookup_yes w _ _ _ r _ _ 2 2 _ lay_map lay_key h (by rfl)
theorem lays3:Lays 3 (.func (.func 121) #[] #[]) true:=fun w r h=>run_lookup_yes w _ _ _ r _ _ 3 3 _ lay_map lay_key h (by rfl)
end
end Go.Proofs.YtfaflahfjgnphaaGreatDoor
