/- The texts Resolve, EqC, EqD (what is wanted of them), one after the other. -/
import Derived.Test.YtfaflahfjgnphaaGreatDoorMg24
import Derived.Test.YtfaflahfjgnphaaGreatDoorMg26
import Derived.Test.YtfaflahfjgnphaaGreatDoorMg32
namespace Go.Proofs.YtfaflahfjgnphaaGreatDoor
open Go.ChangeShapes Go.WideShapes Go.ChangeAt Go.RowKit
set_option linter.unusedVariables false
set_option linter.unusedSimpArgs false
set_option maxRecDepth 100000
section
theorem folR_cases {ls:List (List Int)}(hw:Wd2 ls)(s a:Int):
  (((followF ls s a).e=2∨(followF ls s a).e=3)∧(followF ls s a).w=0∧(followF ls s a).s=0∧(followF ls s a).b=0) ∨
  ((followF ls s a).e=0∧(followF ls s a).w % 4≠2∧hasB ls s a=true∧(wordV ls s a % 4=2∨((followF ls s a).w=wordV ls s a∧(followF ls s a).s=s∧(followF ls s a).b=a+1))):=by
 unfold followF
 by_cases h1:hasB ls s a=false
 ·rw [if_pos h1];exact .inl ⟨.inl rfl,rfl,rfl,rfl⟩
 rw [if_neg h1]
 have h1':hasB ls s a=true:=by simpa using h1
 by_cases h2:(wordV ls s a % 4==2)=false
 ·rw [if_pos h2]
  refine .inr ⟨rfl,?_,h1',.inr ⟨rfl,rfl,rfl⟩⟩
  simpa using h2
 rw [if_neg h2]
 have h2':wordV ls s a % 4=2:=by simpa using h2
 by_cases h3:hasB ls (wordV ls s a / 4294967296) (wordV ls s a % 4294967296 / 8)=false
 ·rw [if_pos h3];exact .inl ⟨.inl rfl,rfl,rfl,rfl⟩
 rw [if_neg h3]
 by_cases h4:wordV ls s a / 4 % 2=0
 ·rw [if_pos h4]
  by_cases h5:(wordV ls (wordV ls s a / 4294967296) (wordV ls s a % 4294967296 / 8) % 4==2)=true
  ·rw [if_pos h5];exact .inl ⟨.inr rfl,rfl,rfl,rfl⟩
  ·rw [if_neg h5]
   refine .inr ⟨rfl,?_,h1',.inl h2'⟩
   simpa using h5
 rw [if_neg h4]
 by_cases h6:hasB ls (wordV ls s a / 4294967296) (wordV ls s a % 4294967296 / 8+1)=false
 ·rw [if_pos h6];exact .inl ⟨.inl rfl,rfl,rfl,rfl⟩
 rw [if_neg h6]
 split
 ·exact .inl ⟨.inr rfl,rfl,rfl,rfl⟩
 ·rename_i h7
  refine .inr ⟨rfl,?_,h1',.inl h2'⟩
  have b2:=(wordV_bd hw (wordV ls s a / 4294967296) (wordV ls s a % 4294967296 / 8+1)).1
  have h8:¬1<(decP (wordV ls (wordV ls s a / 4294967296) (wordV ls s a % 4294967296 / 8+1))).k:=fun h=>h7 (.inr (.inr (.inl h)))
  rw [decP_k _ b2] at h8
  show wordV ls (wordV ls s a / 4294967296) (wordV ls s a % 4294967296 / 8+1) % 4≠2
  omega
theorem abs_codeR {P:Program}{C:Code}{Q:Exit→Act→World→Prop}{a:Act}{V:World}(F:World→Prop)(hF:F V)(h:∀W,F W→C.wp P Q a W):C.wp P Q a V:=h V hF
def CasesAt (k:Int)(f:FuncId):Prop:=∀w,(Instr.index 98 casesV (.int .i64 k)).run Tryz.prog w=.ok (.func (.func f) #[] #[]) w
def Entered (f:FuncId):Prop:=∀args w,(callFunc f args).run Tryz.prog w=.ok (.enter f args) w
theorem enter0:Entered 79:=fun args w=>by rfl
theorem enter1:Entered 81:=fun args w=>by rfl
theorem enter3:Entered 84:=fun args w=>by rfl
theorem cases0:CasesAt 0 79:=fun w=>by kernel_rfl
theorem cases1:CasesAt 1 81:=fun w=>by kernel_rfl
theorem cases3:CasesAt 3 84:=fun w=>by kernel_rfl
attribute [local irreducible] casesV
attribute [local simp] AllK KnowsV look Is
set_option maxRecDepth 100000 in
set_option maxHeartbeats 4000000 in
theorem Object_tail (A:Option Addr)(c:Nat)(ls:List (List Int))(s a:Int)(fw fs fb:Int)(p:Ptr)(fid:FuncId)(r:Ob×Int)(w:World)(hT:TabOK w)(hs:Sg w A ls)
  (HFOL:Hid (∀w2,Sg w2 A ls→Calls Tryz.prog 52 #[.slice A ls.length c,.int .i64 s,.int .i64 a] w2 fun e w'=>e=.returned (.tuple #[.int .u64 fw,.int .i64 fs,.int .i64 fb,.int .i64 0])∧Below w2.heap.size w2 w'))
  (HDEC:Hid (∀w2,Calls Tryz.prog 54 #[.int .u64 fw] w2 fun e w'=>e=.returned (.agg #[.int .i64 p.k,.int .i64 p.o,.int .i64 p.d,.int .i64 p.p,.int .i64 p.el,.int .i64 p.c,.bool p.db,.int .i64 p.pa,.int .u32 p.sg,.int .u32 p.lo])∧Below w2.heap.size w2 w'))
  (hw0:(fw==0)=false) (hb0:0≤fb) (hb1:fb≤140737488355329) (ho0:-536870912≤p.o) (ho1:p.o≤536870911) (hix:CasesAt p.k fid) (hen:Entered fid)
  (HC:Hid (∀w2,TabOK w2→Sg w2 A ls→Calls Tryz.prog fid #[.agg #[.slice A ls.length c,.int .i64 p.k,.int .i64 p.o,.int .i64 p.d,.int .i64 p.p,.int .i64 p.el,.int .i64 p.c,.bool p.db,.int .i64 p.pa,.int .u32 p.sg,.int .u32 p.lo,.int .i64 fs,.int .i64 (fb+p.o)]] w2 fun e w'=>e=.returned (.tuple #[.agg #[.int .i64 r.1.k,.int .i64 r.1.sg,.int .i64 r.1.at',.int .i64 r.1.d,.int .i64 r.1.p,.int .i64 r.1.el,.int .i64 r.1.n,.int .i64 r.1.cost],.int .i64 r.2])∧Below w2.heap.size w2 w')) :
  Calls Tryz.prog 33 #[.slice A ls.length c,.int .i64 s,.int .i64 a] w fun e w'=>e=.returned (.tuple #[.agg #[.int .i64 r.1.k,.int .i64 r.1.sg,.int .i64 r.1.at',.int .i64 r.1.d,.int .i64 r.1.p,.int .i64 r.1.el,.int .i64 r.1.n,.int .i64 r.1.cost],.int .i64 r.2])∧Below w.heap.size w w':=by
 have Hs:=Lib.hid hs
 have HT:=Lib.hid hT
 have HIX:=Lib.hid hix
 have HEN:=Lib.hid hen
 clear hs hT hix hen
 go_enter Tryz.func33,Tryz.ntmps33
 go_wp2_with fail
 refine(HFOL.out _ (Hs.out.alloc _)).mono ?_
 rintro e w1 ⟨rfl,hb⟩
 have BO:=(Blk.fresh w #[.int .i64 0,.int .i64 0,.int .i64 0,.int .i64 0,.int .i64 0,.int .i64 0,.int .i64 0,.int .i64 0] 48).below hb
 have HB:Hid (Below w.heap.size w w1):=Lib.hid (((Below.refl _ _).alloc (Nat.le_refl _) _).trans (hb.mono (by simp)))
 clear hb HFOL
 have HO:=Lib.hid BO
 obtain⟨xo,yo,zo⟩:=BO
 go_wp2_with fail
 refine(IsNull_any _ _).mono ?_
 rintro e w' ⟨rfl,rfl⟩
 go_wp2_with fail
 refine(HDEC.out _).mono ?_
 rintro e w2 ⟨rfl,hb⟩
 have BO:=HO.out.below hb
 have hsz:=HB.out.size
 have HB:Hid (Below w.heap.size w w2):=Lib.hid (HB.out.trans (hb.mono hsz))
 clear hb hsz HDEC HO xo yo zo
 have HO:=Lib.hid BO
 obtain⟨xo,yo,zo⟩:=BO
 go_wp2_with fail
 refine abs_codeR (F:=fun W=>Blk W w.heap.size #[.int .i64 0,.int .i64 0,.int .i64 0,.int .i64 0,.int .i64 0,.int .i64 0,.int .i64 0,.int .i64 0]∧Blk W w2.heap.size #[.int .i64 p.k,.int .i64 p.o,.int .i64 p.d,.int .i64 p.p,.int .i64 p.el,.int .i64 p.c,.bool p.db,.int .i64 p.pa,.int .u32 p.sg,.int .u32 p.lo]∧Below w.heap.size w W) ⟨?_,?_,?_⟩ ?_
 ·exact HO.out.alloc _
 ·exact Blk.fresh _ _ _
 ·exact HB.out.alloc HB.out.size _
 rintro W ⟨h6,h12,hb⟩
 generalize w2.heap.size=b12 at *
 clear HO HB xo yo zo
 rename_i KK hKK
 have H6:=Lib.hid h6
 have H12:=Lib.hid h12
 have HB:=Lib.hid hb
 obtain⟨x6,y6,z6⟩:=h6
 obtain⟨x12,y12,z12⟩:=h12
 clear hb
 refine wp_region_t15_2 [] (by kernel_rfl) (by kernel_rfl) ?_
 refine t_call (T:=Is casesV) (Is casesV) 55 [] (by kernel_rfl) rfl (by kernel_rfl) trivial (stable_is _) (free_is _) (fun _ _ h=>h) (fun ρ wc hbc hcn hq=>?_) ?_
 ·obtain⟨hcn,hfn⟩:=hcn
  refine⟨_,by go_simp;rfl,?_⟩
  refine(cases_any _).mono ?_
  rintro e w' ⟨rfl,hbq⟩
  exact⟨_,rfl,rfl,hbq⟩
 refine t_val (u:=?_) [12] (by kernel_rfl) rfl (by kernel_rfl) trivial (fun ρ wc hbc hcn hq=>?_) ?_;rotate_left
 ·obtain⟨hcn,hfn⟩:=hcn
  simp at hq
  go_simp
  rfl
 refine t_val (u:=.int .i64 p.k) [32] (by kernel_rfl) rfl (by kernel_rfl) trivial (fun ρ wc hbc hcn hq=>?_) ?_
 ·obtain⟨hcn,hfn⟩:=hcn
  simp at hq
  obtain⟨hcc,-⟩:=bcell hbc
  simp at hcc
  go_simp
 refine t_val (u:=.func (.func fid) #[] #[]) [31,33] (by kernel_rfl) rfl (by kernel_rfl) trivial (fun ρ wc hbc hcn hq=>?_) ?_
 ·obtain⟨hcn,hfn⟩:=hcn
  simp at hq
  have hix:=HIX.out wc
  go_simp
 refine t_val (u:=?_) [0] (by kernel_rfl) rfl (by kernel_rfl) trivial (fun ρ wc hbc hcn hq=>?_) ?_;rotate_left
 ·obtain⟨hcn,hfn⟩:=hcn
  simp at hq
  go_simp
  rfl
 refine t_val (u:=?_) [12] (by kernel_rfl) rfl (by kernel_rfl) trivial (fun ρ wc hbc hcn hq=>?_) ?_;rotate_left
 ·obtain⟨hcn,hfn⟩:=hcn
  simp at hq
  obtain⟨hcc,-⟩:=bcell hbc
  simp at hcc
  go_simp
  rfl
 refine t_val (u:=?_) [9] (by kernel_rfl) rfl (by kernel_rfl) trivial (fun ρ wc hbc hcn hq=>?_) ?_;rotate_left
 ·obtain⟨hcn,hfn⟩:=hcn
  simp at hq
  go_simp
  rfl
 refine t_val (u:=?_) [10] (by kernel_rfl) rfl (by kernel_rfl) trivial (fun ρ wc hbc hcn hq=>?_) ?_;rotate_left
 ·obtain⟨hcn,hfn⟩:=hcn
  simp at hq
  go_simp
  rfl
 refine t_val (u:=?_) [12] (by kernel_rfl) rfl (by kernel_rfl) trivial (fun ρ wc hbc hcn hq=>?_) ?_;rotate_left
 ·obtain⟨hcn,hfn⟩:=hcn
  simp at hq
  go_simp
  rfl
 refine t_val (u:=.int .i64 p.o) [39] (by kernel_rfl) rfl (by kernel_rfl) trivial (fun ρ wc hbc hcn hq=>?_) ?_
 ·obtain⟨hcn,hfn⟩:=hcn
  simp at hq
  obtain⟨hcc,-⟩:=bcell hbc
  simp at hcc
  go_simp
 refine t_val (u:=.int .i64 (fb+p.o)) [38,40] (by kernel_rfl) rfl (by kernel_rfl) trivial (fun ρ wc hbc hcn hq=>?_) ?_
 ·obtain⟨hcn,hfn⟩:=hcn
  simp at hq
  go_simp
  rw [IntKind.wrap_i64]
  omega
 refine t_val (u:=.agg #[.slice A ls.length c,.int .i64 p.k,.int .i64 p.o,.int .i64 p.d,.int .i64 p.p,.int .i64 p.el,.int .i64 p.c,.bool p.db,.int .i64 p.pa,.int .u32 p.sg,.int .u32 p.lo,.int .i64 fs,.int .i64 (fb+p.o)]) [35,36,37,41] (by kernel_rfl) rfl (by kernel_rfl) trivial (fun ρ wc hbc hcn hq=>?_) ?_
 ·obtain⟨hcn,hfn⟩:=hcn
  simp at hq
  go_simp
 refine t_call (T:=Is (.tuple #[.agg #[.int .i64 r.1.k,.int .i64 r.1.sg,.int .i64 r.1.at',.int .i64 r.1.d,.int .i64 r.1.p,.int .i64 r.1.el,.int .i64 r.1.n,.int .i64 r.1.cost],.int .i64 r.2])) (Is (.tuple #[.agg #[.int .i64 r.1.k,.int .i64 r.1.sg,.int .i64 r.1.at',.int .i64 r.1.d,.int .i64 r.1.p,.int .i64 r.1.el,.int .i64 r.1.n,.int .i64 r.1.cost],.int .i64 r.2])) fid [34,42] (by kernel_rfl) rfl (by kernel_rfl) trivial (stable_is _) (free_is _) (fun _ _ h=>h) (fun ρ wc hbc hcn hq=>?_) ?_
 ·obtain⟨hcn,hfn⟩:=hcn
  simp at hq
  refine⟨#[.agg #[.slice A ls.length c,.int .i64 p.k,.int .i64 p.o,.int .i64 p.d,.int .i64 p.p,.int .i64 p.el,.int .i64 p.c,.bool p.db,.int .i64 p.pa,.int .u32 p.sg,.int .u32 p.lo,.int .i64 fs,.int .i64 (fb+p.o)]],by (have hen:=HEN.out);go_simp;exact hen _ _,?_⟩
  have hbel:Below w.heap.size w wc:=bel_on (bel_drew HB.out) hbc
  refine(HC.out _ (HT.out.on hbel) (Hs.out.below hbel (Nat.le_refl _))).mono ?_
  rintro e w' ⟨rfl,hbq⟩
  exact⟨_,rfl,rfl,hbq⟩
 refine t_val (u:=.agg #[.int .i64 r.1.k,.int .i64 r.1.sg,.int .i64 r.1.at',.int .i64 r.1.d,.int .i64 r.1.p,.int .i64 r.1.el,.int .i64 r.1.n,.int .i64 r.1.cost]) [43] (by kernel_rfl) rfl (by kernel_rfl) trivial (fun ρ wc hbc hcn hq=>?_) ?_
 ·obtain⟨hcn,hfn⟩:=hcn
  simp at hq
  go_simp
 refine t_val (u:=.int .i64 r.2) [43] (by kernel_rfl) rfl (by kernel_rfl) trivial (fun ρ wc hbc hcn hq=>?_) ?_
 ·obtain⟨hcn,hfn⟩:=hcn
  simp at hq
  go_simp
 refine t_end_lit 46 rfl (fun ff w4 hb7 hq=>?_)
 have hb4:Below W.heap.size W w4:=⟨hb7.os,hb7.tape,hb7.output,hb7.size,hb7.block⟩
 have HB4:=Lib.hid (bel_on HB.out hb4)
 have B6:=H6.out.below hb4
 clear hb7 hb4 HB H6 x6 y6 z6 x12 y12 z12
 have HB:=HB4
 clear HB4
 have H6:=Lib.hid B6
 obtain⟨x6,y6,z6⟩:=B6
 simp [AllN] at hq
 simp only [frameL,hq,Nat.zero_add,Nat.reduceAdd]
 clear hq
 go_wp2
 refine⟨rfl,?_⟩
 go_wp2_with fail
 refine abs_post (F:=fun W=>Blk W w.heap.size #[.int .i64 r.1.k,.int .i64 r.1.sg,.int .i64 r.1.at',.int .i64 r.1.d,.int .i64 r.1.p,.int .i64 r.1.el,.int .i64 r.1.n,.int .i64 r.1.cost]∧Below w.heap.size w W) ⟨?_,?_⟩ ?_
 ·exact((((((((H6.out.set 0 (by simp) _).set 1 (by simp) _).set 2 (by simp) _).set 3 (by simp) _).set 4 (by simp) _).set 5 (by simp) _).set 6 (by simp) _).set 7 (by simp) _)
 ·repeat (with_reducible first|exact HB.out|refine bel_drewN ?_ _|refine bel_drew ?_|refine Below.alloc ?_ (by have:=HB.out.size;simp [World.setCell];omega) _|refine Below.setCell ?_ (by first|(simp;done)|(simp;omega)) _)
 rintro V ⟨B6,hbv⟩
 exact bodyPost_ret (v:=.tuple #[.agg #[.int .i64 r.1.k,.int .i64 r.1.sg,.int .i64 r.1.at',.int .i64 r.1.d,.int .i64 r.1.p,.int .i64 r.1.el,.int .i64 r.1.n,.int .i64 r.1.cost],.int .i64 r.2]) (by simp [results,Tryz.results33,go_sem,B6.cell]) rfl ⟨rfl,hbv⟩
set_option maxRecDepth 100000 in
set_option maxHeartbeats 1000000 in
theorem Object_err (A:Option Addr)(c:Nat)(ls:List (List Int))(s a:Int)(q:Fol)(w:World)(hs:Sg w A ls)(hq:q.e≠0)
  (HFOL:Hid (∀w2,Sg w2 A ls→Calls Tryz.prog 52 #[.slice A ls.length c,.int .i64 s,.int .i64 a] w2 fun e w'=>e=.returned (.tuple #[.int .u64 q.w,.int .i64 q.s,.int .i64 q.b,.int .i64 q.e])∧Below w2.heap.size w2 w')) :
  Calls Tryz.prog 33 #[.slice A ls.length c,.int .i64 s,.int .i64 a] w fun e w'=>e=.returned (.tuple #[.agg #[.int .i64 0,.int .i64 0,.int .i64 0,.int .i64 0,.int .i64 0,.int .i64 0,.int .i64 0,.int .i64 0],.int .i64 q.e])∧Below w.heap.size w w':=by
 have Hs:=Lib.hid hs
 have t1:(q.e != 0)=true:=by simpa using hq
 clear hs hq
 go_enter Tryz.func33,Tryz.ntmps33
 go_wp2_with fail
 refine(HFOL.out _ (Hs.out.alloc _)).mono ?_
 rintro e w1 ⟨rfl,hb⟩
 have BO:=(Blk.fresh w #[.int .i64 0,.int .i64 0,.int .i64 0,.int .i64 0,.int .i64 0,.int .i64 0,.int .i64 0,.int .i64 0] 48).below hb
 have HB:Hid (Below w.heap.size w w1):=Lib.hid (((Below.refl _ _).alloc (Nat.le_refl _) _).trans (hb.mono (by simp)))
 clear hb HFOL
 have HO:=Lib.hid BO
 obtain⟨xo,yo,zo⟩:=BO
 go_wp2_with fail
 refine abs_post (F:=fun W=>Blk W w.heap.size #[.int .i64 0,.int .i64 0,.int .i64 0,.int .i64 0,.int .i64 0,.int .i64 0,.int .i64 0,.int .i64 0]∧Below w.heap.size w W) ⟨?_,?_⟩ ?_
 ·exact((((((((HO.out.set 0 (by simp) _).set 1 (by simp) _).set 2 (by simp) _).set 3 (by simp) _).set 4 (by simp) _).set 5 (by simp) _).set 6 (by simp) _).set 7 (by simp) _)
 ·repeat (with_reducible first|exact HB.out|refine bel_drewN ?_ _|refine bel_drew ?_|refine Below.alloc ?_ (by have:=HB.out.size;simp [World.setCell];omega) _|refine Below.setCell ?_ (by first|(simp;done)|(simp;omega)) _)
 rintro V ⟨B6,hbv⟩
 exact bodyPost_ret (v:=.tuple #[.agg #[.int .i64 0,.int .i64 0,.int .i64 0,.int .i64 0,.int .i64 0,.int .i64 0,.int .i64 0,.int .i64 0],.int .i64 q.e]) (by simp [results,Tryz.results33,go_sem,B6.cell]) rfl ⟨rfl,hbv⟩
set_option maxRecDepth 100000 in
set_option maxHeartbeats 1000000 in
theorem Object_nul (A:Option Addr)(c:Nat)(ls:List (List Int))(s a:Int)(q:Fol)(w:World)(hs:Sg w A ls)(hq:q.e=0)(hw:q.w=0)
  (HFOL:Hid (∀w2,Sg w2 A ls→Calls Tryz.prog 52 #[.slice A ls.length c,.int .i64 s,.int .i64 a] w2 fun e w'=>e=.returned (.tuple #[.int .u64 q.w,.int .i64 q.s,.int .i64 q.b,.int .i64 q.e])∧Below w2.heap.size w2 w')) :
  Calls Tryz.prog 33 #[.slice A ls.length c,.int .i64 s,.int .i64 a] w fun e w'=>e=.returned (.tuple #[.agg #[.int .i64 0,.int .i64 0,.int .i64 0,.int .i64 0,.int .i64 0,.int .i64 0,.int .i64 0,.int .i64 0],.int .i64 0])∧Below w.heap.size w w':=by
 have Hs:=Lib.hid hs
 have t1:(q.e != 0)=false:=by simpa using hq
 have t2:(q.w==0)=true:=by simpa using hw
 clear hs hq hw
 go_enter Tryz.func33,Tryz.ntmps33
 go_wp2_with fail
 refine(HFOL.out _ (Hs.out.alloc _)).mono ?_
 rintro e w1 ⟨rfl,hb⟩
 have BO:=(Blk.fresh w #[.int .i64 0,.int .i64 0,.int .i64 0,.int .i64 0,.int .i64 0,.int .i64 0,.int .i64 0,.int .i64 0] 48).below hb
 have HB:Hid (Below w.heap.size w w1):=Lib.hid (((Below.refl _ _).alloc (Nat.le_refl _) _).trans (hb.mono (by simp)))
 clear hb HFOL
 have HO:=Lib.hid BO
 obtain⟨xo,yo,zo⟩:=BO
 go_wp2_with fail
 refine(IsNull_any _ _).mono ?_
 rintro e w' ⟨rfl,rfl⟩
 go_wp2_with fail
 refine abs_post (F:=fun W=>Blk W w.heap.size #[.int .i64 0,.int .i64 0,.int .i64 0,.int .i64 0,.int .i64 0,.int .i64 0,.int .i64 0,.int .i64 0]∧Below w.heap.size w W) ⟨?_,?_⟩ ?_
 ·exact((((((((HO.out.set 0 (by simp) _).set 1 (by simp) _).set 2 (by simp) _).set 3 (by simp) _).set 4 (by simp) _).set 5 (by simp) _).set 6 (by simp) _).set 7 (by simp) _)
 ·repeat (with_reducible first|exact HB.out|refine bel_drewN ?_ _|refine bel_drew ?_|refine Below.alloc ?_ (by have:=HB.out.size;simp [World.setCell];omega) _|refine Below.setCell ?_ (by first|(simp;done)|(simp;omega)) _)
 rintro V ⟨B6,hbv⟩
 exact bodyPost_ret (v:=.tuple #[.agg #[.int .i64 0,.int .i64 0,.int .i64 0,.int .i64 0,.int .i64 0,.int .i64 0,.int .i64 0,.int .i64 0],.int .i64 0]) (by simp [results,Tryz.results33,go_sem,B6.cell]) rfl ⟨rfl,hbv⟩
theorem RObject_any (A:Option Addr)(c:Nat)(ls:List (List Int))(s a:Int)(w:World)(hT:TabOK w)(hs:Sg w A ls)(hw:Wd2 ls)(hm:ls.length≤140737488355328)(hf:∀j,(seg ls j).length≤140737488355328)
  (hs0:-9223372036854775808≤s) (hs1:s≤9223372036854775807) (ha0:-9223372036854775808≤a) (ha1:a≤9223372036854775807) :
  Calls Tryz.prog 33 #[.slice A ls.length c,.int .i64 s,.int .i64 a] w fun e w'=>e=.returned (.tuple #[.agg #[.int .i64 (objF ls s a).1.k,.int .i64 (objF ls s a).1.sg,.int .i64 (objF ls s a).1.at',.int .i64 (objF ls s a).1.d,.int .i64 (objF ls s a).1.p,.int .i64 (objF ls s a).1.el,.int .i64 (objF ls s a).1.n,.int .i64 (objF ls s a).1.cost],.int .i64 (objF ls s a).2])∧Below w.heap.size w w':=by
 have HFOL:=Lib.hid (fun w2 hs2=>FFollow_any A c ls s a w2 hs2 hw hm hf hs0 hs1 ha0 ha1)
 have hbd:=followF_bd hw hm hf s a
 have hfc:=folR_cases hw s a
 have hpd:=decP_bd (followF ls s a).w hbd.1 hbd.2.1
 have hpk:=decP_k (followF ls s a).w hbd.1
 have HDEC:=Lib.hid (fun w2=>Decode_any (followF ls s a).w w2 hbd.1 hbd.2.1)
 have HOF:Hid (objF ls s a=if (followF ls s a).e≠0∨(followF ls s a).w=0 then (ob0,(followF ls s a).e) else objP ls (decP (followF ls s a).w) (followF ls s a).s (followF ls s a).b):=Lib.hid rfl
 generalize followF ls s a=q at *
 by_cases he:q.e=0
 ·by_cases h0:q.w=0
  ·have hr:=HOF.out
   rw [if_pos (Or.inr h0)] at hr
   rw [hr,he]
   exact Object_nul A c ls s a q w hs he h0 HFOL
  ·have hr:=HOF.out
   rw [if_neg (by rintro(h|h);exact h he;exact h0 h)] at hr
   rw [hr]
   have hne:q.w % 4≠2:=by rcases hfc with ⟨h,_⟩|⟨_,h,_⟩<;>omega
   have hb0:(q.w==0)=false:=by simpa using h0
   obtain⟨qw,qs,qb,qe⟩:=q
   simp only at he hr hne hb0 hpk hpd hbd HFOL HDEC ⊢
   subst he
   generalize decP qw=p at *
   have hk:p.k=0∨p.k=1∨p.k=3:=by omega
   rcases hk with hk|hk|hk
   ·have hr2:objP ls p qs qb=strR ls p.d p.p qs (qb+p.o):=by
     unfold objP strR
     rw [if_neg (by omega),if_pos hk]
    rw [hr2]
    refine Object_tail A c ls s a qw qs qb p 79 _ w hT hs HFOL HDEC hb0 (by omega) (by omega) (by omega) (by omega) (by rw [hk];exact cases0) enter0 (Lib.hid fun w2 hT2 hs2=>?_)
    exact case0_any A c ls p.k p.o p.d p.p p.el p.c p.pa p.sg p.lo qs (qb+p.o) p.db w2 hT2 (by omega) (by omega) (by omega) (by omega) hs2 hw hm hf (by omega) (by omega) (by omega) (by omega)
   ·by_cases h7:p.el=7
    ·have hr2:objP ls p qs qb=cmpR ls p.c qs (qb+p.o):=by
      unfold objP cmpR
      rw [if_neg (by omega),if_neg (by omega),h7]
      cases inB ls qs (qb+p.o) (wordsI 7 p.c)<;>simp
     rw [hr2]
     refine Object_tail A c ls s a qw qs qb p 81 _ w hT hs HFOL HDEC hb0 (by omega) (by omega) (by omega) (by omega) (by rw [hk];exact cases1) enter1 (Lib.hid fun w2 hT2 hs2=>?_)
     exact case1c_any A c ls p.k p.o p.d p.p p.el p.c p.pa p.sg p.lo qs (qb+p.o) p.db w2 hT2 h7 (by omega) (by omega) hs2 hw hm hf (by omega) (by omega) (by omega) (by omega)
    ·have hr2:objP ls p qs qb=lstR ls p.el p.c qs (qb+p.o):=by
      unfold objP lstR
      rw [if_neg (by omega),if_neg (by omega),if_neg h7]
      cases inB ls qs (qb+p.o) (wordsI p.el p.c)<;>simp
     rw [hr2]
     refine Object_tail A c ls s a qw qs qb p 81 _ w hT hs HFOL HDEC hb0 (by omega) (by omega) (by omega) (by omega) (by rw [hk];exact cases1) enter1 (Lib.hid fun w2 hT2 hs2=>?_)
     exact case1l_any A c ls p.k p.o p.d p.p p.el p.c p.pa p.sg p.lo qs (qb+p.o) p.db w2 hT2 h7 (by omega) (by omega) (by omega) (by omega) hs2 hw hm hf (by omega) (by omega) (by omega) (by omega)
   ·have hr2:objP ls p qs qb=othR p.lo:=by
     unfold objP othR
     rw [if_pos hk]
    rw [hr2]
    refine Object_tail A c ls s a qw qs qb p 84 _ w hT hs HFOL HDEC hb0 (by omega) (by omega) (by omega) (by omega) (by rw [hk];exact cases3) enter3 (Lib.hid fun w2 hT2 hs2=>?_)
    exact case3_any A c ls p.k p.o p.d p.p p.el p.c p.pa p.sg p.lo qs (qb+p.o) p.db w2 hk
 ·have hr:=HOF.out
  rw [if_pos (Or.inl he)] at hr
  rw [hr]
  exact Object_err A c ls s a q w hs he HFOL
set_option maxRecDepth 100000 in
theorem RElement_any (k sg at' d p el n cost i:Int)(w:World)(h0:0≤i)(h1:i≤536870911)(h2:0≤at')(h3:at'≤281474976710656)(h4:0≤d)(h5:d≤65535)(h6:0≤p)(h7:p≤65535):
  Calls Tryz.prog 45 #[.agg #[.int .i64 k,.int .i64 sg,.int .i64 at',.int .i64 d,.int .i64 p,.int .i64 el,.int .i64 n,.int .i64 cost],.int .i64 i] w fun e w'=>e=.returned (.agg #[.int .i64 1,.int .i64 sg,.int .i64 (at'+i*(d+p)),.int .i64 d,.int .i64 p,.int .i64 0,.int .i64 0,.int .i64 0])∧Below w.heap.size w w':=by
 have m0:0≤i*(d+p):=Int.mul_nonneg (by omega) (by omega)
 have m1:i*(d+p)≤536870911*131070:=Int.mul_le_mul (by omega) (by omega) (by omega) (by omega)
 go_enter Tryz.func45,Tryz.ntmps45
 go_wp2_with fail
 refine abs_post (F:=fun W=>Blk W (w.heap.size+1) #[.int .i64 1,.int .i64 sg,.int .i64 (at'+i*(d+p)),.int .i64 d,.int .i64 p,.int .i64 0,.int .i64 0,.int .i64 0]∧Below w.heap.size w W) ⟨?_,?_⟩ ?_
 ·have h:=(Blk.fresh (w.alloc (.cells #[.int .i64 k,.int .i64 sg,.int .i64 at',.int .i64 d,.int .i64 p,.int .i64 el,.int .i64 n,.int .i64 cost] 48)) #[.int .i64 1,.int .i64 sg,.int .i64 (at'+i*(d+p)),.int .i64 d,.int .i64 p,.int .i64 0,.int .i64 0,.int .i64 0] 48)
  simpa using h
 ·exact((Below.refl _ _).alloc (Nat.le_refl _) _).alloc (by simp) _
 rintro V ⟨B6,hbv⟩
 exact bodyPost_ret (v:=.agg #[.int .i64 1,.int .i64 sg,.int .i64 (at'+i*(d+p)),.int .i64 d,.int .i64 p,.int .i64 0,.int .i64 0,.int .i64 0]) (by simp [results,Tryz.results45,go_sem,B6.cell]) rfl ⟨rfl,hbv⟩
set_option maxRecDepth 100000 in
theorem RPointers_any (k sg at' d p el n cost:Int)(w:World)(h1:0≤at')(h2:at'≤281474976710656)(h3:0≤d)(h4:d≤65535):
  Calls Tryz.prog 47 #[.agg #[.int .i64 k,.int .i64 sg,.int .i64 at',.int .i64 d,.int .i64 p,.int .i64 el,.int .i64 n,.int .i64 cost]] w fun e w'=>e=.returned (.tuple #[.int .i64 (ptrO ⟨k,sg,at',d,p,el,n,cost⟩).1,.int .i64 (ptrO ⟨k,sg,at',d,p,el,n,cost⟩).2])∧Below w.heap.size w w':=by
 by_cases k1:k=1
 ·by_cases hp:0<p
  ·have HP:Hid (ptrO ⟨k,sg,at',d,p,el,n,cost⟩=(at'+d,p)):=Lib.hid (by unfold ptrO;rw [if_pos ⟨k1,hp⟩])
   subst k1
   rw [HP.out]
   clear HP
   go_enter Tryz.func47,Tryz.ntmps47
   go_wp2
   go_quiet (fail)
   go_wp2
   go_ret2
   exact⟨rfl,bel_drewN ((Below.refl _ _).alloc (Nat.le_refl _) _) _⟩
  ·have HP:Hid (ptrO ⟨k,sg,at',d,p,el,n,cost⟩=(0,0)):=Lib.hid (by unfold ptrO;rw [if_neg (fun h=>hp h.2),if_neg (fun h=>by have:=h.1;simp only at this;omega)])
   subst k1
   rw [HP.out]
   clear HP
   go_enter Tryz.func47,Tryz.ntmps47
   go_wp2
   go_ret2
   exact⟨rfl,(Below.refl _ _).alloc (Nat.le_refl _) _⟩
 ·have t1:(k==1)=false:=by simpa using k1
  by_cases k2:k=2
  ·by_cases e6:el=6
   ·by_cases hn:0<n
    ·have HP:Hid (ptrO ⟨k,sg,at',d,p,el,n,cost⟩=(at',n)):=Lib.hid (by unfold ptrO;rw [if_neg (fun h=>k1 h.1),if_pos ⟨k2,e6,hn⟩])
     clear t1 k1
     subst k2 e6
     rw [HP.out]
     clear HP
     go_enter Tryz.func47,Tryz.ntmps47
     go_wp2
     go_quiet (fail)
     go_wp2
     go_ret2
     exact⟨rfl,bel_drewN ((Below.refl _ _).alloc (Nat.le_refl _) _) _⟩
    ·have HP:Hid (ptrO ⟨k,sg,at',d,p,el,n,cost⟩=(0,0)):=Lib.hid (by unfold ptrO;rw [if_neg (fun h=>k1 h.1),if_neg (fun h=>hn h.2.2)])
     clear t1 k1
     subst k2 e6
     rw [HP.out]
     clear HP
     go_enter Tryz.func47,Tryz.ntmps47
     go_wp2
     go_ret2
     exact⟨rfl,(Below.refl _ _).alloc (Nat.le_refl _) _⟩
   ·have HP:Hid (ptrO ⟨k,sg,at',d,p,el,n,cost⟩=(0,0)):=Lib.hid (by unfold ptrO;rw [if_neg (fun h=>k1 h.1),if_neg (fun h=>e6 h.2.1)])
    have t3:(el==6)=false:=by simpa using e6
    clear t1 k1 e6
    subst k2
    rw [HP.out]
    clear HP
    go_enter Tryz.func47,Tryz.ntmps47
    go_wp2
    go_ret2
    exact⟨rfl,(Below.refl _ _).alloc (Nat.le_refl _) _⟩
  ·have HP:Hid (ptrO ⟨k,sg,at',d,p,el,n,cost⟩=(0,0)):=Lib.hid (by unfold ptrO;rw [if_neg (fun h=>k1 h.1),if_neg (fun h=>k2 h.1)])
   have t2:(k==2)=false:=by simpa using k2
   clear k1 k2
   rw [HP.out]
   clear HP
   go_enter Tryz.func47,Tryz.ntmps47
   go_wp2
   go_ret2
   exact⟨rfl,(Below.refl _ _).alloc (Nat.le_refl _) _⟩
theorem RObject_is (A:Option Addr)(c:Nat)(ls:List (List Int))(s a k sg at' d p el n cost e0:Int)(w:World)(hT:TabOK w)(hs:Sg w A ls)(hw:Wd2 ls)(hm:ls.length≤140737488355328)(hf:∀j,(seg ls j).length≤140737488355328)
  (hs0:-9223372036854775808≤s) (hs1:s≤9223372036854775807) (ha0:-9223372036854775808≤a) (ha1:a≤9223372036854775807) (hq:objF ls s a=(⟨k,sg,at',d,p,el,n,cost⟩,e0)) :
  Calls Tryz.prog 33 #[.slice A ls.length c,.int .i64 s,.int .i64 a] w fun e w'=>e=.returned (.tuple #[.agg #[.int .i64 k,.int .i64 sg,.int .i64 at',.int .i64 d,.int .i64 p,.int .i64 el,.int .i64 n,.int .i64 cost],.int .i64 e0])∧Below w.heap.size w w':=by
 have h:=RObject_any A c ls s a w hT hs hw hm hf hs0 hs1 ha0 ha1
 rw [hq] at h
 exact h
theorem RPointers_is (k sg at' d p el n cost x y:Int)(w:World)(h1:0≤at')(h2:at'≤281474976710656)(h3:0≤d)(h4:d≤65535)(hp:ptrO ⟨k,sg,at',d,p,el,n,cost⟩=(x,y)):
  Calls Tryz.prog 47 #[.agg #[.int .i64 k,.int .i64 sg,.int .i64 at',.int .i64 d,.int .i64 p,.int .i64 el,.int .i64 n,.int .i64 cost]] w fun e w'=>e=.returned (.tuple #[.int .i64 x,.int .i64 y])∧Below w.heap.size w w':=by
 have h:=RPointers_any k sg at' d p el n cost w h1 h2 h3 h4
 rw [hp] at h
 exact h
theorem RObject_at (A:Option Addr)(c m:Nat)(ls:List (List Int))(s a k sg at' d p el n cost e0:Int)(w:World)(hT:TabOK w)(hl:m=ls.length)(hs:Sg w A ls)(hw:Wd2 ls)(hm:ls.length≤140737488355328)(hf:∀j,(seg ls j).length≤140737488355328)
  (hs0:-9223372036854775808≤s) (hs1:s≤9223372036854775807) (ha0:-9223372036854775808≤a) (ha1:a≤9223372036854775807) (hq:objF ls s a=(⟨k,sg,at',d,p,el,n,cost⟩,e0)) :
  Calls Tryz.prog 33 #[.slice A m c,.int .i64 s,.int .i64 a] w fun e w'=>e=.returned (.tuple #[.agg #[.int .i64 k,.int .i64 sg,.int .i64 at',.int .i64 d,.int .i64 p,.int .i64 el,.int .i64 n,.int .i64 cost],.int .i64 e0])∧Below w.heap.size w w':=by
 subst hl
 exact RObject_is A c ls s a k sg at' d p el n cost e0 w hT hs hw hm hf hs0 hs1 ha0 ha1 hq
end
section
attribute [local simp] AllK KnowsV look Is
structure EnvQ (A:Option Addr) (ls:List (List Int)) (w:World):Prop where
 sg:Sg w A ls
 tab:TabOK w
 wd:Wd2 ls
 m:ls.length≤40
 f:∀j,(seg ls j).length≤20000000
theorem EnvQ.on {A:Option Addr}{ls:List (List Int)}{w w':World}(h:EnvQ A ls w)(hb:Below w.heap.size w w'):EnvQ A ls w':=⟨h.sg.below hb (Nat.le_refl _),h.tab.below hb (Nat.le_refl _),h.wd,h.m,h.f⟩
structure ObQ (o:Ob):Prop where
 k:0≤o.k∧o.k≤2
 sg:0≤o.sg∧o.sg≤40
 at':0≤o.at'∧o.at'≤100000000000
 d:0≤o.d∧o.d≤65535
 p:0≤o.p∧o.p≤65535
 el:0≤o.el∧o.el≤7
 n:0≤o.n∧o.n≤536870911
theorem obQ0:ObQ ob0:=by constructor<;>decide
theorem ObjOk.q {ls:List (List Int)}(hw:Wd2 ls)(hm:ls.length≤40)(hf:∀j,(seg ls j).length≤20000000){r:Nat}{o:Ob}{X:Nd}(h:ObjOk ls r o X):ObQ o:=by
 rcases h with ⟨rfl,-⟩|⟨-,-,h,-⟩
 ·exact obQ0
 ·have:=located hw hm hf h
  constructor<;>omega
theorem Edata_any (A:Option Addr)(c n:Nat)(ls:List (List Int))(k sg at' d p el m cost:Int)(w:World)(E:EnvQ A ls w)(hn:ls.length=n)(h1:0≤sg∧sg≤40)(h2:0≤at'∧at'≤100000000000)(h3:0≤d∧d≤65535):
  Calls Tryz.prog 46 #[.slice A n c,.agg #[.int .i64 k,.int .i64 sg,.int .i64 at',.int .i64 d,.int .i64 p,.int .i64 el,.int .i64 m,.int .i64 cost]] w fun r w'=>∃v,r=.returned v∧Got w' w.heap.size 39 .u64 v (datW ls sg at' d)∧Below w.heap.size w w':=by
 subst hn
 have HB1:=Lib.hid ((Below.refl w.heap.size w).alloc (Nat.le_refl _) (.cells #[.int .i64 k,.int .i64 sg,.int .i64 at',.int .i64 d,.int .i64 p,.int .i64 el,.int .i64 m,.int .i64 cost] 48))
 have HSL:=Lib.hid (ASlice_any A c ls sg at' d _ (E.on HB1.out).sg (by have:=E.m;omega) (fun j=>by have:=E.f j;omega) (by omega) (by omega) (by omega) (by omega) (by omega) (by omega))
 clear E h1 h2 h3
 go_enter Tryz.func46,Tryz.ntmps46
 go_wp2_with fail
 refine HSL.out.mono ?_
 rintro r w1 ⟨v,rfl,hg,hb1⟩
 have HG:=Lib.hid (hg.mono (show w.heap.size≤_ by simp))
 have HB2:=Lib.hid (bel_on HB1.out hb1)
 clear hg hb1 HSL
 go_wp2
 go_ret
 exact⟨v,rfl,HG.out,HB2.out⟩
set_option maxHeartbeats 2000000 in
theorem Eobject_any (A:Option Addr)(c n:Nat)(ls:List (List Int))(s a k sg at' d p el m cost e0:Int)(w:World)(E:EnvQ A ls w)(hn:ls.length=n)(h1:0≤s∧s≤40)(h2:0≤a∧a≤1000000000000)(hq:objF ls s a=(⟨k,sg,at',d,p,el,m,cost⟩,e0)):
  Calls Tryz.prog 16 #[.slice A n c,.int .i64 s,.int .i64 a] w fun r w'=>r=.returned (.agg #[.int .i64 k,.int .i64 sg,.int .i64 at',.int .i64 d,.int .i64 p,.int .i64 el,.int .i64 m,.int .i64 cost])∧Below w.heap.size w w':=by
 have HB1:=Lib.hid ((Below.refl w.heap.size w).alloc (Nat.le_refl _) (.cells #[.int .i64 0,.int .i64 0,.int .i64 0,.int .i64 0,.int .i64 0,.int .i64 0,.int .i64 0,.int .i64 0] 48))
 have HO1:=Lib.hid (Blk.fresh w #[.int .i64 0,.int .i64 0,.int .i64 0,.int .i64 0,.int .i64 0,.int .i64 0,.int .i64 0,.int .i64 0] 48)
 have HC:=Lib.hid (RObject_at A c n ls s a k sg at' d p el m cost e0 _ (E.on HB1.out).tab hn.symm (E.on HB1.out).sg E.wd (by have:=E.m;omega) (fun j=>by have:=E.f j;omega) (by omega) (by omega) (by omega) (by omega) hq)
 clear E h1 h2 hq
 go_enter Tryz.func16,Tryz.ntmps16
 go_wp2_with fail
 refine HC.out.mono ?_
 rintro r w1 ⟨rfl,hb1⟩
 have HO2:=Lib.hid ((HO1.out.below hb1).alloc (.cells #[.int .i64 k,.int .i64 sg,.int .i64 at',.int .i64 d,.int .i64 p,.int .i64 el,.int .i64 m,.int .i64 cost] 48))
 have HB2:=Lib.hid ((bel_on HB1.out hb1).alloc (bel_on HB1.out hb1).size (.cells #[.int .i64 k,.int .i64 sg,.int .i64 at',.int .i64 d,.int .i64 p,.int .i64 el,.int .i64 m,.int .i64 cost] 48))
 clear HC HO1 HB1 hb1
 obtain⟨x1,y1,z1⟩:=HO2.out
 go_wp2_with fail
 refine abs_post (F:=fun W=>Blk W w.heap.size #[.int .i64 k,.int .i64 sg,.int .i64 at',.int .i64 d,.int .i64 p,.int .i64 el,.int .i64 m,.int .i64 cost]∧Below w.heap.size w W) ⟨?_,?_⟩ ?_
 ·exact((((((((HO2.out.set 0 (by simp) _).set 1 (by simp) _).set 2 (by simp) _).set 3 (by simp) _).set 4 (by simp) _).set 5 (by simp) _).set 6 (by simp) _).set 7 (by simp) _)
 ·repeat (with_reducible first|exact HB2.out|refine Below.setCell ?_ (by simp) _)
 rintro V ⟨B6,hbv⟩
 exact bodyPost_ret (v:=.agg #[.int .i64 k,.int .i64 sg,.int .i64 at',.int .i64 d,.int .i64 p,.int .i64 el,.int .i64 m,.int .i64 cost]) (by simp [results,Tryz.results16,go_sem,B6.cell]) rfl ⟨rfl,hbv⟩
end
section
attribute [local simp] AllK KnowsV look Is
set_option maxHeartbeats 2000000 in
theorem Ekid_core (A:Option Addr)(c n:Nat)(ls:List (List Int))(k sg at' d p el m cost x y i:Int)(v:Ob)(w:World)(E:EnvQ A ls w)(hn:ls.length=n)(h1:0≤sg∧sg≤40)(h2:0≤at'∧at'≤100000000000)(h3:0≤d∧d≤65535)(h4:0≤i∧i≤1000000000)(hp:ptrO ⟨k,sg,at',d,p,el,m,cost⟩=(x,y))(hx:0≤x∧x≤200000000000)
  (hv:if y≤i then v=ob0 else ∃e0,objF ls sg (x+i)=(v,e0)) :
  Calls Tryz.prog 48 #[.slice A n c,.agg #[.int .i64 k,.int .i64 sg,.int .i64 at',.int .i64 d,.int .i64 p,.int .i64 el,.int .i64 m,.int .i64 cost],.int .i64 i] w fun r w'=>r=.returned (.agg #[.int .i64 v.k,.int .i64 v.sg,.int .i64 v.at',.int .i64 v.d,.int .i64 v.p,.int .i64 v.el,.int .i64 v.n,.int .i64 v.cost])∧Below w.heap.size w w':=by
 have HB1:=Lib.hid (((Below.refl w.heap.size w).alloc (Nat.le_refl _) (.cells #[.int .i64 k,.int .i64 sg,.int .i64 at',.int .i64 d,.int .i64 p,.int .i64 el,.int .i64 m,.int .i64 cost] 48)).alloc (by simp) (.cells #[.int .i64 0,.int .i64 0,.int .i64 0,.int .i64 0,.int .i64 0,.int .i64 0,.int .i64 0,.int .i64 0] 48))
 have HX1:=Lib.hid ((Blk.fresh w #[.int .i64 k,.int .i64 sg,.int .i64 at',.int .i64 d,.int .i64 p,.int .i64 el,.int .i64 m,.int .i64 cost] 48).alloc (.cells #[.int .i64 0,.int .i64 0,.int .i64 0,.int .i64 0,.int .i64 0,.int .i64 0,.int .i64 0,.int .i64 0] 48))
 have HO1:Hid (Blk ((w.alloc (.cells #[.int .i64 k,.int .i64 sg,.int .i64 at',.int .i64 d,.int .i64 p,.int .i64 el,.int .i64 m,.int .i64 cost] 48)).alloc (.cells #[.int .i64 0,.int .i64 0,.int .i64 0,.int .i64 0,.int .i64 0,.int .i64 0,.int .i64 0,.int .i64 0] 48)) (w.heap.size+1) #[.int .i64 0,.int .i64 0,.int .i64 0,.int .i64 0,.int .i64 0,.int .i64 0,.int .i64 0,.int .i64 0]):=Lib.hid (Blk.new (by simp))
 have HE:=Lib.hid E
 have HP:=Lib.hid (fun w2=>RPointers_is k sg at' d p el m cost x y w2 (by omega) (by omega) (by omega) (by omega) hp)
 have HV:=Lib.hid hv
 clear E hp hv
 go_enter Tryz.func48,Tryz.ntmps48
 go_wp2_with fail
 refine(HP.out _).mono ?_
 rintro r w1 ⟨rfl,hb1⟩
 have HB2:=Lib.hid (bel_on HB1.out hb1)
 have HX2:=Lib.hid (HX1.out.below hb1)
 have HO2:=Lib.hid (HO1.out.below hb1)
 clear hb1 HP HX1 HO1 HB1
 by_cases hi:y≤i
 ·have t1:decide (y≤i)=true:=decide_eq_true hi
  have hv:v=ob0:=by have:=HV.out;rw [if_pos hi] at this;exact this
  subst hv
  clear HV hi
  obtain⟨x1,y1,z1⟩:=HO2.out
  go_wp2_with fail
  refine abs_post (F:=fun W=>Blk W (w.heap.size+1) #[.int .i64 0,.int .i64 0,.int .i64 0,.int .i64 0,.int .i64 0,.int .i64 0,.int .i64 0,.int .i64 0]∧Below w.heap.size w W) ⟨?_,?_⟩ ?_
  ·exact((((((((HO2.out.set 0 (by simp) _).set 1 (by simp) _).set 2 (by simp) _).set 3 (by simp) _).set 4 (by simp) _).set 5 (by simp) _).set 6 (by simp) _).set 7 (by simp) _)
  ·repeat (with_reducible first|exact HB2.out|refine Below.setCell ?_ (by simp) _)
  rintro V ⟨B6,hbv⟩
  exact bodyPost_ret (v:=.agg #[.int .i64 0,.int .i64 0,.int .i64 0,.int .i64 0,.int .i64 0,.int .i64 0,.int .i64 0,.int .i64 0]) (by simp [results,Tryz.results48,go_sem,B6.cell]) rfl ⟨rfl,hbv⟩
 ·have t1:decide (y≤i)=false:=decide_eq_false hi
  obtain⟨e0,hq⟩:∃e0,objF ls sg (x+i)=(v,e0):=by have:=HV.out;rw [if_neg hi] at this;exact this
  obtain⟨k',sg',at'',d',p',el',m',cost'⟩:=v
  have HC:=Lib.hid (Eobject_any A c n ls sg (x+i) k' sg' at'' d' p' el' m' cost' e0 w1 (HE.out.on HB2.out) hn (by omega) (by omega) hq)
  clear HV hi hq
  obtain⟨x1,y1,z1⟩:=HX2.out
  go_wp2_with fail
  refine HC.out.mono ?_
  rintro r w2 ⟨rfl,hb2⟩
  have HB3:=Lib.hid (bel_on HB2.out hb2)
  have HO3:=Lib.hid (HO2.out.below hb2)
  clear hb2 x1 y1 z1 HB2 HX2 HO2 HC
  obtain⟨x1,y1,z1⟩:=HO3.out
  go_wp2_with fail
  refine abs_post (F:=fun W=>Blk W (w.heap.size+1) #[.int .i64 k',.int .i64 sg',.int .i64 at'',.int .i64 d',.int .i64 p',.int .i64 el',.int .i64 m',.int .i64 cost']∧Below w.heap.size w W) ⟨?_,?_⟩ ?_
  ·exact((((((((HO3.out.set 0 (by simp) _).set 1 (by simp) _).set 2 (by simp) _).set 3 (by simp) _).set 4 (by simp) _).set 5 (by simp) _).set 6 (by simp) _).set 7 (by simp) _)
  ·repeat (with_reducible first|exact HB3.out|refine Below.setCell ?_ (by simp) _)
  rintro V ⟨B6,hbv⟩
  exact bodyPost_ret (v:=.agg #[.int .i64 k',.int .i64 sg',.int .i64 at'',.int .i64 d',.int .i64 p',.int .i64 el',.int .i64 m',.int .i64 cost']) (by simp [results,Tryz.results48,go_sem,B6.cell]) rfl ⟨rfl,hbv⟩
theorem Eelements_any (A:Option Addr)(c n:Nat)(ls:List (List Int))(k sg at' d p el m cost i u:Int)(w:World)(E:EnvQ A ls w)(hn:ls.length=n)(h1:0≤sg∧sg≤40)(h2:0≤at'∧at'≤100000000000)(h4:0≤i∧i≤1000000000)(h5:1≤u∧u≤64):
  Calls Tryz.prog 51 #[.slice A n c,.agg #[.int .i64 k,.int .i64 sg,.int .i64 at',.int .i64 d,.int .i64 p,.int .i64 el,.int .i64 m,.int .i64 cost],.int .i64 i,.int .i64 u] w fun r w'=>r=.returned (.int .u64 (fld (wordV ls sg (at'+i)) 0 u))∧Below w.heap.size w w':=by
 subst hn
 have HB1:=Lib.hid ((Below.refl w.heap.size w).alloc (Nat.le_refl _) (.cells #[.int .i64 k,.int .i64 sg,.int .i64 at',.int .i64 d,.int .i64 p,.int .i64 el,.int .i64 m,.int .i64 cost] 48))
 have HW:=Lib.hid (AWord_any A c ls sg (at'+i) _ (E.on HB1.out).sg (by have:=E.m;omega) (fun j=>by have:=E.f j;omega) (by omega) (by omega) (by omega) (by omega))
 have hbd:=wordV_bd E.wd sg (at'+i)
 have HF:=Lib.hid (fun w2=>Field_any (wordV ls sg (at'+i)) 0 u w2 h5.1 (by omega) (by omega) hbd.1 hbd.2)
 clear E h1 hbd h5
 generalize wordV ls sg (at'+i)=z at *
 generalize hasB ls sg (at'+i)=hb at *
 generalize fld z 0 u=y at *
 go_enter Tryz.func51,Tryz.ntmps51
 go_wp2_with fail
 refine HW.out.mono ?_
 rintro r w1 ⟨rfl,rfl⟩
 go_wp2_with fail
 refine(HF.out _).mono ?_
 rintro r w1 ⟨rfl,rfl⟩
 go_wp2
 go_ret
 exact⟨rfl,HB1.out⟩
end
end Go.Proofs.YtfaflahfjgnphaaGreatDoor
