/- The texts Resolve (what is wanted of them), one after the other. -/
import Derived.Test.YtfaflahfjgnphaaDoorMg8
import Derived.Test.YtfaflahfjgnphaaDoorMg23
import Derived.Test.YtfaflahfjgnphaaDoorMg25
namespace Go.Proofs.YtfaflahfjgnphaaDoor
open Go.ChangeShapes Go.WideShapes Go.ChangeAt Go.RowKit
set_option linter.unusedVariables false
set_option linter.unusedSimpArgs false
set_option maxRecDepth 100000
section
theorem folR_cases {ls:List (List Int)}(hw:Wd2 ls)(s a:Int):
  (((followF ls s a).e=2∨(followF ls s a).e=3)∧(followF ls s a).w=0∧(followF ls s a).s=0∧(followF ls s a).b=0) ∨
  ((followF ls s a).e=0∧(followF ls s a).w % 4≠2∧hasB ls s a=true∧(wordV ls s a % 4=2∨((followF ls s a).w=wordV ls s a∧(followF ls s a).s=s∧(followF ls s a).b=a+1))):=by
 unfold followF
 by_cases h1:hasB ls s a=false
 ·rw [if_pos h1];exact .inl ⟨.inl rfl,rfl,rfl,rfl⟩
 rw [if_neg h1]
 have h1':hasB ls s a=true:=by simpa using h1
 by_cases h2:(wordV ls s a % 4==2)=false
 ·rw [if_pos h2]
  refine .inr ⟨rfl,?_,h1',.inr ⟨rfl,rfl,rfl⟩⟩
  simpa using h2
 rw [if_neg h2]
 have h2':wordV ls s a % 4=2:=by simpa using h2
 by_cases h3:hasB ls (wordV ls s a / 4294967296) (wordV ls s a % 4294967296 / 8)=false
 ·rw [if_pos h3];exact .inl ⟨.inl rfl,rfl,rfl,rfl⟩
 rw [if_neg h3]
 by_cases h4:wordV ls s a / 4 % 2=0
 ·rw [if_pos h4]
  by_cases h5:(wordV ls (wordV ls s a / 4294967296) (wordV ls s a % 4294967296 / 8) % 4==2)=true
  ·rw [if_pos h5];exact .inl ⟨.inr rfl,rfl,rfl,rfl⟩
  ·rw [if_neg h5]
   refine .inr ⟨rfl,?_,h1',.inl h2'⟩
   simpa using h5
 rw [if_neg h4]
 by_cases h6:hasB ls (wordV ls s a / 4294967296) (wordV ls s a % 4294967296 / 8+1)=false
 ·rw [if_pos h6];exact .inl ⟨.inl rfl,rfl,rfl,rfl⟩
 rw [if_neg h6]
 split
 ·exact .inl ⟨.inr rfl,rfl,rfl,rfl⟩
 ·rename_i h7
  refine .inr ⟨rfl,?_,h1',.inl h2'⟩
  have b2:=(wordV_bd hw (wordV ls s a / 4294967296) (wordV ls s a % 4294967296 / 8+1)).1
  have h8:¬1<(decP (wordV ls (wordV ls s a / 4294967296) (wordV ls s a % 4294967296 / 8+1))).k:=fun h=>h7 (.inr (.inr (.inl h)))
  rw [decP_k _ b2] at h8
  show wordV ls (wordV ls s a / 4294967296) (wordV ls s a % 4294967296 / 8+1) % 4≠2
  omega
theorem abs_codeR {P:Program}{C:Code}{Q:Exit→Act→World→Prop}{a:Act}{V:World}(F:World→Prop)(hF:F V)(h:∀W,F W→C.wp P Q a W):C.wp P Q a V:=h V hF
def CasesAt (k:Int)(f:FuncId):Prop:=∀w,(Instr.index 82 casesV (.int .i64 k)).run Tryd.prog w=.ok (.func (.func f) #[] #[]) w
def Entered (f:FuncId):Prop:=∀args w,(callFunc f args).run Tryd.prog w=.ok (.enter f args) w
theorem enter0:Entered 56:=fun args w=>by rfl
theorem enter1:Entered 58:=fun args w=>by rfl
theorem enter3:Entered 61:=fun args w=>by rfl
theorem cases0:CasesAt 0 56:=fun w=>by kernel_rfl
theorem cases1:CasesAt 1 58:=fun w=>by kernel_rfl
theorem cases3:CasesAt 3 61:=fun w=>by kernel_rfl
attribute [local irreducible] casesV
attribute [local simp] AllK KnowsV look Is
set_option maxRecDepth 100000 in
set_option maxHeartbeats 4000000 in
theorem Object_tail (A:Option Addr)(c:Nat)(ls:List (List Int))(s a:Int)(fw fs fb:Int)(p:Ptr)(fid:FuncId)(r:Ob×Int)(w:World)(hT:TabOK w)(hs:Sg w A ls)
  (HFOL:Hid (∀w2,Sg w2 A ls→Calls Tryd.prog 42 #[.slice A ls.length c,.int .i64 s,.int .i64 a] w2 fun e w'=>e=.returned (.tuple #[.int .u64 fw,.int .i64 fs,.int .i64 fb,.int .i64 0])∧Below w2.heap.size w2 w'))
  (HDEC:Hid (∀w2,Calls Tryd.prog 44 #[.int .u64 fw] w2 fun e w'=>e=.returned (.agg #[.int .i64 p.k,.int .i64 p.o,.int .i64 p.d,.int .i64 p.p,.int .i64 p.el,.int .i64 p.c,.bool p.db,.int .i64 p.pa,.int .u32 p.sg,.int .u32 p.lo])∧Below w2.heap.size w2 w'))
  (hw0:(fw==0)=false) (hb0:0≤fb) (hb1:fb≤140737488355329) (ho0:-536870912≤p.o) (ho1:p.o≤536870911) (hix:CasesAt p.k fid) (hen:Entered fid)
  (HC:Hid (∀w2,TabOK w2→Sg w2 A ls→Calls Tryd.prog fid #[.agg #[.slice A ls.length c,.int .i64 p.k,.int .i64 p.o,.int .i64 p.d,.int .i64 p.p,.int .i64 p.el,.int .i64 p.c,.bool p.db,.int .i64 p.pa,.int .u32 p.sg,.int .u32 p.lo,.int .i64 fs,.int .i64 (fb+p.o)]] w2 fun e w'=>e=.returned (.tuple #[.agg #[.int .i64 r.1.k,.int .i64 r.1.sg,.int .i64 r.1.at',.int .i64 r.1.d,.int .i64 r.1.p,.int .i64 r.1.el,.int .i64 r.1.n,.int .i64 r.1.cost],.int .i64 r.2])∧Below w2.heap.size w2 w')) :
  Calls Tryd.prog 28 #[.slice A ls.length c,.int .i64 s,.int .i64 a] w fun e w'=>e=.returned (.tuple #[.agg #[.int .i64 r.1.k,.int .i64 r.1.sg,.int .i64 r.1.at',.int .i64 r.1.d,.int .i64 r.1.p,.int .i64 r.1.el,.int .i64 r.1.n,.int .i64 r.1.cost],.int .i64 r.2])∧Below w.heap.size w w':=by
 have Hs:=Lib.hid hs
 have HT:=Lib.hid hT
 have HIX:=Lib.hid hix
 have HEN:=Lib.hid hen
 clear hs hT hix hen
 go_enter Tryd.func28,Tryd.ntmps28
 go_wp2_with fail
 refine(HFOL.out _ (Hs.out.alloc _)).mono ?_
 rintro e w1 ⟨rfl,hb⟩
 have BO:=(Blk.fresh w #[.int .i64 0,.int .i64 0,.int .i64 0,.int .i64 0,.int .i64 0,.int .i64 0,.int .i64 0,.int .i64 0] 45).below hb
 have HB:Hid (Below w.heap.size w w1):=Lib.hid (((Below.refl _ _).alloc (Nat.le_refl _) _).trans (hb.mono (by simp)))
 clear hb HFOL
 have HO:=Lib.hid BO
 obtain⟨xo,yo,zo⟩:=BO
 go_wp2_with fail
 refine(IsNull_any _ _).mono ?_
 rintro e w' ⟨rfl,rfl⟩
 go_wp2_with fail
 refine(HDEC.out _).mono ?_
 rintro e w2 ⟨rfl,hb⟩
 have BO:=HO.out.below hb
 have hsz:=HB.out.size
 have HB:Hid (Below w.heap.size w w2):=Lib.hid (HB.out.trans (hb.mono hsz))
 clear hb hsz HDEC HO xo yo zo
 have HO:=Lib.hid BO
 obtain⟨xo,yo,zo⟩:=BO
 go_wp2_with fail
 refine abs_codeR (F:=fun W=>Blk W w.heap.size #[.int .i64 0,.int .i64 0,.int .i64 0,.int .i64 0,.int .i64 0,.int .i64 0,.int .i64 0,.int .i64 0]∧Blk W w2.heap.size #[.int .i64 p.k,.int .i64 p.o,.int .i64 p.d,.int .i64 p.p,.int .i64 p.el,.int .i64 p.c,.bool p.db,.int .i64 p.pa,.int .u32 p.sg,.int .u32 p.lo]∧Below w.heap.size w W) ⟨?_,?_,?_⟩ ?_
 ·exact HO.out.alloc _
 ·exact Blk.fresh _ _ _
 ·exact HB.out.alloc HB.out.size _
 rintro W ⟨h6,h12,hb⟩
 generalize w2.heap.size=b12 at *
 clear HO HB xo yo zo
 rename_i KK hKK
 have H6:=Lib.hid h6
 have H12:=Lib.hid h12
 have HB:=Lib.hid hb
 obtain⟨x6,y6,z6⟩:=h6
 obtain⟨x12,y12,z12⟩:=h12
 clear hb
 refine wp_region_t15_2 [] (by kernel_rfl) (by kernel_rfl) ?_
 refine t_call (T:=Is casesV) (Is casesV) 45 [] (by kernel_rfl) rfl (by kernel_rfl) trivial (stable_is _) (free_is _) (fun _ _ h=>h) (fun ρ wc hbc hcn hq=>?_) ?_
 ·obtain⟨hcn,hfn⟩:=hcn
  refine⟨_,by go_simp;rfl,?_⟩
  refine(cases_any _).mono ?_
  rintro e w' ⟨rfl,hbq⟩
  exact⟨_,rfl,rfl,hbq⟩
 refine t_val (u:=?_) [12] (by kernel_rfl) rfl (by kernel_rfl) trivial (fun ρ wc hbc hcn hq=>?_) ?_;rotate_left
 ·obtain⟨hcn,hfn⟩:=hcn
  simp at hq
  go_simp
  rfl
 refine t_val (u:=.int .i64 p.k) [32] (by kernel_rfl) rfl (by kernel_rfl) trivial (fun ρ wc hbc hcn hq=>?_) ?_
 ·obtain⟨hcn,hfn⟩:=hcn
  simp at hq
  obtain⟨hcc,-⟩:=bcell hbc
  simp at hcc
  go_simp
 refine t_val (u:=.func (.func fid) #[] #[]) [31,33] (by kernel_rfl) rfl (by kernel_rfl) trivial (fun ρ wc hbc hcn hq=>?_) ?_
 ·obtain⟨hcn,hfn⟩:=hcn
  simp at hq
  have hix:=HIX.out wc
  go_simp
 refine t_val (u:=?_) [0] (by kernel_rfl) rfl (by kernel_rfl) trivial (fun ρ wc hbc hcn hq=>?_) ?_;rotate_left
 ·obtain⟨hcn,hfn⟩:=hcn
  simp at hq
  go_simp
  rfl
 refine t_val (u:=?_) [12] (by kernel_rfl) rfl (by kernel_rfl) trivial (fun ρ wc hbc hcn hq=>?_) ?_;rotate_left
 ·obtain⟨hcn,hfn⟩:=hcn
  simp at hq
  obtain⟨hcc,-⟩:=bcell hbc
  simp at hcc
  go_simp
  rfl
 refine t_val (u:=?_) [9] (by kernel_rfl) rfl (by kernel_rfl) trivial (fun ρ wc hbc hcn hq=>?_) ?_;rotate_left
 ·obtain⟨hcn,hfn⟩:=hcn
  simp at hq
  go_simp
  rfl
 refine t_val (u:=?_) [10] (by kernel_rfl) rfl (by kernel_rfl) trivial (fun ρ wc hbc hcn hq=>?_) ?_;rotate_left
 ·obtain⟨hcn,hfn⟩:=hcn
  simp at hq
  go_simp
  rfl
 refine t_val (u:=?_) [12] (by kernel_rfl) rfl (by kernel_rfl) trivial (fun ρ wc hbc hcn hq=>?_) ?_;rotate_left
 ·obtain⟨hcn,hfn⟩:=hcn
  simp at hq
  go_simp
  rfl
 refine t_val (u:=.int .i64 p.o) [39] (by kernel_rfl) rfl (by kernel_rfl) trivial (fun ρ wc hbc hcn hq=>?_) ?_
 ·obtain⟨hcn,hfn⟩:=hcn
  simp at hq
  obtain⟨hcc,-⟩:=bcell hbc
  simp at hcc
  go_simp
 refine t_val (u:=.int .i64 (fb+p.o)) [38,40] (by kernel_rfl) rfl (by kernel_rfl) trivial (fun ρ wc hbc hcn hq=>?_) ?_
 ·obtain⟨hcn,hfn⟩:=hcn
  simp at hq
  go_simp
  rw [IntKind.wrap_i64]
  omega
 refine t_val (u:=.agg #[.slice A ls.length c,.int .i64 p.k,.int .i64 p.o,.int .i64 p.d,.int .i64 p.p,.int .i64 p.el,.int .i64 p.c,.bool p.db,.int .i64 p.pa,.int .u32 p.sg,.int .u32 p.lo,.int .i64 fs,.int .i64 (fb+p.o)]) [35,36,37,41] (by kernel_rfl) rfl (by kernel_rfl) trivial (fun ρ wc hbc hcn hq=>?_) ?_
 ·obtain⟨hcn,hfn⟩:=hcn
  simp at hq
  go_simp
 refine t_call (T:=Is (.tuple #[.agg #[.int .i64 r.1.k,.int .i64 r.1.sg,.int .i64 r.1.at',.int .i64 r.1.d,.int .i64 r.1.p,.int .i64 r.1.el,.int .i64 r.1.n,.int .i64 r.1.cost],.int .i64 r.2])) (Is (.tuple #[.agg #[.int .i64 r.1.k,.int .i64 r.1.sg,.int .i64 r.1.at',.int .i64 r.1.d,.int .i64 r.1.p,.int .i64 r.1.el,.int .i64 r.1.n,.int .i64 r.1.cost],.int .i64 r.2])) fid [34,42] (by kernel_rfl) rfl (by kernel_rfl) trivial (stable_is _) (free_is _) (fun _ _ h=>h) (fun ρ wc hbc hcn hq=>?_) ?_
 ·obtain⟨hcn,hfn⟩:=hcn
  simp at hq
  refine⟨#[.agg #[.slice A ls.length c,.int .i64 p.k,.int .i64 p.o,.int .i64 p.d,.int .i64 p.p,.int .i64 p.el,.int .i64 p.c,.bool p.db,.int .i64 p.pa,.int .u32 p.sg,.int .u32 p.lo,.int .i64 fs,.int .i64 (fb+p.o)]],by (have hen:=HEN.out);go_simp;exact hen _ _,?_⟩
  have hbel:Below w.heap.size w wc:=bel_on (bel_drew HB.out) hbc
  refine(HC.out _ (HT.out.on hbel) (Hs.out.below hbel (Nat.le_refl _))).mono ?_
  rintro e w' ⟨rfl,hbq⟩
  exact⟨_,rfl,rfl,hbq⟩
 refine t_val (u:=.agg #[.int .i64 r.1.k,.int .i64 r.1.sg,.int .i64 r.1.at',.int .i64 r.1.d,.int .i64 r.1.p,.int .i64 r.1.el,.int .i64 r.1.n,.int .i64 r.1.cost]) [43] (by kernel_rfl) rfl (by kernel_rfl) trivial (fun ρ wc hbc hcn hq=>?_) ?_
 ·obtain⟨hcn,hfn⟩:=hcn
  simp at hq
  go_simp
 refine t_val (u:=.int .i64 r.2) [43] (by kernel_rfl) rfl (by kernel_rfl) trivial (fun ρ wc hbc hcn hq=>?_) ?_
 ·obtain⟨hcn,hfn⟩:=hcn
  simp at hq
  go_simp
 refine t_end_lit 46 rfl (fun ff w4 hb7 hq=>?_)
 have hb4:Below W.heap.size W w4:=⟨hb7.os,hb7.tape,hb7.output,hb7.size,hb7.block⟩
 have HB4:=Lib.hid (bel_on HB.out hb4)
 have B6:=H6.out.below hb4
 clear hb7 hb4 HB H6 x6 y6 z6 x12 y12 z12
 have HB:=HB4
 clear HB4
 have H6:=Lib.hid B6
 obtain⟨x6,y6,z6⟩:=B6
 simp [AllN] at hq
 simp only [frameL,hq,Nat.zero_add,Nat.reduceAdd]
 clear hq
 go_wp2
 refine⟨rfl,?_⟩
 go_wp2_with fail
 refine abs_post (F:=fun W=>Blk W w.heap.size #[.int .i64 r.1.k,.int .i64 r.1.sg,.int .i64 r.1.at',.int .i64 r.1.d,.int .i64 r.1.p,.int .i64 r.1.el,.int .i64 r.1.n,.int .i64 r.1.cost]∧Below w.heap.size w W) ⟨?_,?_⟩ ?_
 ·exact((((((((H6.out.set 0 (by simp) _).set 1 (by simp) _).set 2 (by simp) _).set 3 (by simp) _).set 4 (by simp) _).set 5 (by simp) _).set 6 (by simp) _).set 7 (by simp) _)
 ·repeat (with_reducible first|exact HB.out|refine bel_drewN ?_ _|refine bel_drew ?_|refine Below.alloc ?_ (by have:=HB.out.size;simp [World.setCell];omega) _|refine Below.setCell ?_ (by first|(simp;done)|(simp;omega)) _)
 rintro V ⟨B6,hbv⟩
 exact bodyPost_ret (v:=.tuple #[.agg #[.int .i64 r.1.k,.int .i64 r.1.sg,.int .i64 r.1.at',.int .i64 r.1.d,.int .i64 r.1.p,.int .i64 r.1.el,.int .i64 r.1.n,.int .i64 r.1.cost],.int .i64 r.2]) (by simp [results,Tryd.results28,go_sem,B6.cell]) rfl ⟨rfl,hbv⟩
set_option maxRecDepth 100000 in
set_option maxHeartbeats 1000000 in
theorem Object_err (A:Option Addr)(c:Nat)(ls:List (List Int))(s a:Int)(q:Fol)(w:World)(hs:Sg w A ls)(hq:q.e≠0)
  (HFOL:Hid (∀w2,Sg w2 A ls→Calls Tryd.prog 42 #[.slice A ls.length c,.int .i64 s,.int .i64 a] w2 fun e w'=>e=.returned (.tuple #[.int .u64 q.w,.int .i64 q.s,.int .i64 q.b,.int .i64 q.e])∧Below w2.heap.size w2 w')) :
  Calls Tryd.prog 28 #[.slice A ls.length c,.int .i64 s,.int .i64 a] w fun e w'=>e=.returned (.tuple #[.agg #[.int .i64 0,.int .i64 0,.int .i64 0,.int .i64 0,.int .i64 0,.int .i64 0,.int .i64 0,.int .i64 0],.int .i64 q.e])∧Below w.heap.size w w':=by
 have Hs:=Lib.hid hs
 have t1:(q.e != 0)=true:=by simpa using hq
 clear hs hq
 go_enter Tryd.func28,Tryd.ntmps28
 go_wp2_with fail
 refine(HFOL.out _ (Hs.out.alloc _)).mono ?_
 rintro e w1 ⟨rfl,hb⟩
 have BO:=(Blk.fresh w #[.int .i64 0,.int .i64 0,.int .i64 0,.int .i64 0,.int .i64 0,.int .i64 0,.int .i64 0,.int .i64 0] 45).below hb
 have HB:Hid (Below w.heap.size w w1):=Lib.hid (((Below.refl _ _).alloc (Nat.le_refl _) _).trans (hb.mono (by simp)))
 clear hb HFOL
 have HO:=Lib.hid BO
 obtain⟨xo,yo,zo⟩:=BO
 go_wp2_with fail
 refine abs_post (F:=fun W=>Blk W w.heap.size #[.int .i64 0,.int .i64 0,.int .i64 0,.int .i64 0,.int .i64 0,.int .i64 0,.int .i64 0,.int .i64 0]∧Below w.heap.size w W) ⟨?_,?_⟩ ?_
 ·exact((((((((HO.out.set 0 (by simp) _).set 1 (by simp) _).set 2 (by simp) _).set 3 (by simp) _).set 4 (by simp) _).set 5 (by simp) _).set 6 (by simp) _).set 7 (by simp) _)
 ·repeat (with_reducible first|exact HB.out|refine bel_drewN ?_ _|refine bel_drew ?_|refine Below.alloc ?_ (by have:=HB.out.size;simp [World.setCell];omega) _|refine Below.setCell ?_ (by first|(simp;done)|(simp;omega)) _)
 rintro V ⟨B6,hbv⟩
 exact bodyPost_ret (v:=.tuple #[.agg #[.int .i64 0,.int .i64 0,.int .i64 0,.int .i64 0,.int .i64 0,.int .i64 0,.int .i64 0,.int .i64 0],.int .i64 q.e]) (by simp [results,Tryd.results28,go_sem,B6.cell]) rfl ⟨rfl,hbv⟩
set_option maxRecDepth 100000 in
set_option maxHeartbeats 1000000 in
theorem Object_nul (A:Option Addr)(c:Nat)(ls:List (List Int))(s a:Int)(q:Fol)(w:World)(hs:Sg w A ls)(hq:q.e=0)(hw:q.w=0)
  (HFOL:Hid (∀w2,Sg w2 A ls→Calls Tryd.prog 42 #[.slice A ls.length c,.int .i64 s,.int .i64 a] w2 fun e w'=>e=.returned (.tuple #[.int .u64 q.w,.int .i64 q.s,.int .i64 q.b,.int .i64 q.e])∧Below w2.heap.size w2 w')) :
  Calls Tryd.prog 28 #[.slice A ls.length c,.int .i64 s,.int .i64 a] w fun e w'=>e=.returned (.tuple #[.agg #[.int .i64 0,.int .i64 0,.int .i64 0,.int .i64 0,.int .i64 0,.int .i64 0,.int .i64 0,.int .i64 0],.int .i64 0])∧Below w.heap.size w w':=by
 have Hs:=Lib.hid hs
 have t1:(q.e != 0)=false:=by simpa using hq
 have t2:(q.w==0)=true:=by simpa using hw
 clear hs hq hw
 go_enter Tryd.func28,Tryd.ntmps28
 go_wp2_with fail
 refine(HFOL.out _ (Hs.out.alloc _)).mono ?_
 rintro e w1 ⟨rfl,hb⟩
 have BO:=(Blk.fresh w #[.int .i64 0,.int .i64 0,.int .i64 0,.int .i64 0,.int .i64 0,.int .i64 0,.int .i64 0,.int .i64 0] 45).below hb
 have HB:Hid (Below w.heap.size w w1):=Lib.hid (((Below.refl _ _).alloc (Nat.le_refl _) _).trans (hb.mono (by simp)))
 clear hb HFOL
 have HO:=Lib.hid BO
 obtain⟨xo,yo,zo⟩:=BO
 go_wp2_with fail
 refine(IsNull_any _ _).mono ?_
 rintro e w' ⟨rfl,rfl⟩
 go_wp2_with fail
 refine abs_post (F:=fun W=>Blk W w.heap.size #[.int .i64 0,.int .i64 0,.int .i64 0,.int .i64 0,.int .i64 0,.int .i64 0,.int .i64 0,.int .i64 0]∧Below w.heap.size w W) ⟨?_,?_⟩ ?_
 ·exact((((((((HO.out.set 0 (by simp) _).set 1 (by simp) _).set 2 (by simp) _).set 3 (by simp) _).set 4 (by simp) _).set 5 (by simp) _).set 6 (by simp) _).set 7 (by simp) _)
 ·repeat (with_reducible first|exact HB.out|refine bel_drewN ?_ _|refine bel_drew ?_|refine Below.alloc ?_ (by have:=HB.out.size;simp [World.setCell];omega) _|refine Below.setCell ?_ (by first|(simp;done)|(simp;omega)) _)
 rintro V ⟨B6,hbv⟩
 exact bodyPost_ret (v:=.tuple #[.agg #[.int .i64 0,.int .i64 0,.int .i64 0,.int .i64 0,.int .i64 0,.int .i64 0,.int .i64 0,.int .i64 0],.int .i64 0]) (by simp [results,Tryd.results28,go_sem,B6.cell]) rfl ⟨rfl,hbv⟩
theorem RObject_any (A:Option Addr)(c:Nat)(ls:List (List Int))(s a:Int)(w:World)(hT:TabOK w)(hs:Sg w A ls)(hw:Wd2 ls)(hm:ls.length≤140737488355328)(hf:∀j,(seg ls j).length≤140737488355328)
  (hs0:-9223372036854775808≤s) (hs1:s≤9223372036854775807) (ha0:-9223372036854775808≤a) (ha1:a≤9223372036854775807) :
  Calls Tryd.prog 28 #[.slice A ls.length c,.int .i64 s,.int .i64 a] w fun e w'=>e=.returned (.tuple #[.agg #[.int .i64 (objF ls s a).1.k,.int .i64 (objF ls s a).1.sg,.int .i64 (objF ls s a).1.at',.int .i64 (objF ls s a).1.d,.int .i64 (objF ls s a).1.p,.int .i64 (objF ls s a).1.el,.int .i64 (objF ls s a).1.n,.int .i64 (objF ls s a).1.cost],.int .i64 (objF ls s a).2])∧Below w.heap.size w w':=by
 have HFOL:=Lib.hid (fun w2 hs2=>FFollow_any A c ls s a w2 hs2 hw hm hf hs0 hs1 ha0 ha1)
 have hbd:=followF_bd hw hm hf s a
 have hfc:=folR_cases hw s a
 have hpd:=decP_bd (followF ls s a).w hbd.1 hbd.2.1
 have hpk:=decP_k (followF ls s a).w hbd.1
 have HDEC:=Lib.hid (fun w2=>Decode_any (followF ls s a).w w2 hbd.1 hbd.2.1)
 have HOF:Hid (objF ls s a=if (followF ls s a).e≠0∨(followF ls s a).w=0 then (ob0,(followF ls s a).e) else objP ls (decP (followF ls s a).w) (followF ls s a).s (followF ls s a).b):=Lib.hid rfl
 generalize followF ls s a=q at *
 by_cases he:q.e=0
 ·by_cases h0:q.w=0
  ·have hr:=HOF.out
   rw [if_pos (Or.inr h0)] at hr
   rw [hr,he]
   exact Object_nul A c ls s a q w hs he h0 HFOL
  ·have hr:=HOF.out
   rw [if_neg (by rintro(h|h);exact h he;exact h0 h)] at hr
   rw [hr]
   have hne:q.w % 4≠2:=by rcases hfc with ⟨h,_⟩|⟨_,h,_⟩<;>omega
   have hb0:(q.w==0)=false:=by simpa using h0
   obtain⟨qw,qs,qb,qe⟩:=q
   simp only at he hr hne hb0 hpk hpd hbd HFOL HDEC ⊢
   subst he
   generalize decP qw=p at *
   have hk:p.k=0∨p.k=1∨p.k=3:=by omega
   rcases hk with hk|hk|hk
   ·have hr2:objP ls p qs qb=strR ls p.d p.p qs (qb+p.o):=by
     unfold objP strR
     rw [if_neg (by omega),if_pos hk]
    rw [hr2]
    refine Object_tail A c ls s a qw qs qb p 56 _ w hT hs HFOL HDEC hb0 (by omega) (by omega) (by omega) (by omega) (by rw [hk];exact cases0) enter0 (Lib.hid fun w2 hT2 hs2=>?_)
    exact case0_any A c ls p.k p.o p.d p.p p.el p.c p.pa p.sg p.lo qs (qb+p.o) p.db w2 hT2 (by omega) (by omega) (by omega) (by omega) hs2 hw hm hf (by omega) (by omega) (by omega) (by omega)
   ·by_cases h7:p.el=7
    ·have hr2:objP ls p qs qb=cmpR ls p.c qs (qb+p.o):=by
      unfold objP cmpR
      rw [if_neg (by omega),if_neg (by omega),h7]
      cases inB ls qs (qb+p.o) (wordsI 7 p.c)<;>simp
     rw [hr2]
     refine Object_tail A c ls s a qw qs qb p 58 _ w hT hs HFOL HDEC hb0 (by omega) (by omega) (by omega) (by omega) (by rw [hk];exact cases1) enter1 (Lib.hid fun w2 hT2 hs2=>?_)
     exact case1c_any A c ls p.k p.o p.d p.p p.el p.c p.pa p.sg p.lo qs (qb+p.o) p.db w2 hT2 h7 (by omega) (by omega) hs2 hw hm hf (by omega) (by omega) (by omega) (by omega)
    ·have hr2:objP ls p qs qb=lstR ls p.el p.c qs (qb+p.o):=by
      unfold objP lstR
      rw [if_neg (by omega),if_neg (by omega),if_neg h7]
      cases inB ls qs (qb+p.o) (wordsI p.el p.c)<;>simp
     rw [hr2]
     refine Object_tail A c ls s a qw qs qb p 58 _ w hT hs HFOL HDEC hb0 (by omega) (by omega) (by omega) (by omega) (by rw [hk];exact cases1) enter1 (Lib.hid fun w2 hT2 hs2=>?_)
     exact case1l_any A c ls p.k p.o p.d p.p p.el p.c p.pa p.sg p.lo qs (qb+p.o) p.db w2 hT2 h7 (by omega) (by omega) (by omega) (by omega) hs2 hw hm hf (by omega) (by omega) (by omega) (by omega)
   ·have hr2:objP ls p qs qb=othR p.lo:=by
     unfold objP othR
     rw [if_pos hk]
    rw [hr2]
    refine Object_tail A c ls s a qw qs qb p 61 _ w hT hs HFOL HDEC hb0 (by omega) (by omega) (by omega) (by omega) (by rw [hk];exact cases3) enter3 (Lib.hid fun w2 hT2 hs2=>?_)
    exact case3_any A c ls p.k p.o p.d p.p p.el p.c p.pa p.sg p.lo qs (qb+p.o) p.db w2 hk
 ·have hr:=HOF.out
  rw [if_pos (Or.inl he)] at hr
  rw [hr]
  exact Object_err A c ls s a q w hs he HFOL
set_option maxRecDepth 100000 in
theorem RElement_any (k sg at' d p el n cost i:Int)(w:World)(h0:0≤i)(h1:i≤536870911)(h2:0≤at')(h3:at'≤281474976710656)(h4:0≤d)(h5:d≤65535)(h6:0≤p)(h7:p≤65535):
  Calls Tryd.prog 35 #[.agg #[.int .i64 k,.int .i64 sg,.int .i64 at',.int .i64 d,.int .i64 p,.int .i64 el,.int .i64 n,.int .i64 cost],.int .i64 i] w fun e w'=>e=.returned (.agg #[.int .i64 1,.int .i64 sg,.int .i64 (at'+i*(d+p)),.int .i64 d,.int .i64 p,.int .i64 0,.int .i64 0,.int .i64 0])∧Below w.heap.size w w':=by
 have m0:0≤i*(d+p):=Int.mul_nonneg (by omega) (by omega)
 have m1:i*(d+p)≤536870911*131070:=Int.mul_le_mul (by omega) (by omega) (by omega) (by omega)
 go_enter Tryd.func35,Tryd.ntmps35
 go_wp2_with fail
 refine abs_post (F:=fun W=>Blk W (w.heap.size+1) #[.int .i64 1,.int .i64 sg,.int .i64 (at'+i*(d+p)),.int .i64 d,.int .i64 p,.int .i64 0,.int .i64 0,.int .i64 0]∧Below w.heap.size w W) ⟨?_,?_⟩ ?_
 ·have h:=(Blk.fresh (w.alloc (.cells #[.int .i64 k,.int .i64 sg,.int .i64 at',.int .i64 d,.int .i64 p,.int .i64 el,.int .i64 n,.int .i64 cost] 45)) #[.int .i64 1,.int .i64 sg,.int .i64 (at'+i*(d+p)),.int .i64 d,.int .i64 p,.int .i64 0,.int .i64 0,.int .i64 0] 45)
  simpa using h
 ·exact((Below.refl _ _).alloc (Nat.le_refl _) _).alloc (by simp) _
 rintro V ⟨B6,hbv⟩
 exact bodyPost_ret (v:=.agg #[.int .i64 1,.int .i64 sg,.int .i64 (at'+i*(d+p)),.int .i64 d,.int .i64 p,.int .i64 0,.int .i64 0,.int .i64 0]) (by simp [results,Tryd.results35,go_sem,B6.cell]) rfl ⟨rfl,hbv⟩
set_option maxRecDepth 100000 in
theorem RPointers_any (k sg at' d p el n cost:Int)(w:World)(h1:0≤at')(h2:at'≤281474976710656)(h3:0≤d)(h4:d≤65535):
  Calls Tryd.prog 37 #[.agg #[.int .i64 k,.int .i64 sg,.int .i64 at',.int .i64 d,.int .i64 p,.int .i64 el,.int .i64 n,.int .i64 cost]] w fun e w'=>e=.returned (.tuple #[.int .i64 (ptrO ⟨k,sg,at',d,p,el,n,cost⟩).1,.int .i64 (ptrO ⟨k,sg,at',d,p,el,n,cost⟩).2])∧Below w.heap.size w w':=by
 by_cases k1:k=1
 ·by_cases hp:0<p
  ·have HP:Hid (ptrO ⟨k,sg,at',d,p,el,n,cost⟩=(at'+d,p)):=Lib.hid (by unfold ptrO;rw [if_pos ⟨k1,hp⟩])
   subst k1
   rw [HP.out]
   clear HP
   go_enter Tryd.func37,Tryd.ntmps37
   go_wp2
   go_quiet (fail)
   go_wp2
   go_ret2
   exact⟨rfl,bel_drewN ((Below.refl _ _).alloc (Nat.le_refl _) _) _⟩
  ·have HP:Hid (ptrO ⟨k,sg,at',d,p,el,n,cost⟩=(0,0)):=Lib.hid (by unfold ptrO;rw [if_neg (fun h=>hp h.2),if_neg (fun h=>by have:=h.1;simp only at this;omega)])
   subst k1
   rw [HP.out]
   clear HP
   go_enter Tryd.func37,Tryd.ntmps37
   go_wp2
   go_ret2
   exact⟨rfl,(Below.refl _ _).alloc (Nat.le_refl _) _⟩
 ·have t1:(k==1)=false:=by simpa using k1
  by_cases k2:k=2
  ·by_cases e6:el=6
   ·by_cases hn:0<n
    ·have HP:Hid (ptrO ⟨k,sg,at',d,p,el,n,cost⟩=(at',n)):=Lib.hid (by unfold ptrO;rw [if_neg (fun h=>k1 h.1),if_pos ⟨k2,e6,hn⟩])
     clear t1 k1
     subst k2 e6
     rw [HP.out]
     clear HP
     go_enter Tryd.func37,Tryd.ntmps37
     go_wp2
     go_quiet (fail)
     go_wp2
     go_ret2
     exact⟨rfl,bel_drewN ((Below.refl _ _).alloc (Nat.le_refl _) _) _⟩
    ·have HP:Hid (ptrO ⟨k,sg,at',d,p,el,n,cost⟩=(0,0)):=Lib.hid (by unfold ptrO;rw [if_neg (fun h=>k1 h.1),if_neg (fun h=>hn h.2.2)])
     clear t1 k1
     subst k2 e6
     rw [HP.out]
     clear HP
     go_enter Tryd.func37,Tryd.ntmps37
     go_wp2
     go_ret2
     exact⟨rfl,(Below.refl _ _).alloc (Nat.le_refl _) _⟩
   ·have HP:Hid (ptrO ⟨k,sg,at',d,p,el,n,cost⟩=(0,0)):=Lib.hid (by unfold ptrO;rw [if_neg (fun h=>k1 h.1),if_neg (fun h=>e6 h.2.1)])
    have t3:(el==6)=false:=by simpa using e6
    clear t1 k1 e6
    subst k2
    rw [HP.out]
    clear HP
    go_enter Tryd.func37,Tryd.ntmps37
    go_wp2
    go_ret2
    exact⟨rfl,(Below.refl _ _).alloc (Nat.le_refl _) _⟩
  ·have HP:Hid (ptrO ⟨k,sg,at',d,p,el,n,cost⟩=(0,0)):=Lib.hid (by unfold ptrO;rw [if_neg (fun h=>k1 h.1),if_neg (fun h=>k2 h.1)])
   have t2:(k==2)=false:=by simpa using k2
   clear k1 k2
   rw [HP.out]
   clear HP
   go_enter Tryd.func37,Tryd.ntmps37
   go_wp2
   go_ret2
   exact⟨rfl,(Below.refl _ _).alloc (Nat.le_refl _) _⟩
theorem RObject_is (A:Option Addr)(c:Nat)(ls:List (List Int))(s a k sg at' d p el n cost e0:Int)(w:World)(hT:TabOK w)(hs:Sg w A ls)(hw:Wd2 ls)(hm:ls.length≤140737488355328)(hf:∀j,(seg ls j).length≤140737488355328)
  (hs0:-9223372036854775808≤s) (hs1:s≤9223372036854775807) (ha0:-9223372036854775808≤a) (ha1:a≤9223372036854775807) (hq:objF ls s a=(⟨k,sg,at',d,p,el,n,cost⟩,e0)) :
  Calls Tryd.prog 28 #[.slice A ls.length c,.int .i64 s,.int .i64 a] w fun e w'=>e=.returned (.tuple #[.agg #[.int .i64 k,.int .i64 sg,.int .i64 at',.int .i64 d,.int .i64 p,.int .i64 el,.int .i64 n,.int .i64 cost],.int .i64 e0])∧Below w.heap.size w w':=by
 have h:=RObject_any A c ls s a w hT hs hw hm hf hs0 hs1 ha0 ha1
 rw [hq] at h
 exact h
theorem RPointers_is (k sg at' d p el n cost x y:Int)(w:World)(h1:0≤at')(h2:at'≤281474976710656)(h3:0≤d)(h4:d≤65535)(hp:ptrO ⟨k,sg,at',d,p,el,n,cost⟩=(x,y)):
  Calls Tryd.prog 37 #[.agg #[.int .i64 k,.int .i64 sg,.int .i64 at',.int .i64 d,.int .i64 p,.int .i64 el,.int .i64 n,.int .i64 cost]] w fun e w'=>e=.returned (.tuple #[.int .i64 x,.int .i64 y])∧Below w.heap.size w w':=by
 have h:=RPointers_any k sg at' d p el n cost w h1 h2 h3 h4
 rw [hp] at h
 exact h
theorem RObject_at (A:Option Addr)(c m:Nat)(ls:List (List Int))(s a k sg at' d p el n cost e0:Int)(w:World)(hT:TabOK w)(hl:m=ls.length)(hs:Sg w A ls)(hw:Wd2 ls)(hm:ls.length≤140737488355328)(hf:∀j,(seg ls j).length≤140737488355328)
  (hs0:-9223372036854775808≤s) (hs1:s≤9223372036854775807) (ha0:-9223372036854775808≤a) (ha1:a≤9223372036854775807) (hq:objF ls s a=(⟨k,sg,at',d,p,el,n,cost⟩,e0)) :
  Calls Tryd.prog 28 #[.slice A m c,.int .i64 s,.int .i64 a] w fun e w'=>e=.returned (.tuple #[.agg #[.int .i64 k,.int .i64 sg,.int .i64 at',.int .i64 d,.int .i64 p,.int .i64 el,.int .i64 n,.int .i64 cost],.int .i64 e0])∧Below w.heap.size w w':=by
 subst hl
 exact RObject_is A c ls s a k sg at' d p el n cost e0 w hT hs hw hm hf hs0 hs1 ha0 ha1 hq
end
end Go.Proofs.YtfaflahfjgnphaaDoor
