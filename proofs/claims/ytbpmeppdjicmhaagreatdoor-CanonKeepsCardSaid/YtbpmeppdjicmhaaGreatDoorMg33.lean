/- The texts DenB, DenA, DenC, DenH (what is wanted of them), one after the other. -/
import Derived.Test.YtbpmeppdjicmhaaGreatDoorMg23
import Derived.Test.YtbpmeppdjicmhaaGreatDoorMg24
import Derived.Test.YtbpmeppdjicmhaaGreatDoorMg31
import Derived.Laws.EntriesVeiled
import Derived.Recover
namespace Go.Proofs.YtbpmeppdjicmhaaGreatDoor
open Go.ChangeShapes Go.WideShapes Go.ChangeAt Go.RowKit
set_option linter.unusedVariables false
set_option linter.unusedSimpArgs false
set_option maxRecDepth 100000
structure Loc where
 o:Ob
 m:Int
 e:Int
def locQ (q:Fol)(r:Ob×Int)(D m dep:Int):Loc:=
 if q.e≠0∨q.w=0 then ⟨ob0,m,q.e⟩ else if D<dep then ⟨ob0,m,7⟩ else if r.2≠0 then ⟨ob0,m,r.2⟩ else if m<r.1.cost then ⟨ob0,m,8⟩ else ⟨r.1,m-r.1.cost,0⟩
def locD (ls:List (List Int))(D m s a dep:Int):Loc:=locQ (followF ls s a) (objF ls s a) D m dep
def datO (ls:List (List Int))(o:Ob):List Int:=
 if o.k=1 then bytesOf (datW ls o.sg o.at' o.d) else if o.k=2∧o.el≠6 then trimL (bytesOf (datW ls o.sg o.at' (wordsI o.el o.n))) o.el o.n else []
def kidR (val:Int→Int→Int→Val)(o:Ob)(m:Int):Vls:=runK (fun m i=>val m o.sg ((ptrO o).1+i)) m (ptrO o).2.toNat
def contK (val:Int→Int→Int→Val)(ls:List (List Int))(m:Int)(o:Ob):Val:=
 if (kidR val o m).e≠0 then errV (kidR val o m).m (kidR val o m).e else ⟨.mk o.k o.el o.n (datO ls o) (kidR val o m).ks,(kidR val o m).m,0⟩
def elsR (val:Int→Int→Int→Val)(ls:List (List Int))(o:Ob)(m:Int):Vls:=runK (fun m i=>contK val ls m (eleO o i)) m o.n.toNat
def bodyK (val:Int→Int→Int→Val)(ls:List (List Int))(m:Int)(o:Ob):Val:=
 if o.el=7 then (if (elsR val ls o m).e≠0 then errV (elsR val ls o m).m (elsR val ls o m).e else ⟨.mk o.k o.el o.n [] (elsR val ls o m).ks,(elsR val ls o m).m,0⟩) else contK val ls m o
theorem runK_congr {f g:Int→Nat→Val}{m:Int}:∀n,(∀m i,i<n→f m i=g m i)→runK f m n=runK g m n
 | 0,_=>rfl
 | n+1,h=>by
  have ih:=runK_congr (f:=f) (g:=g) (m:=m) n (fun m i hi=>h m i (by omega))
  unfold runK
  rw [ih,h _ n (by omega)]
theorem contK_struct (val:Int→Int→Int→Val)(ls:List (List Int))(m:Int)(o:Ob)(hk:o.k=1)(he:o.el=0)(hn:o.n=0)(hp:0≤o.p):contK val ls m o=structV val ls m o:=by
 have hR:kidR val o m=runK (fun m i=>val m o.sg (o.at'+o.d+i)) m o.p.toNat:=by
  unfold kidR ptrO
  by_cases h:0<o.p
  ·rw [if_pos ⟨hk,h⟩]
  ·have h0:o.p.toNat=0:=by omega
   rw [if_neg (by omega),if_neg (by omega),h0]
   rfl
 unfold contK structV
 rw [hR,hk,he,hn]
 have hd:datO ls o=bytesOf (datW ls o.sg o.at' o.d):=by unfold datO;rw [if_pos hk]
 rw [hd]
theorem contK_list (val:Int→Int→Int→Val)(ls:List (List Int))(m:Int)(o:Ob)(hk:o.k=2)(he0:0≤o.el)(he:o.el<6)(hc:o.cost=wordsI o.el o.n):
  contK val ls m o=⟨.mk 2 o.el o.n (trimL (bytesOf (datW ls o.sg o.at' o.cost)) o.el o.n) [],m,0⟩:=by
 have hR:kidR val o m=⟨[],m,0⟩:=by
  unfold kidR ptrO
  rw [if_neg (by omega),if_neg (by omega)]
  rfl
 unfold contK
 rw [hR,if_neg (by simp),hk,hc]
 have hd:datO ls o=trimL (bytesOf (datW ls o.sg o.at' (wordsI o.el o.n))) o.el o.n:=by unfold datO;rw [if_neg (by omega),if_pos ⟨hk,by omega⟩]
 rw [hd]
theorem contK_ptrs (val:Int→Int→Int→Val)(ls:List (List Int))(m:Int)(o:Ob)(hk:o.k=2)(he:o.el=6)(hn:0≤o.n):contK val ls m o=listV val ls m o:=by
 have hR:kidR val o m=runK (elemV val ls o) m o.n.toNat:=by
  unfold kidR ptrO
  by_cases h:0<o.n
  ·rw [if_neg (by omega),if_pos ⟨hk,he,h⟩]
   refine runK_congr _ (fun m i _=>?_)
   unfold elemV
   rw [if_pos he]
  ·have h0:o.n.toNat=0:=by omega
   rw [if_neg (by omega),if_neg (by omega),h0]
   rfl
 unfold contK listV
 rw [hR,hk]
 have hd:datO ls o=[]:=by unfold datO;rw [if_neg (by omega),if_neg (by omega)]
 rw [hd]
theorem elsR_list (val:Int→Int→Int→Val)(ls:List (List Int))(m:Int)(o:Ob)(he:o.el=7)(hp:0≤o.p):elsR val ls o m=runK (elemV val ls o) m o.n.toNat:=by
 unfold elsR
 refine runK_congr _ (fun m i _=>?_)
 unfold elemV
 rw [if_neg (by omega)]
 exact contK_struct val ls m (eleO o i) rfl rfl rfl hp
theorem compF_k (ls:List (List Int))(s st c cost:Int)(h:(compF ls s st c cost).2=0):(compF ls s st c cost).1.k≠0:=by
 unfold compF at h ⊢
 split at h
 ·exact absurd h (by decide)
 ·rename_i h1
  rw [if_neg h1]
  show (2:Int)≠0
  decide
theorem objF_some (ls:List (List Int))(s a:Int)(h1:(followF ls s a).e=0)(h2:(followF ls s a).w≠0)(h3:(objF ls s a).2=0):(objF ls s a).1.k≠0:=by
 unfold objF at h3 ⊢
 rw [if_neg (by simp [h1,h2])] at h3 ⊢
 unfold objP at h3 ⊢
 repeat' split at h3
 all_goals try (exfalso;revert h3;simp;done)
 all_goals first|(simp_all;done)|(have h4:=compF_k _ _ _ _ _ h3;simp_all)
theorem valV_loc {ls:List (List Int)}(hw:Wd2 ls)(hm:ls.length≤40)(hf:∀j,(seg ls j).length≤20000000)(D m s a dep:Int)(r:Nat)(hr:(D-dep+1).toNat=r):
  valV ls r m s a=if (locD ls D m s a dep).e≠0 then errV (locD ls D m s a dep).m (locD ls D m s a dep).e else bodyK (valV ls (r-1)) ls (locD ls D m s a dep).m (locD ls D m s a dep).o:=by
 have hC:=objF_cases hw (by omega) (fun j=>by have:=hf j;omega) s a
 have hS:=objF_some ls s a
 have hnull:∀r m,errV m 0=bodyK (valV ls r) ls m ob0:=fun r m=>rfl
 unfold locD
 generalize hq0:followF ls s a=q0 at *
 by_cases h1:q0.e≠0∨q0.w=0
 ·have hL:locQ q0 (objF ls s a) D m dep=⟨ob0,m,q0.e⟩:=by unfold locQ;rw [if_pos h1]
  have hV:valV ls r m s a=errV m q0.e:=by
   cases r<;>(unfold valV;rw [hq0,if_pos h1])
  rw [hL,hV]
  by_cases h2:q0.e=0
  ·rw [h2,if_neg (by simp)]
   exact hnull _ _
  ·rw [if_pos h2]
 cases r with
 | zero=>
  have hL:locQ q0 (objF ls s a) D m dep=⟨ob0,m,7⟩:=by unfold locQ;rw [if_neg h1,if_pos (by clear hC;omega)]
  rw [hL]
  unfold valV
  rw [hq0,if_neg h1]
  rfl
 | succ r=>
  unfold valV
  rw [hq0,if_neg h1]
  unfold bodyV
  generalize objF ls s a=q at *
  have hD:¬D<dep:=by clear hC hS;omega
  by_cases h2:q.2≠0
  ·have hL:locQ q0 q D m dep=⟨ob0,m,q.2⟩:=by unfold locQ;rw [if_neg h1,if_neg hD,if_pos h2]
   rw [hL,if_pos h2,if_pos h2]
  ·rw [if_neg h2]
   by_cases h3:m<q.1.cost
   ·have hL:locQ q0 q D m dep=⟨ob0,m,8⟩:=by unfold locQ;rw [if_neg h1,if_neg hD,if_neg h2,if_pos h3]
    rw [hL,if_pos h3]
    rfl
   have hL:locQ q0 q D m dep=⟨q.1,m-q.1.cost,0⟩:=by unfold locQ;rw [if_neg h1,if_neg hD,if_neg h2,if_neg h3]
   rw [hL,if_neg h3,if_neg (show ¬(Loc.e ⟨q.1,m-q.1.cost,0⟩≠0) from fun h=>h rfl)]
   have hk0:=hS (Classical.byContradiction fun h=>h1 (.inl h)) (fun h=>h1 (.inr h)) (Classical.byContradiction fun h=>h2 h)
   show _=bodyK (valV ls r) ls (m-q.1.cost) q.1
   rcases hC with ⟨h4,-⟩|⟨-,h4,h5,h6,-,-,h7,-⟩|⟨-,h4,h5,h6,h7,-,-,-,h8,-⟩|⟨-,h4,h5,h6,-,-,-,h7,-⟩
   ·rw [h4] at hk0;exact absurd rfl hk0
   ·rw [if_pos h4]
    unfold bodyK
    rw [if_neg (by omega)]
    exact(contK_struct _ _ _ _ h4 h5 h6 h7).symm
   ·rw [if_neg (show ¬q.1.k=1 by omega)]
    unfold bodyK
    rw [if_neg (show ¬q.1.el=7 by omega)]
    by_cases h9:q.1.el<6
    ·rw [if_pos h9]
     exact(contK_list _ _ _ _ h4 h5 h9 h8).symm
    ·rw [if_neg h9]
     exact(contK_ptrs _ _ _ _ h4 (by omega) h7).symm
   ·rw [if_neg (show ¬q.1.k=1 by omega),if_neg (show ¬q.1.el<6 by omega)]
    unfold bodyK listV
    rw [if_pos h5,elsR_list _ _ _ _ h5 h7,h4]
section
attribute [local simp] AllK KnowsV look Is
def failE (e:Int):Ending:=.panicked [{ v:=.iface 108 (.agg #[.int .i64 e]),recovered:=false }]
theorem requireD (e:Int)(w:World):Calls Tryz.prog 92 #[.int .i64 e] w fun r w'=>((e=0∧r=.returned (.tuple #[]))∨(e≠0∧r=failE e))∧w=w':=by
 by_cases h:e=0
 ·subst h
  go_enter Tryz.func92,Tryz.ntmps92
  go_wp2
  go_end0
  exact⟨by simp,rfl⟩
 ·have t1:(e != 0)=true:=by simpa using h
  go_enter Tryz.func92,Tryz.ntmps92
  go_wp2
  exact⟨rfl,.inr ⟨h,rfl⟩,rfl⟩
theorem bel_undrew {w wc:World}(h:Below w.drew.heap.size w.drew wc):Below w.heap.size w wc:=⟨h.os,h.tape,h.output,h.size,h.block⟩
structure EnvD (b:Nat) (A:Option Addr) (ls:List (List Int)) (w0:World):Prop where
 sg:Sg w0 A ls
 tab:TabOK w0
 b0:w0.heap.size≤b
 wd:Wd2 ls
 m:ls.length≤40
 f:∀j,(seg ls j).length≤20000000
theorem EnvD.sgAt {b:Nat}{A:Option Addr}{ls:List (List Int)}{w0 w:World}(E:EnvD b A ls w0)(hb:Below b w0 w):Sg w A ls:=E.sg.below hb E.b0
theorem EnvD.tabAt {b:Nat}{A:Option Addr}{ls:List (List Int)}{w0 w:World}(E:EnvD b A ls w0)(hb:Below b w0 w):TabOK w:=E.tab.below hb E.b0
theorem EnvD.m2 {b:Nat}{A:Option Addr}{ls:List (List Int)}{w0:World}(E:EnvD b A ls w0):ls.length≤140737488355328:=by have:=E.m;omega
theorem EnvD.f2 {b:Nat}{A:Option Addr}{ls:List (List Int)}{w0:World}(E:EnvD b A ls w0):∀j,(seg ls j).length≤140737488355328:=fun j=>by have:=E.f j;omega
def obV (o:Ob):Value:=.agg #[.int .i64 o.k,.int .i64 o.sg,.int .i64 o.at',.int .i64 o.d,.int .i64 o.p,.int .i64 o.el,.int .i64 o.n,.int .i64 o.cost]
set_option maxHeartbeats 4000000 in
theorem object_walk (b:Nat)(A:Option Addr)(n c:Nat)(D X O m s a dep:Int)(q:Fol)(r:Ob×Int)(w0 w:World)(hb:Below b w0 w)(hk:Blk w b #[.slice A n c,.int .i64 D,.int .i64 X,.int .i64 O,.int .i64 m])
  (HFOL:Hid (∀w2,Below b w0 w2→Calls Tryz.prog 91 #[.slice A n c,.int .i64 s,.int .i64 a] w2 fun e w'=>e=.returned (.tuple #[.int .u64 q.w,.int .i64 q.s,.int .i64 q.b,.int .i64 q.e])∧Below w2.heap.size w2 w'))
  (HOBJ:Hid (∀w2,Below b w0 w2→Calls Tryz.prog 95 #[.slice A n c,.int .i64 s,.int .i64 a] w2 fun e w'=>e=.returned (.tuple #[.agg #[.int .i64 r.1.k,.int .i64 r.1.sg,.int .i64 r.1.at',.int .i64 r.1.d,.int .i64 r.1.p,.int .i64 r.1.el,.int .i64 r.1.n,.int .i64 r.1.cost],.int .i64 r.2])∧Below w2.heap.size w2 w'))
  (HCH0:Hid (∀w2,Calls Tryz.prog 96 #[.agg #[.int .i64 m],.int .i64 r.1.cost] w2 fun e w'=>e=.returned (.tuple #[.agg #[.int .i64 (chargeI m r.1.cost)],.int .i64 (chargeE m r.1.cost)])∧Below w2.heap.size w2 w')) :
  Calls Tryz.prog 75 #[.pointer (some ⟨b,0,none⟩),.int .i64 s,.int .i64 a,.int .i64 dep] w fun e w'=>Keeps (KB b) w w'∧Blk w' b #[.slice A n c,.int .i64 D,.int .i64 X,.int .i64 O,.int .i64 (locQ q r D m dep).m] ∧
   (((locQ q r D m dep).e=0∧e=.returned (obV (locQ q r D m dep).o))∨((locQ q r D m dep).e≠0∧e=failE (locQ q r D m dep).e)):=by
 have hlt:=hk.lt
 have HB:=Lib.hid (fun (w2:World) (h:Below w.heap.size w w2)=>hb.trans (h.mono (Nat.le_of_lt hlt)))
 have HL:Hid (b<w.heap.size):=Lib.hid hlt
 have H1:=hk.alloc (.cells #[.int .i64 0,.int .i64 0,.int .i64 0,.int .i64 0,.int .i64 0,.int .i64 0,.int .i64 0,.int .i64 0] 74)
 have O1:=Lib.hid (Blk.fresh w #[.int .i64 0,.int .i64 0,.int .i64 0,.int .i64 0,.int .i64 0,.int .i64 0,.int .i64 0,.int .i64 0] 74)
 have B1:=Lib.hid ((Below.refl w.heap.size w).alloc (Nat.le_refl _) (.cells #[.int .i64 0,.int .i64 0,.int .i64 0,.int .i64 0,.int .i64 0,.int .i64 0,.int .i64 0,.int .i64 0] 74))
 have T1:=Lib.hid H1
 obtain⟨x1,y1,z1⟩:=H1
 clear hb hk hlt
 go_enter Tryz.func75,Tryz.ntmps75
 go_wp2_with fail
 refine(HFOL.out _ (HB.out _ B1.out)).mono ?_
 rintro e w1 ⟨rfl,hb1⟩
 have T2:=Lib.hid (T1.out.below hb1)
 have O2:=Lib.hid (O1.out.below hb1)
 have B2:Hid (Below w.heap.size w w1):=Lib.hid (bel_on B1.out hb1)
 clear T1 O1 B1 hb1 x1 y1 z1
 go_wp2_with fail
 refine(requireD _ _).mono ?_
 rintro e w' ⟨⟨he,rfl⟩|⟨he,rfl⟩,rfl⟩
 rotate_left
 ·unfold failE
  go_wp2
  have hL:locQ q r D m dep=⟨ob0,m,q.e⟩:=by unfold locQ;rw [if_pos (.inl he)]
  rw [hL]
  exact⟨rfl,keeps_of B2.out,T2.out,.inr ⟨he,rfl⟩⟩
 go_wp2_with fail
 refine(IsNull_any _ _).mono ?_
 rintro e w' ⟨rfl,rfl⟩
 by_cases hw0:q.w=0
 ·have t2:(q.w==0)=true:=by simpa using hw0
  have hL:locQ q r D m dep=⟨ob0,m,0⟩:=by unfold locQ;rw [if_pos (.inr hw0),he]
  have HLQ:=Lib.hid hL
  clear hw0 he hL
  obtain⟨xo,yo,zo⟩:=O2.out
  go_wp2_with fail
  refine abs_post (F:=fun W=>Blk W w.heap.size #[.int .i64 0,.int .i64 0,.int .i64 0,.int .i64 0,.int .i64 0,.int .i64 0,.int .i64 0,.int .i64 0]∧Keeps (KB b) w W∧Blk W b #[.slice A n c,.int .i64 D,.int .i64 X,.int .i64 O,.int .i64 m]) ⟨?_,?_,?_⟩ ?_
  ·exact((((((((O2.out.set 0 (by simp) _).set 1 (by simp) _).set 2 (by simp) _).set 3 (by simp) _).set 4 (by simp) _).set 5 (by simp) _).set 6 (by simp) _).set 7 (by simp) _)
  ·refine keeps_set (keeps_set (keeps_set (keeps_set (keeps_set (keeps_set (keeps_set (keeps_set (keeps_of B2.out) ?_ _) ?_ _) ?_ _) ?_ _) ?_ _) ?_ _) ?_ _) ?_ _<;>exact .inr (Nat.le_refl _)
  ·have hne:w.heap.size≠b:=by have:=HL.out;omega
   exact((((((((T2.out.other (p:=⟨w.heap.size,0,none⟩) hne _).other (p:=⟨w.heap.size,1,none⟩) hne _).other (p:=⟨w.heap.size,2,none⟩) hne _).other (p:=⟨w.heap.size,3,none⟩) hne _).other (p:=⟨w.heap.size,4,none⟩) hne _).other (p:=⟨w.heap.size,5,none⟩) hne _).other (p:=⟨w.heap.size,6,none⟩) hne _).other (p:=⟨w.heap.size,7,none⟩) hne _)
  rintro V ⟨B6,hbv,ht⟩
  exact bodyPost_ret (v:=.agg #[.int .i64 0,.int .i64 0,.int .i64 0,.int .i64 0,.int .i64 0,.int .i64 0,.int .i64 0,.int .i64 0]) (by simp [results,Tryz.results75,go_sem,B6.cell]) rfl ⟨hbv,by rw [HLQ.out];exact ht,.inl ⟨by rw [HLQ.out],by rw [HLQ.out];rfl⟩⟩
 have t2:(q.w==0)=false:=by simpa using hw0
 obtain⟨x2,y2,z2⟩:=T2.out
 go_wp2_with fail
 refine(BEnter_any _ _ _ _ _).mono ?_
 rintro e w2 ⟨rfl,hb2⟩
 have T3:=Lib.hid (T2.out.below hb2)
 have O3:=Lib.hid (O2.out.below hb2)
 have B3:Hid (Below w.heap.size w w2):=Lib.hid (bel_on B2.out hb2)
 clear T2 O2 B2 hb2 x2 y2 z2
 go_wp2_with fail
 refine(requireD _ _).mono ?_
 rintro e w' ⟨⟨he2,rfl⟩|⟨he2,rfl⟩,rfl⟩
 rotate_left
 ·unfold failE
  go_wp2
  have hD:D<dep:=by unfold enterI at he2;split at he2<;>omega
  have hL:locQ q r D m dep=⟨ob0,m,7⟩:=by unfold locQ;rw [if_neg (by rw [he];simp [hw0]),if_pos hD]
  have hE:enterI D dep=7:=by unfold enterI;rw [if_neg (by omega)]
  rw [hL]
  exact⟨rfl,keeps_of B3.out,T3.out,.inr ⟨(by decide:(7:Int)≠0),by rw [hE];rfl⟩⟩
 have hD:¬D<dep:=by unfold enterI at he2;split at he2<;>omega
 have HD:=Lib.hid hD
 have HE2:=Lib.hid he2
 have HE:=Lib.hid he
 have HW0:=Lib.hid hw0
 clear he2 he hw0 hD t2
 obtain⟨x2,y2,z2⟩:=T3.out
 go_wp2_with fail
 refine(HOBJ.out _ (HB.out _ B3.out)).mono ?_
 rintro e w3 ⟨rfl,hb3⟩
 have T4:=Lib.hid ((T3.out.below hb3).alloc (.cells (obA r.1) 74))
 have O4:=Lib.hid ((O3.out.below hb3).alloc (.cells (obA r.1) 74))
 have B4:Hid (Below w.heap.size w (w3.alloc (.cells (obA r.1) 74))):=Lib.hid ((bel_on B3.out hb3).alloc (bel_on B3.out hb3).size _)
 have HSZ:Hid (w.heap.size<w3.heap.size):=Lib.hid (by have:=(O3.out.below hb3).lt;omega)
 have R4:Hid (Blk (w3.alloc (.cells (obA r.1) 74)) w3.heap.size (obA r.1)):=Lib.hid (Blk.fresh _ _ _)
 clear T3 O3 B3 hb3 x2 y2 z2 HOBJ HFOL
 unfold obA at T4 O4 B4 R4
 go_wp2_with fail
 refine(requireD _ _).mono ?_
 rintro e w' ⟨⟨he3,rfl⟩|⟨he3,rfl⟩,rfl⟩
 rotate_left
 ·unfold failE
  go_wp2
  have hL:locQ q r D m dep=⟨ob0,m,r.2⟩:=by unfold locQ;rw [if_neg (by rw [HE.out];simp [HW0.out]),if_neg (by have:=HD.out;omega),if_pos he3]
  rw [hL]
  exact⟨rfl,keeps_of B4.out,T4.out,.inr ⟨he3,rfl⟩⟩
 have HE3:=Lib.hid he3
 clear he3
 go_wp2_with fail
 have HNE:Hid (w.heap.size≠w3.heap.size∧b≠w3.heap.size):=Lib.hid (by have h1:=B4.out.block;have:=R4.out.lt;have h3:=HSZ.out;have h4:=HL.out;omega)
 refine abs_code10 (F:=fun W=>Blk W b #[.slice A n c,.int .i64 D,.int .i64 X,.int .i64 O,.int .i64 m]∧Blk W w.heap.size #[.int .i64 0,.int .i64 0,.int .i64 0,.int .i64 0,.int .i64 0,.int .i64 0,.int .i64 0,.int .i64 0]∧Below w.heap.size w W∧Blk W w3.heap.size #[.int .i64 r.1.k,.int .i64 r.1.sg,.int .i64 r.1.at',.int .i64 r.1.d,.int .i64 r.1.p,.int .i64 r.1.el,.int .i64 r.1.n,.int .i64 r.1.cost]) ⟨T4.out,O4.out,B4.out,R4.out⟩ ?_
 clear T4 O4 B4 R4
 rintro W ⟨h1,h2,h3,h4⟩
 have HT5:=Lib.hid h1
 have HO5:=Lib.hid h2
 have HB5:=Lib.hid h3
 have HR5:=Lib.hid h4
 clear h1 h2 h3 h4
 generalize w3.heap.size=o13 at *
 rename_i KK hKK
 generalize hcm:chargeI m r.1.cost=cm at *
 generalize hce:chargeE m r.1.cost=ce at *
 have HCM:=Lib.hid hcm
 have HCE:=Lib.hid hce
 have HCH:=HCH0
 clear HCH0 hcm hce
 refine wp_region_t13_2 [10,11] (by kernel_rfl) (by kernel_rfl) ?_
 refine t_val (u:=?_) [0] (by kernel_rfl) rfl (by kernel_rfl) trivial (fun ρ wc hbc hcn hq=>?_) ?_;rotate_left
 ·obtain⟨hcn,hfn⟩:=hcn
  simp at hq
  go_simp
  rfl
 refine t_val (u:=?_) [0] (by kernel_rfl) rfl (by kernel_rfl) trivial (fun ρ wc hbc hcn hq=>?_) ?_;rotate_left
 ·obtain⟨hcn,hfn⟩:=hcn
  simp at hq
  go_simp
  rfl
 refine t_val (u:=?_) [52] (by kernel_rfl) rfl (by kernel_rfl) trivial (fun ρ wc hbc hcn hq=>?_) ?_;rotate_left
 ·obtain⟨hcn,hfn⟩:=hcn
  simp at hq
  go_simp
  rfl
 refine t_val (u:=?_) [53] (by kernel_rfl) rfl (by kernel_rfl) trivial (fun ρ wc hbc hcn hq=>?_) ?_;rotate_left
 ·obtain⟨hcn,hfn⟩:=hcn
  simp at hq
  go_simp
  rfl
 refine t_val (u:=?_) [54] (by kernel_rfl) rfl (by kernel_rfl) trivial (fun ρ wc hbc hcn hq=>?_) ?_;rotate_left
 ·obtain⟨hcn,hfn⟩:=hcn
  simp at hq
  have x1:=(HT5.out.drew.below hbc).cell
  have x2:=(HR5.out.drew.below hbc).cell
  go_simp
  rfl
 refine t_val (u:=?_) [13] (by kernel_rfl) rfl (by kernel_rfl) trivial (fun ρ wc hbc hcn hq=>?_) ?_;rotate_left
 ·obtain⟨hcn,hfn⟩:=hcn
  simp at hq
  go_simp
  rfl
 refine t_val (u:=?_) [56] (by kernel_rfl) rfl (by kernel_rfl) trivial (fun ρ wc hbc hcn hq=>?_) ?_;rotate_left
 ·obtain⟨hcn,hfn⟩:=hcn
  simp at hq
  have x1:=(HT5.out.drew.below hbc).cell
  have x2:=(HR5.out.drew.below hbc).cell
  go_simp
  rfl
 refine t_call (T:=Is (.tuple #[.agg #[.int .i64 cm],.int .i64 ce])) (Is (.tuple #[.agg #[.int .i64 cm],.int .i64 ce])) 96 [55,57] (by kernel_rfl) rfl (by kernel_rfl) trivial (stable_is _) (free_is _) (fun _ _ h=>h) (fun ρ wc hbc hcn hq=>?_) ?_
 ·obtain⟨hcn,hfn⟩:=hcn
  simp at hq
  refine⟨_,by go_simp;rfl,?_⟩
  refine(HCH.out _).mono ?_
  rintro e w' ⟨rfl,hbq⟩
  exact⟨_,rfl,rfl,hbq⟩
 refine t_val (u:=?_) [58] (by kernel_rfl) rfl (by kernel_rfl) trivial (fun ρ wc hbc hcn hq=>?_) ?_;rotate_left
 ·obtain⟨hcn,hfn⟩:=hcn
  simp at hq
  go_simp
  rfl
 refine t_val (u:=?_) [50] (by kernel_rfl) rfl (by kernel_rfl) trivial (fun ρ wc hbc hcn hq=>?_) ?_;rotate_left
 ·obtain⟨hcn,hfn⟩:=hcn
  simp at hq
  go_simp
  rfl
 refine t_pure (u:=?_) [50] (by kernel_rfl) rfl (by kernel_rfl) rfl (fun ρ wc hcn hq=>?_) ?_;rotate_left
 ·obtain⟨hcn,hfn⟩:=hcn
  simp at hq
  go_simp
  rfl
 refine t_pure (u:=?_) [51] (by kernel_rfl) rfl (by kernel_rfl) rfl (fun ρ wc hcn hq=>?_) ?_;rotate_left
 ·obtain⟨hcn,hfn⟩:=hcn
  simp at hq
  go_simp
  rfl
 refine t_val (u:=?_) [61] (by kernel_rfl) rfl (by kernel_rfl) trivial (fun ρ wc hbc hcn hq=>?_) ?_;rotate_left
 ·obtain⟨hcn,hfn⟩:=hcn
  simp at hq
  go_simp
  rfl
 refine t_end_lit 66 rfl (fun ff w4 hb7 hq=>?_)
 have hb4:Below W.heap.size W w4:=⟨hb7.os,hb7.tape,hb7.output,hb7.size,hb7.block⟩
 have HT6:=Lib.hid (HT5.out.below hb4)
 have HO6:=Lib.hid (HO5.out.below hb4)
 have HR6:=Lib.hid (HR5.out.below hb4)
 have HB6:=Lib.hid (bel_on HB5.out hb4)
 clear hb4 hb7 HT5 HO5 HR5 HB5 HCH
 simp [AllN] at hq
 simp only [frameL,hq,Nat.zero_add,Nat.reduceAdd]
 clear hq
 obtain⟨x1,y1,z1⟩:=HT6.out
 go_wp2
 refine⟨rfl,?_⟩
 refine hKK _ _ ?_
 clear hKK KK x1 y1 z1
 refine abs_code10 (F:=fun W=>Blk W b #[.slice A n c,.int .i64 D,.int .i64 X,.int .i64 O,.int .i64 cm]∧Blk W w.heap.size #[.int .i64 0,.int .i64 0,.int .i64 0,.int .i64 0,.int .i64 0,.int .i64 0,.int .i64 0,.int .i64 0]∧Keeps (KB b) w W∧Blk W o13 #[.int .i64 r.1.k,.int .i64 r.1.sg,.int .i64 r.1.at',.int .i64 r.1.d,.int .i64 r.1.p,.int .i64 r.1.el,.int .i64 r.1.n,.int .i64 r.1.cost]) ⟨?_,?_,?_,?_⟩ ?_
 ·exact HT6.out.set 4 (by simp) _
 ·exact HO6.out.other (by have:=HL.out;show b≠w.heap.size;omega) _
 ·exact keeps_set (p:=⟨b,4,none⟩) (keeps_of HB6.out) (.inl rfl) _
 ·exact HR6.out.other HNE.out.2 _
 clear HT6 HO6 HR6 HB6
 rintro V ⟨h1,h2,h3,h4⟩
 have HT7:=Lib.hid h1
 have HO7:=Lib.hid h2
 have HK7:=Lib.hid h3
 have HR7:=Lib.hid h4
 clear h1 h2 h3 h4
 go_wp2_with fail
 refine(requireD _ _).mono ?_
 rintro e w' ⟨⟨he4,rfl⟩|⟨he4,rfl⟩,rfl⟩
 rotate_left
 ·unfold failE
  go_wp2
  have hmc:m<r.1.cost:=by rw [←HCE.out] at he4;unfold chargeE at he4;split at he4<;>omega
  have hL:locQ q r D m dep=⟨ob0,m,8⟩:=by unfold locQ;rw [if_neg (by rw [HE.out];simp [HW0.out]),if_neg (by have:=HD.out;omega),if_neg (by rw [HE3.out];simp),if_pos hmc]
  have h1:cm=m:=by rw [←HCM.out];unfold chargeI;rw [if_pos hmc]
  have h2:ce=8:=by rw [←HCE.out];unfold chargeE;rw [if_pos hmc]
  rw [hL,h2]
  rw [h1] at HT7
  exact⟨rfl,HK7.out,HT7.out,.inr ⟨(by decide:(8:Int)≠0),rfl⟩⟩
 have hmc:¬m<r.1.cost:=by rw [←HCE.out] at he4;unfold chargeE at he4;split at he4<;>omega
 have HLQ:Hid (locQ q r D m dep=⟨r.1,m-r.1.cost,0⟩):=Lib.hid (by unfold locQ;rw [if_neg (by rw [HE.out];simp [HW0.out]),if_neg (by have:=HD.out;omega),if_neg (by rw [HE3.out];simp),if_neg hmc])
 have h1:cm=m-r.1.cost:=by rw [←HCM.out];unfold chargeI;rw [if_neg hmc]
 have HC1:=Lib.hid h1
 clear h1 hmc he4 HCM HCE HE HE2 HE3 HW0 HD HB
 obtain⟨x1,y1,z1⟩:=HO7.out
 obtain⟨x2,y2,z2⟩:=HR7.out
 go_wp2_with fail
 refine abs_post (F:=fun W=>Blk W w.heap.size #[.int .i64 r.1.k,.int .i64 r.1.sg,.int .i64 r.1.at',.int .i64 r.1.d,.int .i64 r.1.p,.int .i64 r.1.el,.int .i64 r.1.n,.int .i64 r.1.cost]∧Keeps (KB b) w W∧Blk W b #[.slice A n c,.int .i64 D,.int .i64 X,.int .i64 O,.int .i64 cm]) ⟨?_,?_,?_⟩ ?_
 ·exact((((((((HO7.out.set 0 (by simp) _).set 1 (by simp) _).set 2 (by simp) _).set 3 (by simp) _).set 4 (by simp) _).set 5 (by simp) _).set 6 (by simp) _).set 7 (by simp) _)
 ·refine keeps_set (keeps_set (keeps_set (keeps_set (keeps_set (keeps_set (keeps_set (keeps_set HK7.out ?_ _) ?_ _) ?_ _) ?_ _) ?_ _) ?_ _) ?_ _) ?_ _<;>exact .inr (Nat.le_refl _)
 ·have hne:w.heap.size≠b:=by have:=HL.out;omega
  exact((((((((HT7.out.other (p:=⟨w.heap.size,0,none⟩) hne _).other (p:=⟨w.heap.size,1,none⟩) hne _).other (p:=⟨w.heap.size,2,none⟩) hne _).other (p:=⟨w.heap.size,3,none⟩) hne _).other (p:=⟨w.heap.size,4,none⟩) hne _).other (p:=⟨w.heap.size,5,none⟩) hne _).other (p:=⟨w.heap.size,6,none⟩) hne _).other (p:=⟨w.heap.size,7,none⟩) hne _)
 rintro V2 ⟨B6,hbv,ht⟩
 rw [HC1.out] at ht
 exact bodyPost_ret (v:=.agg #[.int .i64 r.1.k,.int .i64 r.1.sg,.int .i64 r.1.at',.int .i64 r.1.d,.int .i64 r.1.p,.int .i64 r.1.el,.int .i64 r.1.n,.int .i64 r.1.cost]) (by simp [results,Tryz.results75,go_sem,B6.cell]) rfl ⟨hbv,by rw [HLQ.out];exact ht,.inl ⟨by rw [HLQ.out],by rw [HLQ.out];rfl⟩⟩
end
section
attribute [local simp] AllK KnowsV look Is
def TupG (lo:Nat)(xs:List Int)(bb:Bool):Fact:=fun v w=>∃u,v=.tuple #[u,.bool bb]∧Got w lo 48 .u64 u xs
theorem stable_tupg (lo:Nat)(xs:List Int)(bb:Bool):stable (TupG lo xs bb):=fun v w w' ⟨u,h1,h2⟩ hb=>⟨u,h1,h2.below hb (Nat.le_refl _)⟩
def WrdG (lo:Nat)(xs:List Int):Fact:=fun v w=>Got w lo 48 .u64 v xs
theorem stable_wrdg (lo:Nat)(xs:List Int):stable (WrdG lo xs):=fun v w w' h hb=>Got.below h hb (Nat.le_refl _)
def DatG (lo:Nat)(xs:List Int):Fact:=fun v w=>Got w lo 5 .u8 v xs
theorem stable_datg (lo:Nat)(xs:List Int):stable (DatG lo xs):=fun v w w' h hb=>Got.below h hb (Nat.le_refl _)
set_option maxHeartbeats 4000000 in
theorem bytes_walk (b:Nat)(A:Option Addr)(n c:Nat)(D X O m:Int)(o:Ob)(k:Int)(xs:List Int)(bb:Bool)(w0 w:World)(hb:Below b w0 w)(hk:Blk w b #[.slice A n c,.int .i64 D,.int .i64 X,.int .i64 O,.int .i64 m])
  (HSL:Hid (∀w2,Below b w0 w2→Calls Tryz.prog 131 #[.slice A n c,.int .i64 o.sg,.int .i64 o.at',.int .i64 k] w2 fun e w'=>∃v,e=.returned (.tuple #[v,.bool bb])∧Got w' w2.heap.size 48 .u64 v xs∧Below w2.heap.size w2 w'))
  (hw:Wds xs) (hl:xs.length≤20000000) :
  Calls Tryz.prog 113 #[.pointer (some ⟨b,0,none⟩),.agg #[.int .i64 o.k,.int .i64 o.sg,.int .i64 o.at',.int .i64 o.d,.int .i64 o.p,.int .i64 o.el,.int .i64 o.n,.int .i64 o.cost],.int .i64 k] w fun e w'=>∃v,e=.returned v∧Got w' w.heap.size 5 .u8 v (bytesOf xs)∧Below w.heap.size w w':=by
 have hlt:=hk.lt
 have HB1:=Lib.hid ((Below.refl w.heap.size w).alloc (Nat.le_refl _) (.cells (obA o) 74))
 have HZ:Hid (w.heap.size≤(w.alloc (.cells (obA o) 74)).heap.size):=Lib.hid (by simp)
 have HB:=Lib.hid (fun (w2:World) (h:Below (w.alloc (.cells (obA o) 74)).heap.size (w.alloc (.cells (obA o) 74)) w2)=>hb.trans ((bel_on HB1.out h).mono (Nat.le_of_lt hlt)))
 have HT1:=Lib.hid (hk.alloc (.cells (obA o) 74))
 have HO1:Hid (Blk (w.alloc (.cells (obA o) 74)) w.heap.size (obA o)):=Lib.hid (Blk.fresh _ _ _)
 have HW:=Lib.hid hw
 unfold obA at HB1 HZ HB HT1 HO1
 clear hb hk hlt hw
 go_enter Tryz.func113,Tryz.ntmps113
 go_wp2_with fail
 refine abs_code10 (F:=fun W=>W=w.alloc (.cells #[.int .i64 o.k,.int .i64 o.sg,.int .i64 o.at',.int .i64 o.d,.int .i64 o.p,.int .i64 o.el,.int .i64 o.n,.int .i64 o.cost] 74)) rfl ?_
 rintro W1 hW1
 rw [←hW1] at HB1 HZ HB HT1 HO1
 clear hW1
 rename_i KK hKK
 refine wp_region_chain (by kernel_rfl) (by kernel_rfl) ?_
 refine chain_val (u:=?_) [0] rfl (by kernel_rfl) trivial (fun ρ wc hbc hcn hq=>?_) ?_;rotate_left
 ·obtain⟨hcn,hfn⟩:=hcn
  simp at hq
  go_simp
  rfl
 refine chain_val (u:=?_) [10] rfl (by kernel_rfl) trivial (fun ρ wc hbc hcn hq=>?_) ?_;rotate_left
 ·obtain⟨hcn,hfn⟩:=hcn
  simp at hq
  go_simp
  rfl
 refine chain_val (u:=?_) [11] rfl (by kernel_rfl) trivial (fun ρ wc hbc hcn hq=>?_) ?_;rotate_left
 ·obtain⟨hcn,hfn⟩:=hcn
  simp at hq
  go_simp
  rfl
 refine chain_val (u:=?_) [12] rfl (by kernel_rfl) trivial (fun ρ wc hbc hcn hq=>?_) ?_;rotate_left
 ·obtain⟨hcn,hfn⟩:=hcn
  simp at hq
  have x1:=(HT1.out.drew.below hbc).cell
  have x2:=(HO1.out.drew.below hbc).cell
  go_simp
  rfl
 refine chain_val (u:=?_) [4] rfl (by kernel_rfl) trivial (fun ρ wc hbc hcn hq=>?_) ?_;rotate_left
 ·obtain⟨hcn,hfn⟩:=hcn
  simp at hq
  go_simp
  rfl
 refine chain_val (u:=?_) [14] rfl (by kernel_rfl) trivial (fun ρ wc hbc hcn hq=>?_) ?_;rotate_left
 ·obtain⟨hcn,hfn⟩:=hcn
  simp at hq
  have x1:=(HT1.out.drew.below hbc).cell
  have x2:=(HO1.out.drew.below hbc).cell
  go_simp
  rfl
 refine chain_val (u:=?_) [4] rfl (by kernel_rfl) trivial (fun ρ wc hbc hcn hq=>?_) ?_;rotate_left
 ·obtain⟨hcn,hfn⟩:=hcn
  simp at hq
  go_simp
  rfl
 refine chain_val (u:=?_) [16] rfl (by kernel_rfl) trivial (fun ρ wc hbc hcn hq=>?_) ?_;rotate_left
 ·obtain⟨hcn,hfn⟩:=hcn
  simp at hq
  have x1:=(HT1.out.drew.below hbc).cell
  have x2:=(HO1.out.drew.below hbc).cell
  go_simp
  rfl
 refine chain_val (u:=?_) [2] rfl (by kernel_rfl) trivial (fun ρ wc hbc hcn hq=>?_) ?_;rotate_left
 ·obtain⟨hcn,hfn⟩:=hcn
  simp at hq
  go_simp
  rfl
 refine chain_call (T:=TupG w.heap.size xs bb) 131 [13,15,17,18] rfl (by kernel_rfl) trivial (stable_tupg _ _ _) (fun ρ wc hbc hcn hq=>?_) ?_
 ·obtain⟨hcn,hfn⟩:=hcn
  simp at hq
  refine⟨_,by go_simp;rfl,?_⟩
  refine(HSL.out _ (HB.out _ (bel_undrew hbc))).mono ?_
  rintro e w' ⟨v,rfl,hg,hbq⟩
  exact⟨_,rfl,⟨v,rfl,hg.mono (Nat.le_trans HZ.out hbc.size)⟩,hbq⟩
 refine chain_new (T:=TupG w.heap.size xs bb) [19] rfl (by kernel_rfl) trivial (stable_tupg _ _ _) (fun ρ wc hbc hcn hq=>?_) ?_
 ·obtain⟨hcn,hfn⟩:=hcn
  simp at hq
  exact⟨_,wc,by go_simp,hq,Below.refl _ _⟩
 refine chain_new (T:=WrdG w.heap.size xs) [9] rfl (by kernel_rfl) trivial (stable_wrdg _ _) (fun ρ wc hbc hcn hq=>?_) ?_
 ·obtain⟨hcn,hfn⟩:=hcn
  simp at hq
  obtain⟨u,hu,hg⟩:=hq
  exact⟨u,wc,by go_simp,hg,Below.refl _ _⟩
 refine chain_new (T:=Any) [9] rfl (by kernel_rfl) trivial (stable_anyF) (fun ρ wc hbc hcn hq=>?_) ?_
 ·obtain⟨hcn,hfn⟩:=hcn
  simp at hq
  obtain⟨u,hu,hg⟩:=hq
  exact⟨.bool bb,wc,by go_simp,trivial,Below.refl _ _⟩
 refine chain_new (T:=WrdG w.heap.size xs) [20] rfl (by kernel_rfl) trivial (stable_wrdg _ _) (fun ρ wc hbc hcn hq=>?_) ?_
 ·obtain⟨hcn,hfn⟩:=hcn
  simp at hq
  exact⟨_,wc,by go_simp,hq,Below.refl _ _⟩
 refine chain_new (T:=Any) [21] rfl (by kernel_rfl) trivial (stable_anyF) (fun ρ wc hbc hcn hq=>?_) ?_
 ·obtain⟨hcn,hfn⟩:=hcn
  simp at hq
  exact⟨ρ (.tmp 21),wc,by go_simp,trivial,Below.refl _ _⟩
 refine chain_end_lit 24 rfl (fun ff w5 hb5 hk=>?_)
 have h7:=allN_atF hk 7 (by omega) (by omega)
 simp [KnowsV,look] at h7
 have hg:Got w5 w.heap.size 48 .u64 (ff 7) xs:=h7
 obtain⟨A1,c1,e7,hc0,hm0,hri,hnil⟩:=Got.full hg
 simp [AllN] at hk
 simp only [frameL,hk,e7]
 refine hKK _ _ ?_
 have HR:=Lib.hid hri
 have HBW:Hid (Below w.heap.size w w5):=Lib.hid (bel_on HB1.out (bel_undrew hb5))
 clear hk hri hg h7 e7 hb5 HB1 HB HT1 HO1 HSL
 go_wp2_with fail
 refine(Bytes_any A1 c1 xs _ HR.out HW.out (by omega)).mono ?_
 rintro e w6 ⟨v,rfl,hg,hb6⟩
 have hz:=HBW.out.size
 have HG:=Lib.hid (hg.mono hz)
 have HB6:=Lib.hid (bel_on HBW.out hb6)
 clear hg hb6
 go_wp2
 go_ret
 exact⟨v,rfl,HG.out,HB6.out⟩
theorem sliceD {b:Nat}{A:Option Addr}{ls:List (List Int)}{w0 w2:World}(c:Nat)(E:EnvD b A ls w0)(s a n:Int)(hs0:-9223372036854775808≤s)(hs1:s≤9223372036854775807)(ha0:-9223372036854775808≤a)(ha1:a≤9223372036854775807)(hn0:-9223372036854775808≤n)(hn1:n≤9223372036854775807)(hb:Below b w0 w2):
  Calls Tryz.prog 131 #[.slice A ls.length c,.int .i64 s,.int .i64 a,.int .i64 n] w2 fun e w'=>∃v,e=.returned (.tuple #[v,.bool (inB ls s a n)])∧Got w' w2.heap.size 48 .u64 v (datW ls s a n)∧Below w2.heap.size w2 w':=
 ASlice_any A c ls s a n w2 (E.sgAt hb) E.m2 (fun j=>by have:=E.f j;omega) hs0 hs1 ha0 ha1 hn0 hn1
theorem datD_wds {ls:List (List Int)}(hw:Wd2 ls)(s a n:Int):Wds (datW ls s a n):=by
 unfold datW
 split
 ·intro z hz
  exact(hw.at s.toNat) z (List.mem_of_mem_drop (List.mem_of_mem_take hz))
 ·intro z hz;cases hz
theorem datD_length {ls:List (List Int)}(hf:∀j,(seg ls j).length≤20000000)(s a n:Int):(datW ls s a n).length≤20000000:=by
 unfold datW
 split
 ·unfold sliceL
  rw [List.length_take,List.length_drop]
  have:=hf s.toNat
  omega
 ·simp
structure ObOK (ls:List (List Int)) (o:Ob):Prop where
 k:0≤o.k∧o.k≤2
 sg:0≤o.sg∧o.sg≤40
 at':0≤o.at'∧o.at'≤100000000000
 d:0≤o.d∧o.d≤65535
 p:0≤o.p∧o.p≤65535
 el:0≤o.el∧o.el≤7
 n:0≤o.n∧o.n≤536870911
 by':o.k=2→o.el<6→bytesI o.el o.n≤8*(datW ls o.sg o.at' (wordsI o.el o.n)).length
set_option maxHeartbeats 8000000 in
theorem data_any (b:Nat)(A:Option Addr)(c:Nat)(ls:List (List Int))(D X O m:Int)(o:Ob)(w0 w:World)(E:EnvD b A ls w0)(ho:ObOK ls o)(h7:o.el≠7)(hb:Below b w0 w)(hk:Blk w b #[.slice A ls.length c,.int .i64 D,.int .i64 X,.int .i64 O,.int .i64 m]):
  Calls Tryz.prog 98 #[.pointer (some ⟨b,0,none⟩),.agg #[.int .i64 o.k,.int .i64 o.sg,.int .i64 o.at',.int .i64 o.d,.int .i64 o.p,.int .i64 o.el,.int .i64 o.n,.int .i64 o.cost]] w fun e w'=>∃v,e=.returned v∧Got w' w.heap.size 5 .u8 v (datO ls o)∧Below w.heap.size w w':=by
 have hlt:=hk.lt
 obtain⟨hk0,hsg,hat,hd,hp,hel,hn,hby⟩:=ho
 have hwb:=wordsI_lim o.el o.n hn.1 hn.2
 have HBYT:Hid (∀k,-9223372036854775808≤k→k≤9223372036854775807→∀w2,Below b w0 w2→Blk w2 b #[.slice A ls.length c,.int .i64 D,.int .i64 X,.int .i64 O,.int .i64 m]→Calls Tryz.prog 113 #[.pointer (some ⟨b,0,none⟩),.agg #[.int .i64 o.k,.int .i64 o.sg,.int .i64 o.at',.int .i64 o.d,.int .i64 o.p,.int .i64 o.el,.int .i64 o.n,.int .i64 o.cost],.int .i64 k] w2 fun e w'=>∃v,e=.returned v∧Got w' w2.heap.size 5 .u8 v (bytesOf (datW ls o.sg o.at' k))∧Below w2.heap.size w2 w'):=
  Lib.hid (fun k k0 k1 w2 hb2 hk2=>bytes_walk b A ls.length c D X O m o k _ _ w0 w2 hb2 hk2 (Lib.hid (fun w3 hb3=>sliceD c E o.sg o.at' k (by omega) (by omega) (by omega) (by omega) k0 k1 hb3)) (datD_wds E.wd _ _ _) (datD_length E.f _ _ _))
 have HB1:=Lib.hid ((Below.refl w.heap.size w).alloc (Nat.le_refl _) (.cells (obA o) 74))
 have HZ:Hid (w.heap.size≤(w.alloc (.cells (obA o) 74)).heap.size):=Lib.hid (by simp)
 have HB:=Lib.hid (fun (w2:World) (h:Below (w.alloc (.cells (obA o) 74)).heap.size (w.alloc (.cells (obA o) 74)) w2)=>hb.trans ((bel_on HB1.out h).mono (Nat.le_of_lt hlt)))
 have HT1:=Lib.hid (hk.alloc (.cells (obA o) 74))
 have HO1:Hid (Blk (w.alloc (.cells (obA o) 74)) w.heap.size (obA o)):=Lib.hid (Blk.fresh _ _ _)
 unfold obA at HB1 HZ HB HT1 HO1
 by_cases h1:o.k=1
 ·have t1:(o.k==1)=true:=by simpa using h1
  have hD:datO ls o=bytesOf (datW ls o.sg o.at' o.d):=by unfold datO;rw [if_pos h1]
  rw [hD]
  have HBY:=Lib.hid (HBYT.out o.d (by omega) (by omega))
  clear hb hk hlt hby hwb HBYT h1 hD hk0 h7
  generalize bytesOf (datW ls o.sg o.at' o.d)=xs at *
  obtain⟨x2,y2,z2⟩:=HO1.out
  go_enter Tryz.func98,Tryz.ntmps98
  go_wp2_with fail
  refine(HBY.out _ (HB.out _ (Below.refl _ _)) HT1.out).mono ?_
  rintro e w6 ⟨v,rfl,hg,hb6⟩
  have HG:=Lib.hid (hg.mono HZ.out)
  have HB6:=Lib.hid (bel_on HB1.out hb6)
  clear hg hb6
  go_wp2
  go_ret
  exact⟨v,rfl,HG.out,HB6.out⟩
 by_cases h2:o.k=2∧o.el≠6
 ·have t1:(o.k==1)=false:=by simpa using h1
  have t2:(o.k==2)=true:=by simpa using h2.1
  have t3:(o.el != 6)=true:=by simpa using h2.2
  have hD:datO ls o=trimL (bytesOf (datW ls o.sg o.at' (wordsI o.el o.n))) o.el o.n:=by unfold datO;rw [if_neg h1,if_pos h2]
  rw [hD]
  have HBY:=Lib.hid (HBYT.out (wordsI o.el o.n) (by omega) (by omega))
  have HLW:=Lib.hid (fun w2 (h:Below b w0 w2)=>LWords_any o.el o.n w2 (E.tabAt h) hel.1 hel.2 hn.1 hn.2)
  have hlx:(bytesOf (datW ls o.sg o.at' (wordsI o.el o.n))).length=8*(datW ls o.sg o.at' (wordsI o.el o.n)).length:=bytesOf_length _
  have hlb:=datD_length E.f o.sg o.at' (wordsI o.el o.n)
  have hle:=hby h2.1 (by omega)
  have hbt:=bytesOf_bts (datW ls o.sg o.at' (wordsI o.el o.n))
  generalize bytesOf (datW ls o.sg o.at' (wordsI o.el o.n))=xs at *
  have HTR:=Lib.hid (fun A1 c1 w2 (h:Below b w0 w2) (hr:Ri w2 .u8 A1 xs) (hnil:A1=none→c1=0) (hc:xs.length≤c1) (hcm:c1≤maxLen)=>LTrim_any A1 c1 xs o.el o.n w2 (E.tabAt h) hr hbt hnil (by omega) hc (by unfold maxLen at hcm;omega) hel.1 (by omega) hn.1 hn.2 (by omega))
  clear hb hk hlt hby hwb HBYT h1 h2 hD hk0 h7 hlx hlb hle hbt
  generalize trimL xs o.el o.n=ys at *
  obtain⟨x2,y2,z2⟩:=HO1.out
  go_enter Tryz.func98,Tryz.ntmps98
  go_wp2_with fail
  clear x2 y2 z2
  refine abs_code10 (F:=fun W=>W=w.alloc (.cells #[.int .i64 o.k,.int .i64 o.sg,.int .i64 o.at',.int .i64 o.d,.int .i64 o.p,.int .i64 o.el,.int .i64 o.n,.int .i64 o.cost] 74)) rfl ?_
  rintro W1 hW1
  rw [←hW1] at HB1 HZ HB HT1 HO1
  clear hW1
  rename_i KK hKK
  refine wp_region_chain (by kernel_rfl) (by kernel_rfl) ?_
  refine chain_val (u:=?_) [3] rfl (by kernel_rfl) trivial (fun ρ wc hbc hcn hq=>?_) ?_;rotate_left
  ·obtain⟨hcn,hfn⟩:=hcn
   simp at hq
   go_simp
   rfl
  refine chain_val (u:=?_) [23] rfl (by kernel_rfl) trivial (fun ρ wc hbc hcn hq=>?_) ?_;rotate_left
  ·obtain⟨hcn,hfn⟩:=hcn
   simp at hq
   have x2:=(HO1.out.drew.below hbc).cell
   go_simp
   rfl
  refine chain_val (u:=?_) [3] rfl (by kernel_rfl) trivial (fun ρ wc hbc hcn hq=>?_) ?_;rotate_left
  ·obtain⟨hcn,hfn⟩:=hcn
   simp at hq
   go_simp
   rfl
  refine chain_val (u:=?_) [25] rfl (by kernel_rfl) trivial (fun ρ wc hbc hcn hq=>?_) ?_;rotate_left
  ·obtain⟨hcn,hfn⟩:=hcn
   simp at hq
   have x2:=(HO1.out.drew.below hbc).cell
   go_simp
   rfl
  refine chain_val (u:=?_) [0] rfl (by kernel_rfl) trivial (fun ρ wc hbc hcn hq=>?_) ?_;rotate_left
  ·obtain⟨hcn,hfn⟩:=hcn
   simp at hq
   go_simp
   rfl
  refine chain_val (u:=?_) [3] rfl (by kernel_rfl) trivial (fun ρ wc hbc hcn hq=>?_) ?_;rotate_left
  ·obtain⟨hcn,hfn⟩:=hcn
   simp at hq
   have x2:=(HO1.out.drew.below hbc).cell
   go_simp
   rfl
  refine chain_val (u:=?_) [3] rfl (by kernel_rfl) trivial (fun ρ wc hbc hcn hq=>?_) ?_;rotate_left
  ·obtain⟨hcn,hfn⟩:=hcn
   simp at hq
   go_simp
   rfl
  refine chain_val (u:=?_) [29] rfl (by kernel_rfl) trivial (fun ρ wc hbc hcn hq=>?_) ?_;rotate_left
  ·obtain⟨hcn,hfn⟩:=hcn
   simp at hq
   have x2:=(HO1.out.drew.below hbc).cell
   go_simp
   rfl
  refine chain_val (u:=?_) [3] rfl (by kernel_rfl) trivial (fun ρ wc hbc hcn hq=>?_) ?_;rotate_left
  ·obtain⟨hcn,hfn⟩:=hcn
   simp at hq
   go_simp
   rfl
  refine chain_val (u:=?_) [31] rfl (by kernel_rfl) trivial (fun ρ wc hbc hcn hq=>?_) ?_;rotate_left
  ·obtain⟨hcn,hfn⟩:=hcn
   simp at hq
   have x2:=(HO1.out.drew.below hbc).cell
   go_simp
   rfl
  refine chain_call (T:=Is (.int .i64 (wordsI o.el o.n))) 101 [30,32] rfl (by kernel_rfl) trivial (stable_is _) (fun ρ wc hbc hcn hq=>?_) ?_
  ·obtain⟨hcn,hfn⟩:=hcn
   simp at hq
   refine⟨_,by go_simp;rfl,?_⟩
   refine(HLW.out _ (HB.out _ (bel_undrew hbc))).mono ?_
   rintro e w' ⟨rfl,rfl⟩
   exact⟨_,rfl,rfl,Below.refl _ _⟩
  refine chain_call (T:=DatG w.heap.size xs) 113 [27,28,33] rfl (by kernel_rfl) trivial (stable_datg _ _) (fun ρ wc hbc hcn hq=>?_) ?_
  ·obtain⟨hcn,hfn⟩:=hcn
   simp at hq
   refine⟨_,by go_simp;rfl,?_⟩
   refine(HBY.out _ (HB.out _ (bel_undrew hbc)) ((HT1.out.drew.below hbc))).mono ?_
   rintro e w' ⟨v,rfl,hg,hbq⟩
   exact⟨_,rfl,hg.mono (Nat.le_trans HZ.out hbc.size),hbq⟩
  refine chain_call (T:=DatG w.heap.size ys) 114 [24,26,34] rfl (by kernel_rfl) trivial (stable_datg _ _) (fun ρ wc hbc hcn hq=>?_) ?_
  ·obtain⟨hcn,hfn⟩:=hcn
   simp at hq
   obtain⟨h24,h26,h34⟩:=hq
   obtain⟨A1,c1,e34,hc0,hm0,hri,hnil⟩:=Got.full h34
   refine⟨_,by go_simp;rfl,?_⟩
   refine(HTR.out A1 c1 _ (HB.out _ (bel_undrew hbc)) hri hnil hc0 hm0).mono ?_
   rintro e w' ⟨v,rfl,hg,hbq⟩
   exact⟨_,rfl,hg.mono (Nat.le_trans HZ.out hbc.size),hbq⟩
  refine chain_new (T:=DatG w.heap.size ys) [35] rfl (by kernel_rfl) trivial (stable_datg _ _) (fun ρ wc hbc hcn hq=>?_) ?_
  ·obtain⟨hcn,hfn⟩:=hcn
   simp at hq
   exact⟨_,wc,by go_simp,hq,Below.refl _ _⟩
  refine chain_end_lit 36 rfl (fun ff w5 hb5 hk=>?_)
  have h4:=allN_atF hk 4 (by omega) (by omega)
  simp [KnowsV,look] at h4
  have hg:Got w5 w.heap.size 5 .u8 (ff 4) ys:=h4
  simp [AllN] at hk
  simp only [frameL,hk]
  refine hKK _ _ ?_
  have HG:=Lib.hid hg
  have HB6:=Lib.hid (bel_on HB1.out (bel_undrew hb5))
  clear hk hg h4 hb5
  go_wp2
  go_ret
  exact⟨_,rfl,HG.out,HB6.out⟩
 ·have t1:(o.k==1)=false:=by simpa using h1
  have hD:datO ls o=[]:=by unfold datO;rw [if_neg h1,if_neg h2]
  rw [hD]
  clear hb hk hlt hby hwb HBYT h1 hD
  obtain⟨x2,y2,z2⟩:=HO1.out
  by_cases h3:o.k=2
  ·have t2:(o.k==2)=true:=by simpa using h3
   have t3:(o.el != 6)=false:=by have:o.el=6:=Classical.byContradiction (fun h=>h2 ⟨h3,h⟩);simpa using this
   clear h2 h3
   go_enter Tryz.func98,Tryz.ntmps98
   go_wp2
   go_ret
   exact⟨_,rfl,Got.empty _ _ _ _,HB1.out⟩
  ·have t2:(o.k==2)=false:=by simpa using h3
   clear h2 h3
   go_enter Tryz.func98,Tryz.ntmps98
   go_wp2
   go_ret
   exact⟨_,rfl,Got.empty _ _ _ _,HB1.out⟩
end
section
attribute [local simp] AllK KnowsV look Is
set_option maxHeartbeats 4000000 in
theorem caughtD_idle (p:Addr)(w:World):
  CallsD Tryz.prog 68 #[.pointer (some p)] .returning w fun e u' w'=>e=.returned (.tuple #[])∧u'=.returning∧w'=w:=by
 refine callsD_of_wpS Tryz.func68 rfl fun c₀ cs hu=>?_
 apply wpS_seq
 apply wpS_region
 simp [wpOpsS,go_sem,recoverD,hu,Tryz.ntmps68,Exit.thenS]
 apply wpS_of_wp
 go_wp2
 cases c₀
 simp_all [bodyPostS,results,Tryz.results68]
theorem assertD (v:Value)(w:World):(Instr.typeAssert (.iface 108 v) 20 108 true).run Tryz.prog w=.ok (.tuple #[v,.bool true]) w:=by kernel_rfl
set_option maxHeartbeats 4000000 in
theorem caughtD_mal (p:Nat)(er:Int)(x:Value)(older:List PanicEntry)(w:World)(hp:w.cell? ⟨p,0,none⟩=some x)(hpz:w.frozen? ⟨p,0,none⟩=false):
  CallsD Tryz.prog 68 #[.pointer (some ⟨p,0,none⟩)] (.panicking ({ v:=.iface 108 (.agg #[.int .i64 er]),recovered:=false }::older)) w fun e u' w'=>
   e=.returned (.tuple #[])∧u'=.panicking ({ v:=.iface 108 (.agg #[.int .i64 er]),recovered:=true }::older)∧w'=(w.setCell ⟨p,0,none⟩ (.int .i64 er)).alloc (.cells #[.int .i64 er] 108):=by
 have hta:=assertD
 have hpl:p<w.heap.size:=World.block_lt_of_cell? w ⟨p,0,none⟩ hp
 have hb:Below w.heap.size w (w.alloc (.cells #[.int .i64 er] 108)):=(Below.refl _ _).alloc (Nat.le_refl _) _
 have h1:(w.alloc (.cells #[.int .i64 er] 108)).cell? ⟨p,0,none⟩=some x:=(hb.cell (p:=⟨p,0,none⟩) hpl).trans hp
 have h2:(w.alloc (.cells #[.int .i64 er] 108)).frozen? ⟨p,0,none⟩=false:=(hb.frozen (p:=⟨p,0,none⟩) hpl).trans hpz
 clear hb
 refine callsD_of_wpS Tryz.func68 rfl fun c₀ cs hu=>?_
 apply wpS_seq
 apply wpS_region
 simp [wpOpsS,go_sem,recoverD,hu,Tryz.ntmps68,Exit.thenS]
 change Code.wpS Tryz.prog _ _ { tmps:=#[.pointer (some ⟨p,0,none⟩),.iface 108 (.agg #[.int .i64 er]),undef,undef,.iface 108 (.agg #[.int .i64 er]),undef,undef,undef,undef,undef,undef,undef,undef,undef,undef,undef,undef],defers:=[] } _ _
 apply wpS_of_wp
 go_wp2
 cases c₀
 simp [bodyPostS,results,Tryz.results68]
set_option maxHeartbeats 1000000 in
theorem attempt_msg (nb:Nat)(caps:Array Value)(er:Int)(PO:World→Prop)(w:World)(hnb:nb<w.heap.size)(hP1:∀W o,PO W→PO (W.alloc o))(hP2:∀W v,PO W→PO (W.setCell ⟨w.heap.size,0,none⟩ v))
  (HR:Hid (Calls Tryz.prog 52 caps (w.alloc (.cells #[.int .i64 0] 28)) fun e w'=>Keeps (KB nb) (w.alloc (.cells #[.int .i64 0] 28)) w'∧PO w'∧((er=0∧e=.returned (.tuple #[]))∨(er≠0∧e=failE er)))) :
  Calls Tryz.prog 51 #[.func (.func 52) #[] caps] w fun e w'=>e=.returned (.int .i64 er)∧Keeps (KB nb) w w'∧PO w':=by
 have hmf:∀(fn:Fn) (first cap:Array Value) (w:World),(Instr.makeFunc fn first cap).run Tryz.prog w=.ok (.func fn first cap) w:=fun _ _ _ _=>rfl
 have HK1:Hid (Keeps (KB nb) w (w.alloc (.cells #[.int .i64 0] 28))):=Lib.hid (keeps_alloc (Keeps.refl _ _) _)
 have HB1:Hid (Blk (w.alloc (.cells #[.int .i64 0] 28)) w.heap.size #[.int .i64 0]):=Lib.hid (Blk.fresh _ _ _)
 have HNP:Hid (¬KB nb w.heap.size):=Lib.hid (by unfold KB;omega)
 have HP1:=Lib.hid hP1
 have HP2:=Lib.hid hP2
 clear hnb hP1 hP2
 go_enter_defers Tryz.func51,Tryz.ntmps51
 go_wp2_with fail
 refine HR.out.mono ?_
 rintro e w2 ⟨hk2,hpo,⟨he,rfl⟩|⟨he,rfl⟩⟩
 ·obtain⟨x2,y2,z2⟩:=HB1.out.keeps hk2 HNP.out
  have c2:=x2 0
  have f2:=y2 0
  have HK2:=Lib.hid (HK1.out.trans hk2)
  have HPO:=Lib.hid hpo
  clear hk2 hpo HR HB1 x2 y2 z2
  go_wp2
  refine leaves_cons (f:=68) (args:=#[.pointer (some ⟨w.heap.size,0,none⟩)]) (by simp) (by simp [go_sem]) ?_
  refine(caughtD_idle _ _).mono ?_
  rintro e u' w'' ⟨rfl,rfl,rfl⟩
  have k1:(w2.setCell ⟨w.heap.size,0,none⟩ (.int .i64 0)).cell? ⟨w.heap.size,0,none⟩=some (.int .i64 0):=World.cell?_setCell_same' _ _ _ (by rw [c2];rfl)
  have HF:Hid (Keeps (KB nb) w (w2.setCell ⟨w.heap.size,0,none⟩ (.int .i64 0))∧PO (w2.setCell ⟨w.heap.size,0,none⟩ (.int .i64 0))):=Lib.hid ⟨keeps_set HK2.out (.inr (Nat.le_refl _)) _,HP2.out _ _ HPO.out⟩
  clear c2 f2 HK2 HPO HK1
  generalize w2.setCell ⟨w.heap.size,0,none⟩ (.int .i64 0)=V at *
  simp [Leaves,settle,results,Tryz.results51,go_sem,k1]
  exact⟨he.symm,HF.out.1,HF.out.2⟩
 ·obtain⟨x2,y2,z2⟩:=HB1.out.keeps hk2 HNP.out
  have c2:=x2 0
  have f2:=y2 0
  have HK2:=Lib.hid (HK1.out.trans hk2)
  have HPO:=Lib.hid hpo
  clear hk2 hpo HR HB1 x2 y2 z2
  unfold failE
  go_wp2
  refine leaves_cons (f:=68) (args:=#[.pointer (some ⟨w.heap.size,0,none⟩)]) (by simp) (by simp [go_sem]) ?_
  refine(caughtD_mal w.heap.size er _ [] w2 c2 f2).mono ?_
  rintro e u' w'' ⟨rfl,rfl,rfl⟩
  have d1:(w2.setCell ⟨w.heap.size,0,none⟩ (.int .i64 er)).cell? ⟨w.heap.size,0,none⟩=some (.int .i64 er):=World.cell?_setCell_same' _ _ _ (by rw [c2];rfl)
  have HF:Hid (Keeps (KB nb) w ((w2.setCell ⟨w.heap.size,0,none⟩ (.int .i64 er)).alloc (.cells #[.int .i64 er] 108))∧PO ((w2.setCell ⟨w.heap.size,0,none⟩ (.int .i64 er)).alloc (.cells #[.int .i64 er] 108))):=Lib.hid ⟨keeps_alloc (keeps_set HK2.out (.inr (Nat.le_refl _)) _) _,HP1.out _ _ (HP2.out _ _ HPO.out)⟩
  clear c2 f2 HK2 HPO HK1
  generalize w2.setCell ⟨w.heap.size,0,none⟩ (.int .i64 er)=U at *
  have k1:(U.alloc (.cells #[.int .i64 er] 108)).cell? ⟨w.heap.size,0,none⟩=some (.int .i64 er):=(((Below.refl U.heap.size U).alloc (Nat.le_refl _) (.cells #[.int .i64 er] 108)).cell (p:=⟨w.heap.size,0,none⟩) (World.block_lt_of_cell? U ⟨w.heap.size,0,none⟩ d1)).trans d1
  clear d1
  generalize U.alloc (.cells #[.int .i64 er] 108)=V at *
  simp [Leaves,settle,results,Tryz.results51,go_sem,k1]
  exact⟨HF.out.1,HF.out.2⟩
end
end Go.Proofs.YtbpmeppdjicmhaaGreatDoor
