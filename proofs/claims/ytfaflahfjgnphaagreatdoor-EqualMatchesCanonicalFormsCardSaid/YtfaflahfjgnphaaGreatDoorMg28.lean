/- The texts Ref12n, DenB, DenA, DenI (what is wanted of them), one after the other. -/
import Derived.Test.YtfaflahfjgnphaaGreatDoorMg27
import Derived.Recover
namespace Go.Proofs.YtfaflahfjgnphaaGreatDoor
open Go.ChangeShapes Go.WideShapes Go.ChangeAt Go.RowKit
set_option linter.unusedVariables false
set_option linter.unusedSimpArgs false
set_option maxRecDepth 100000
def measV (ls:List (List Int))(D X:Int):Int×Int:=if 0<ls.length∧(seg ls 0).length=0 then (0,0) else if (valV ls D.toNat (startI X) 0 0).e≠0 then (0,(valV ls D.toNat (startI X) 0 0).e) else (startI X-(valV ls D.toNat (startI X) 0 0).m,0)
structure Loc where
 o:Ob
 m:Int
 e:Int
def locQ (q:Fol)(r:Ob×Int)(D m dep:Int):Loc:=
 if q.e≠0∨q.w=0 then ⟨ob0,m,q.e⟩ else if D<dep then ⟨ob0,m,7⟩ else if r.2≠0 then ⟨ob0,m,r.2⟩ else if m<r.1.cost then ⟨ob0,m,8⟩ else ⟨r.1,m-r.1.cost,0⟩
def locD (ls:List (List Int))(D m s a dep:Int):Loc:=locQ (followF ls s a) (objF ls s a) D m dep
def datO (ls:List (List Int))(o:Ob):List Int:=
 if o.k=1 then bytesOf (datW ls o.sg o.at' o.d) else if o.k=2∧o.el≠6 then trimL (bytesOf (datW ls o.sg o.at' (wordsI o.el o.n))) o.el o.n else []
def kidR (val:Int→Int→Int→Val)(o:Ob)(m:Int):Vls:=runK (fun m i=>val m o.sg ((ptrO o).1+i)) m (ptrO o).2.toNat
def contK (val:Int→Int→Int→Val)(ls:List (List Int))(m:Int)(o:Ob):Val:=
 if (kidR val o m).e≠0 then errV (kidR val o m).m (kidR val o m).e else ⟨.mk o.k o.el o.n (datO ls o) (kidR val o m).ks,(kidR val o m).m,0⟩
def elsR (val:Int→Int→Int→Val)(ls:List (List Int))(o:Ob)(m:Int):Vls:=runK (fun m i=>contK val ls m (eleO o i)) m o.n.toNat
def bodyK (val:Int→Int→Int→Val)(ls:List (List Int))(m:Int)(o:Ob):Val:=
 if o.el=7 then (if (elsR val ls o m).e≠0 then errV (elsR val ls o m).m (elsR val ls o m).e else ⟨.mk o.k o.el o.n [] (elsR val ls o m).ks,(elsR val ls o m).m,0⟩) else contK val ls m o
theorem runK_congr {f g:Int→Nat→Val}{m:Int}:∀n,(∀m i,i<n→f m i=g m i)→runK f m n=runK g m n
 | 0,_=>rfl
 | n+1,h=>by
  have ih:=runK_congr (f:=f) (g:=g) (m:=m) n (fun m i hi=>h m i (by omega))
  unfold runK
  rw [ih,h _ n (by omega)]
theorem contK_struct (val:Int→Int→Int→Val)(ls:List (List Int))(m:Int)(o:Ob)(hk:o.k=1)(he:o.el=0)(hn:o.n=0)(hp:0≤o.p):contK val ls m o=structV val ls m o:=by
 have hR:kidR val o m=runK (fun m i=>val m o.sg (o.at'+o.d+i)) m o.p.toNat:=by
  unfold kidR ptrO
  by_cases h:0<o.p
  ·rw [if_pos ⟨hk,h⟩]
  ·have h0:o.p.toNat=0:=by omega
   rw [if_neg (by omega),if_neg (by omega),h0]
   rfl
 unfold contK structV
 rw [hR,hk,he,hn]
 have hd:datO ls o=bytesOf (datW ls o.sg o.at' o.d):=by unfold datO;rw [if_pos hk]
 rw [hd]
theorem contK_list (val:Int→Int→Int→Val)(ls:List (List Int))(m:Int)(o:Ob)(hk:o.k=2)(he0:0≤o.el)(he:o.el<6)(hc:o.cost=wordsI o.el o.n):
  contK val ls m o=⟨.mk 2 o.el o.n (trimL (bytesOf (datW ls o.sg o.at' o.cost)) o.el o.n) [],m,0⟩:=by
 have hR:kidR val o m=⟨[],m,0⟩:=by
  unfold kidR ptrO
  rw [if_neg (by omega),if_neg (by omega)]
  rfl
 unfold contK
 rw [hR,if_neg (by simp),hk,hc]
 have hd:datO ls o=trimL (bytesOf (datW ls o.sg o.at' (wordsI o.el o.n))) o.el o.n:=by unfold datO;rw [if_neg (by omega),if_pos ⟨hk,by omega⟩]
 rw [hd]
theorem contK_ptrs (val:Int→Int→Int→Val)(ls:List (List Int))(m:Int)(o:Ob)(hk:o.k=2)(he:o.el=6)(hn:0≤o.n):contK val ls m o=listV val ls m o:=by
 have hR:kidR val o m=runK (elemV val ls o) m o.n.toNat:=by
  unfold kidR ptrO
  by_cases h:0<o.n
  ·rw [if_neg (by omega),if_pos ⟨hk,he,h⟩]
   refine runK_congr _ (fun m i _=>?_)
   unfold elemV
   rw [if_pos he]
  ·have h0:o.n.toNat=0:=by omega
   rw [if_neg (by omega),if_neg (by omega),h0]
   rfl
 unfold contK listV
 rw [hR,hk]
 have hd:datO ls o=[]:=by unfold datO;rw [if_neg (by omega),if_neg (by omega)]
 rw [hd]
theorem elsR_list (val:Int→Int→Int→Val)(ls:List (List Int))(m:Int)(o:Ob)(he:o.el=7)(hp:0≤o.p):elsR val ls o m=runK (elemV val ls o) m o.n.toNat:=by
 unfold elsR
 refine runK_congr _ (fun m i _=>?_)
 unfold elemV
 rw [if_neg (by omega)]
 exact contK_struct val ls m (eleO o i) rfl rfl rfl hp
theorem compF_k (ls:List (List Int))(s st c cost:Int)(h:(compF ls s st c cost).2=0):(compF ls s st c cost).1.k≠0:=by
 unfold compF at h ⊢
 split at h
 ·exact absurd h (by decide)
 ·rename_i h1
  rw [if_neg h1]
  show (2:Int)≠0
  decide
theorem objF_some (ls:List (List Int))(s a:Int)(h1:(followF ls s a).e=0)(h2:(followF ls s a).w≠0)(h3:(objF ls s a).2=0):(objF ls s a).1.k≠0:=by
 unfold objF at h3 ⊢
 rw [if_neg (by simp [h1,h2])] at h3 ⊢
 unfold objP at h3 ⊢
 repeat' split at h3
 all_goals try (exfalso;revert h3;simp;done)
 all_goals first|(simp_all;done)|(have h4:=compF_k _ _ _ _ _ h3;simp_all)
theorem valV_loc {ls:List (List Int)}(hw:Wd2 ls)(hm:ls.length≤40)(hf:∀j,(seg ls j).length≤20000000)(D m s a dep:Int)(r:Nat)(hr:(D-dep+1).toNat=r):
  valV ls r m s a=if (locD ls D m s a dep).e≠0 then errV (locD ls D m s a dep).m (locD ls D m s a dep).e else bodyK (valV ls (r-1)) ls (locD ls D m s a dep).m (locD ls D m s a dep).o:=by
 have hC:=objF_cases hw (by omega) (fun j=>by have:=hf j;omega) s a
 have hS:=objF_some ls s a
 have hnull:∀r m,errV m 0=bodyK (valV ls r) ls m ob0:=fun r m=>rfl
 unfold locD
 generalize hq0:followF ls s a=q0 at *
 by_cases h1:q0.e≠0∨q0.w=0
 ·have hL:locQ q0 (objF ls s a) D m dep=⟨ob0,m,q0.e⟩:=by unfold locQ;rw [if_pos h1]
  have hV:valV ls r m s a=errV m q0.e:=by
   cases r<;>(unfold valV;rw [hq0,if_pos h1])
  rw [hL,hV]
  by_cases h2:q0.e=0
  ·rw [h2,if_neg (by simp)]
   exact hnull _ _
  ·rw [if_pos h2]
 cases r with
 | zero=>
  have hL:locQ q0 (objF ls s a) D m dep=⟨ob0,m,7⟩:=by unfold locQ;rw [if_neg h1,if_pos (by clear hC;omega)]
  rw [hL]
  unfold valV
  rw [hq0,if_neg h1]
  rfl
 | succ r=>
  unfold valV
  rw [hq0,if_neg h1]
  unfold bodyV
  generalize objF ls s a=q at *
  have hD:¬D<dep:=by clear hC hS;omega
  by_cases h2:q.2≠0
  ·have hL:locQ q0 q D m dep=⟨ob0,m,q.2⟩:=by unfold locQ;rw [if_neg h1,if_neg hD,if_pos h2]
   rw [hL,if_pos h2,if_pos h2]
  ·rw [if_neg h2]
   by_cases h3:m<q.1.cost
   ·have hL:locQ q0 q D m dep=⟨ob0,m,8⟩:=by unfold locQ;rw [if_neg h1,if_neg hD,if_neg h2,if_pos h3]
    rw [hL,if_pos h3]
    rfl
   have hL:locQ q0 q D m dep=⟨q.1,m-q.1.cost,0⟩:=by unfold locQ;rw [if_neg h1,if_neg hD,if_neg h2,if_neg h3]
   rw [hL,if_neg h3,if_neg (show ¬(Loc.e ⟨q.1,m-q.1.cost,0⟩≠0) from fun h=>h rfl)]
   have hk0:=hS (Classical.byContradiction fun h=>h1 (.inl h)) (fun h=>h1 (.inr h)) (Classical.byContradiction fun h=>h2 h)
   show _=bodyK (valV ls r) ls (m-q.1.cost) q.1
   rcases hC with ⟨h4,-⟩|⟨-,h4,h5,h6,-,-,h7,-⟩|⟨-,h4,h5,h6,h7,-,-,-,h8,-⟩|⟨-,h4,h5,h6,-,-,-,h7,-⟩
   ·rw [h4] at hk0;exact absurd rfl hk0
   ·rw [if_pos h4]
    unfold bodyK
    rw [if_neg (by omega)]
    exact(contK_struct _ _ _ _ h4 h5 h6 h7).symm
   ·rw [if_neg (show ¬q.1.k=1 by omega)]
    unfold bodyK
    rw [if_neg (show ¬q.1.el=7 by omega)]
    by_cases h9:q.1.el<6
    ·rw [if_pos h9]
     exact(contK_list _ _ _ _ h4 h5 h9 h8).symm
    ·rw [if_neg h9]
     exact(contK_ptrs _ _ _ _ h4 (by omega) h7).symm
   ·rw [if_neg (show ¬q.1.k=1 by omega),if_neg (show ¬q.1.el<6 by omega)]
    unfold bodyK listV
    rw [if_pos h5,elsR_list _ _ _ _ h5 h7,h4]
section
attribute [local simp] AllK KnowsV look Is
def failE (e:Int):Ending:=.panicked [{ v:=.iface 79 (.agg #[.int .i64 e]),recovered:=false }]
theorem requireD (e:Int)(w:World):Calls Tryz.prog 70 #[.int .i64 e] w fun r w'=>((e=0∧r=.returned (.tuple #[]))∨(e≠0∧r=failE e))∧w=w':=by
 by_cases h:e=0
 ·subst h
  go_enter Tryz.func70,Tryz.ntmps70
  go_wp2
  go_end0
  exact⟨by simp,rfl⟩
 ·have t1:(e != 0)=true:=by simpa using h
  go_enter Tryz.func70,Tryz.ntmps70
  go_wp2
  exact⟨rfl,.inr ⟨h,rfl⟩,rfl⟩
theorem bel_undrew {w wc:World}(h:Below w.drew.heap.size w.drew wc):Below w.heap.size w wc:=⟨h.os,h.tape,h.output,h.size,h.block⟩
structure EnvD (b:Nat) (A:Option Addr) (ls:List (List Int)) (w0:World):Prop where
 sg:Sg w0 A ls
 tab:TabOK w0
 b0:w0.heap.size≤b
 wd:Wd2 ls
 m:ls.length≤40
 f:∀j,(seg ls j).length≤20000000
theorem EnvD.sgAt {b:Nat}{A:Option Addr}{ls:List (List Int)}{w0 w:World}(E:EnvD b A ls w0)(hb:Below b w0 w):Sg w A ls:=E.sg.below hb E.b0
theorem EnvD.tabAt {b:Nat}{A:Option Addr}{ls:List (List Int)}{w0 w:World}(E:EnvD b A ls w0)(hb:Below b w0 w):TabOK w:=E.tab.below hb E.b0
theorem EnvD.m2 {b:Nat}{A:Option Addr}{ls:List (List Int)}{w0:World}(E:EnvD b A ls w0):ls.length≤140737488355328:=by have:=E.m;omega
theorem EnvD.f2 {b:Nat}{A:Option Addr}{ls:List (List Int)}{w0:World}(E:EnvD b A ls w0):∀j,(seg ls j).length≤140737488355328:=fun j=>by have:=E.f j;omega
def obV (o:Ob):Value:=.agg #[.int .i64 o.k,.int .i64 o.sg,.int .i64 o.at',.int .i64 o.d,.int .i64 o.p,.int .i64 o.el,.int .i64 o.n,.int .i64 o.cost]
set_option maxHeartbeats 4000000 in
theorem object_walk (b:Nat)(A:Option Addr)(n c:Nat)(D X O m s a dep:Int)(q:Fol)(r:Ob×Int)(w0 w:World)(hb:Below b w0 w)(hk:Blk w b #[.slice A n c,.int .i64 D,.int .i64 X,.int .i64 O,.int .i64 m])
  (HFOL:Hid (∀w2,Below b w0 w2→Calls Tryz.prog 52 #[.slice A n c,.int .i64 s,.int .i64 a] w2 fun e w'=>e=.returned (.tuple #[.int .u64 q.w,.int .i64 q.s,.int .i64 q.b,.int .i64 q.e])∧Below w2.heap.size w2 w'))
  (HOBJ:Hid (∀w2,Below b w0 w2→Calls Tryz.prog 33 #[.slice A n c,.int .i64 s,.int .i64 a] w2 fun e w'=>e=.returned (.tuple #[.agg #[.int .i64 r.1.k,.int .i64 r.1.sg,.int .i64 r.1.at',.int .i64 r.1.d,.int .i64 r.1.p,.int .i64 r.1.el,.int .i64 r.1.n,.int .i64 r.1.cost],.int .i64 r.2])∧Below w2.heap.size w2 w'))
  (HCH0:Hid (∀w2,Calls Tryz.prog 72 #[.agg #[.int .i64 m],.int .i64 r.1.cost] w2 fun e w'=>e=.returned (.tuple #[.agg #[.int .i64 (chargeI m r.1.cost)],.int .i64 (chargeE m r.1.cost)])∧Below w2.heap.size w2 w')) :
  Calls Tryz.prog 43 #[.pointer (some ⟨b,0,none⟩),.int .i64 s,.int .i64 a,.int .i64 dep] w fun e w'=>Keeps (KB b) w w'∧Blk w' b #[.slice A n c,.int .i64 D,.int .i64 X,.int .i64 O,.int .i64 (locQ q r D m dep).m] ∧
   (((locQ q r D m dep).e=0∧e=.returned (obV (locQ q r D m dep).o))∨((locQ q r D m dep).e≠0∧e=failE (locQ q r D m dep).e)):=by
 have hlt:=hk.lt
 have HB:=Lib.hid (fun (w2:World) (h:Below w.heap.size w w2)=>hb.trans (h.mono (Nat.le_of_lt hlt)))
 have HL:Hid (b<w.heap.size):=Lib.hid hlt
 have H1:=hk.alloc (.cells #[.int .i64 0,.int .i64 0,.int .i64 0,.int .i64 0,.int .i64 0,.int .i64 0,.int .i64 0,.int .i64 0] 48)
 have O1:=Lib.hid (Blk.fresh w #[.int .i64 0,.int .i64 0,.int .i64 0,.int .i64 0,.int .i64 0,.int .i64 0,.int .i64 0,.int .i64 0] 48)
 have B1:=Lib.hid ((Below.refl w.heap.size w).alloc (Nat.le_refl _) (.cells #[.int .i64 0,.int .i64 0,.int .i64 0,.int .i64 0,.int .i64 0,.int .i64 0,.int .i64 0,.int .i64 0] 48))
 have T1:=Lib.hid H1
 obtain⟨x1,y1,z1⟩:=H1
 clear hb hk hlt
 go_enter Tryz.func43,Tryz.ntmps43
 go_wp2_with fail
 refine(HFOL.out _ (HB.out _ B1.out)).mono ?_
 rintro e w1 ⟨rfl,hb1⟩
 have T2:=Lib.hid (T1.out.below hb1)
 have O2:=Lib.hid (O1.out.below hb1)
 have B2:Hid (Below w.heap.size w w1):=Lib.hid (bel_on B1.out hb1)
 clear T1 O1 B1 hb1 x1 y1 z1
 go_wp2_with fail
 refine(requireD _ _).mono ?_
 rintro e w' ⟨⟨he,rfl⟩|⟨he,rfl⟩,rfl⟩
 rotate_left
 ·unfold failE
  go_wp2
  have hL:locQ q r D m dep=⟨ob0,m,q.e⟩:=by unfold locQ;rw [if_pos (.inl he)]
  rw [hL]
  exact⟨rfl,keeps_of B2.out,T2.out,.inr ⟨he,rfl⟩⟩
 go_wp2_with fail
 refine(IsNull_any _ _).mono ?_
 rintro e w' ⟨rfl,rfl⟩
 by_cases hw0:q.w=0
 ·have t2:(q.w==0)=true:=by simpa using hw0
  have hL:locQ q r D m dep=⟨ob0,m,0⟩:=by unfold locQ;rw [if_pos (.inr hw0),he]
  have HLQ:=Lib.hid hL
  clear hw0 he hL
  obtain⟨xo,yo,zo⟩:=O2.out
  go_wp2_with fail
  refine abs_post (F:=fun W=>Blk W w.heap.size #[.int .i64 0,.int .i64 0,.int .i64 0,.int .i64 0,.int .i64 0,.int .i64 0,.int .i64 0,.int .i64 0]∧Keeps (KB b) w W∧Blk W b #[.slice A n c,.int .i64 D,.int .i64 X,.int .i64 O,.int .i64 m]) ⟨?_,?_,?_⟩ ?_
  ·exact((((((((O2.out.set 0 (by simp) _).set 1 (by simp) _).set 2 (by simp) _).set 3 (by simp) _).set 4 (by simp) _).set 5 (by simp) _).set 6 (by simp) _).set 7 (by simp) _)
  ·refine keeps_set (keeps_set (keeps_set (keeps_set (keeps_set (keeps_set (keeps_set (keeps_set (keeps_of B2.out) ?_ _) ?_ _) ?_ _) ?_ _) ?_ _) ?_ _) ?_ _) ?_ _<;>exact .inr (Nat.le_refl _)
  ·have hne:w.heap.size≠b:=by have:=HL.out;omega
   exact((((((((T2.out.other (p:=⟨w.heap.size,0,none⟩) hne _).other (p:=⟨w.heap.size,1,none⟩) hne _).other (p:=⟨w.heap.size,2,none⟩) hne _).other (p:=⟨w.heap.size,3,none⟩) hne _).other (p:=⟨w.heap.size,4,none⟩) hne _).other (p:=⟨w.heap.size,5,none⟩) hne _).other (p:=⟨w.heap.size,6,none⟩) hne _).other (p:=⟨w.heap.size,7,none⟩) hne _)
  rintro V ⟨B6,hbv,ht⟩
  exact bodyPost_ret (v:=.agg #[.int .i64 0,.int .i64 0,.int .i64 0,.int .i64 0,.int .i64 0,.int .i64 0,.int .i64 0,.int .i64 0]) (by simp [results,Tryz.results43,go_sem,B6.cell]) rfl ⟨hbv,by rw [HLQ.out];exact ht,.inl ⟨by rw [HLQ.out],by rw [HLQ.out];rfl⟩⟩
 have t2:(q.w==0)=false:=by simpa using hw0
 obtain⟨x2,y2,z2⟩:=T2.out
 go_wp2_with fail
 refine(BEnter_any _ _ _ _ _).mono ?_
 rintro e w2 ⟨rfl,hb2⟩
 have T3:=Lib.hid (T2.out.below hb2)
 have O3:=Lib.hid (O2.out.below hb2)
 have B3:Hid (Below w.heap.size w w2):=Lib.hid (bel_on B2.out hb2)
 clear T2 O2 B2 hb2 x2 y2 z2
 go_wp2_with fail
 refine(requireD _ _).mono ?_
 rintro e w' ⟨⟨he2,rfl⟩|⟨he2,rfl⟩,rfl⟩
 rotate_left
 ·unfold failE
  go_wp2
  have hD:D<dep:=by unfold enterI at he2;split at he2<;>omega
  have hL:locQ q r D m dep=⟨ob0,m,7⟩:=by unfold locQ;rw [if_neg (by rw [he];simp [hw0]),if_pos hD]
  have hE:enterI D dep=7:=by unfold enterI;rw [if_neg (by omega)]
  rw [hL]
  exact⟨rfl,keeps_of B3.out,T3.out,.inr ⟨(by decide:(7:Int)≠0),by rw [hE];rfl⟩⟩
 have hD:¬D<dep:=by unfold enterI at he2;split at he2<;>omega
 have HD:=Lib.hid hD
 have HE2:=Lib.hid he2
 have HE:=Lib.hid he
 have HW0:=Lib.hid hw0
 clear he2 he hw0 hD t2
 obtain⟨x2,y2,z2⟩:=T3.out
 go_wp2_with fail
 refine(HOBJ.out _ (HB.out _ B3.out)).mono ?_
 rintro e w3 ⟨rfl,hb3⟩
 have T4:=Lib.hid ((T3.out.below hb3).alloc (.cells (obA r.1) 48))
 have O4:=Lib.hid ((O3.out.below hb3).alloc (.cells (obA r.1) 48))
 have B4:Hid (Below w.heap.size w (w3.alloc (.cells (obA r.1) 48))):=Lib.hid ((bel_on B3.out hb3).alloc (bel_on B3.out hb3).size _)
 have HSZ:Hid (w.heap.size<w3.heap.size):=Lib.hid (by have:=(O3.out.below hb3).lt;omega)
 have R4:Hid (Blk (w3.alloc (.cells (obA r.1) 48)) w3.heap.size (obA r.1)):=Lib.hid (Blk.fresh _ _ _)
 clear T3 O3 B3 hb3 x2 y2 z2 HOBJ HFOL
 unfold obA at T4 O4 B4 R4
 go_wp2_with fail
 refine(requireD _ _).mono ?_
 rintro e w' ⟨⟨he3,rfl⟩|⟨he3,rfl⟩,rfl⟩
 rotate_left
 ·unfold failE
  go_wp2
  have hL:locQ q r D m dep=⟨ob0,m,r.2⟩:=by unfold locQ;rw [if_neg (by rw [HE.out];simp [HW0.out]),if_neg (by have:=HD.out;omega),if_pos he3]
  rw [hL]
  exact⟨rfl,keeps_of B4.out,T4.out,.inr ⟨he3,rfl⟩⟩
 have HE3:=Lib.hid he3
 clear he3
 go_wp2_with fail
 have HNE:Hid (w.heap.size≠w3.heap.size∧b≠w3.heap.size):=Lib.hid (by have h1:=B4.out.block;have:=R4.out.lt;have h3:=HSZ.out;have h4:=HL.out;omega)
 refine abs_code10 (F:=fun W=>Blk W b #[.slice A n c,.int .i64 D,.int .i64 X,.int .i64 O,.int .i64 m]∧Blk W w.heap.size #[.int .i64 0,.int .i64 0,.int .i64 0,.int .i64 0,.int .i64 0,.int .i64 0,.int .i64 0,.int .i64 0]∧Below w.heap.size w W∧Blk W w3.heap.size #[.int .i64 r.1.k,.int .i64 r.1.sg,.int .i64 r.1.at',.int .i64 r.1.d,.int .i64 r.1.p,.int .i64 r.1.el,.int .i64 r.1.n,.int .i64 r.1.cost]) ⟨T4.out,O4.out,B4.out,R4.out⟩ ?_
 clear T4 O4 B4 R4
 rintro W ⟨h1,h2,h3,h4⟩
 have HT5:=Lib.hid h1
 have HO5:=Lib.hid h2
 have HB5:=Lib.hid h3
 have HR5:=Lib.hid h4
 clear h1 h2 h3 h4
 generalize w3.heap.size=o13 at *
 rename_i KK hKK
 generalize hcm:chargeI m r.1.cost=cm at *
 generalize hce:chargeE m r.1.cost=ce at *
 have HCM:=Lib.hid hcm
 have HCE:=Lib.hid hce
 have HCH:=HCH0
 clear HCH0 hcm hce
 refine wp_region_t13_2 [10,11] (by kernel_rfl) (by kernel_rfl) ?_
 refine t_val (u:=?_) [0] (by kernel_rfl) rfl (by kernel_rfl) trivial (fun ρ wc hbc hcn hq=>?_) ?_;rotate_left
 ·obtain⟨hcn,hfn⟩:=hcn
  simp at hq
  go_simp
  rfl
 refine t_val (u:=?_) [0] (by kernel_rfl) rfl (by kernel_rfl) trivial (fun ρ wc hbc hcn hq=>?_) ?_;rotate_left
 ·obtain⟨hcn,hfn⟩:=hcn
  simp at hq
  go_simp
  rfl
 refine t_val (u:=?_) [52] (by kernel_rfl) rfl (by kernel_rfl) trivial (fun ρ wc hbc hcn hq=>?_) ?_;rotate_left
 ·obtain⟨hcn,hfn⟩:=hcn
  simp at hq
  go_simp
  rfl
 refine t_val (u:=?_) [53] (by kernel_rfl) rfl (by kernel_rfl) trivial (fun ρ wc hbc hcn hq=>?_) ?_;rotate_left
 ·obtain⟨hcn,hfn⟩:=hcn
  simp at hq
  go_simp
  rfl
 refine t_val (u:=?_) [54] (by kernel_rfl) rfl (by kernel_rfl) trivial (fun ρ wc hbc hcn hq=>?_) ?_;rotate_left
 ·obtain⟨hcn,hfn⟩:=hcn
  simp at hq
  have x1:=(HT5.out.drew.below hbc).cell
  have x2:=(HR5.out.drew.below hbc).cell
  go_simp
  rfl
 refine t_val (u:=?_) [13] (by kernel_rfl) rfl (by kernel_rfl) trivial (fun ρ wc hbc hcn hq=>?_) ?_;rotate_left
 ·obtain⟨hcn,hfn⟩:=hcn
  simp at hq
  go_simp
  rfl
 refine t_val (u:=?_) [56] (by kernel_rfl) rfl (by kernel_rfl) trivial (fun ρ wc hbc hcn hq=>?_) ?_;rotate_left
 ·obtain⟨hcn,hfn⟩:=hcn
  simp at hq
  have x1:=(HT5.out.drew.below hbc).cell
  have x2:=(HR5.out.drew.below hbc).cell
  go_simp
  rfl
 refine t_call (T:=Is (.tuple #[.agg #[.int .i64 cm],.int .i64 ce])) (Is (.tuple #[.agg #[.int .i64 cm],.int .i64 ce])) 72 [55,57] (by kernel_rfl) rfl (by kernel_rfl) trivial (stable_is _) (free_is _) (fun _ _ h=>h) (fun ρ wc hbc hcn hq=>?_) ?_
 ·obtain⟨hcn,hfn⟩:=hcn
  simp at hq
  refine⟨_,by go_simp;rfl,?_⟩
  refine(HCH.out _).mono ?_
  rintro e w' ⟨rfl,hbq⟩
  exact⟨_,rfl,rfl,hbq⟩
 refine t_val (u:=?_) [58] (by kernel_rfl) rfl (by kernel_rfl) trivial (fun ρ wc hbc hcn hq=>?_) ?_;rotate_left
 ·obtain⟨hcn,hfn⟩:=hcn
  simp at hq
  go_simp
  rfl
 refine t_val (u:=?_) [50] (by kernel_rfl) rfl (by kernel_rfl) trivial (fun ρ wc hbc hcn hq=>?_) ?_;rotate_left
 ·obtain⟨hcn,hfn⟩:=hcn
  simp at hq
  go_simp
  rfl
 refine t_pure (u:=?_) [50] (by kernel_rfl) rfl (by kernel_rfl) rfl (fun ρ wc hcn hq=>?_) ?_;rotate_left
 ·obtain⟨hcn,hfn⟩:=hcn
  simp at hq
  go_simp
  rfl
 refine t_pure (u:=?_) [51] (by kernel_rfl) rfl (by kernel_rfl) rfl (fun ρ wc hcn hq=>?_) ?_;rotate_left
 ·obtain⟨hcn,hfn⟩:=hcn
  simp at hq
  go_simp
  rfl
 refine t_val (u:=?_) [61] (by kernel_rfl) rfl (by kernel_rfl) trivial (fun ρ wc hbc hcn hq=>?_) ?_;rotate_left
 ·obtain⟨hcn,hfn⟩:=hcn
  simp at hq
  go_simp
  rfl
 refine t_end_lit 66 rfl (fun ff w4 hb7 hq=>?_)
 have hb4:Below W.heap.size W w4:=⟨hb7.os,hb7.tape,hb7.output,hb7.size,hb7.block⟩
 have HT6:=Lib.hid (HT5.out.below hb4)
 have HO6:=Lib.hid (HO5.out.below hb4)
 have HR6:=Lib.hid (HR5.out.below hb4)
 have HB6:=Lib.hid (bel_on HB5.out hb4)
 clear hb4 hb7 HT5 HO5 HR5 HB5 HCH
 simp [AllN] at hq
 simp only [frameL,hq,Nat.zero_add,Nat.reduceAdd]
 clear hq
 obtain⟨x1,y1,z1⟩:=HT6.out
 go_wp2
 refine⟨rfl,?_⟩
 refine hKK _ _ ?_
 clear hKK KK x1 y1 z1
 refine abs_code10 (F:=fun W=>Blk W b #[.slice A n c,.int .i64 D,.int .i64 X,.int .i64 O,.int .i64 cm]∧Blk W w.heap.size #[.int .i64 0,.int .i64 0,.int .i64 0,.int .i64 0,.int .i64 0,.int .i64 0,.int .i64 0,.int .i64 0]∧Keeps (KB b) w W∧Blk W o13 #[.int .i64 r.1.k,.int .i64 r.1.sg,.int .i64 r.1.at',.int .i64 r.1.d,.int .i64 r.1.p,.int .i64 r.1.el,.int .i64 r.1.n,.int .i64 r.1.cost]) ⟨?_,?_,?_,?_⟩ ?_
 ·exact HT6.out.set 4 (by simp) _
 ·exact HO6.out.other (by have:=HL.out;show b≠w.heap.size;omega) _
 ·exact keeps_set (p:=⟨b,4,none⟩) (keeps_of HB6.out) (.inl rfl) _
 ·exact HR6.out.other HNE.out.2 _
 clear HT6 HO6 HR6 HB6
 rintro V ⟨h1,h2,h3,h4⟩
 have HT7:=Lib.hid h1
 have HO7:=Lib.hid h2
 have HK7:=Lib.hid h3
 have HR7:=Lib.hid h4
 clear h1 h2 h3 h4
 go_wp2_with fail
 refine(requireD _ _).mono ?_
 rintro e w' ⟨⟨he4,rfl⟩|⟨he4,rfl⟩,rfl⟩
 rotate_left
 ·unfold failE
  go_wp2
  have hmc:m<r.1.cost:=by rw [←HCE.out] at he4;unfold chargeE at he4;split at he4<;>omega
  have hL:locQ q r D m dep=⟨ob0,m,8⟩:=by unfold locQ;rw [if_neg (by rw [HE.out];simp [HW0.out]),if_neg (by have:=HD.out;omega),if_neg (by rw [HE3.out];simp),if_pos hmc]
  have h1:cm=m:=by rw [←HCM.out];unfold chargeI;rw [if_pos hmc]
  have h2:ce=8:=by rw [←HCE.out];unfold chargeE;rw [if_pos hmc]
  rw [hL,h2]
  rw [h1] at HT7
  exact⟨rfl,HK7.out,HT7.out,.inr ⟨(by decide:(8:Int)≠0),rfl⟩⟩
 have hmc:¬m<r.1.cost:=by rw [←HCE.out] at he4;unfold chargeE at he4;split at he4<;>omega
 have HLQ:Hid (locQ q r D m dep=⟨r.1,m-r.1.cost,0⟩):=Lib.hid (by unfold locQ;rw [if_neg (by rw [HE.out];simp [HW0.out]),if_neg (by have:=HD.out;omega),if_neg (by rw [HE3.out];simp),if_neg hmc])
 have h1:cm=m-r.1.cost:=by rw [←HCM.out];unfold chargeI;rw [if_neg hmc]
 have HC1:=Lib.hid h1
 clear h1 hmc he4 HCM HCE HE HE2 HE3 HW0 HD HB
 obtain⟨x1,y1,z1⟩:=HO7.out
 obtain⟨x2,y2,z2⟩:=HR7.out
 go_wp2_with fail
 refine abs_post (F:=fun W=>Blk W w.heap.size #[.int .i64 r.1.k,.int .i64 r.1.sg,.int .i64 r.1.at',.int .i64 r.1.d,.int .i64 r.1.p,.int .i64 r.1.el,.int .i64 r.1.n,.int .i64 r.1.cost]∧Keeps (KB b) w W∧Blk W b #[.slice A n c,.int .i64 D,.int .i64 X,.int .i64 O,.int .i64 cm]) ⟨?_,?_,?_⟩ ?_
 ·exact((((((((HO7.out.set 0 (by simp) _).set 1 (by simp) _).set 2 (by simp) _).set 3 (by simp) _).set 4 (by simp) _).set 5 (by simp) _).set 6 (by simp) _).set 7 (by simp) _)
 ·refine keeps_set (keeps_set (keeps_set (keeps_set (keeps_set (keeps_set (keeps_set (keeps_set HK7.out ?_ _) ?_ _) ?_ _) ?_ _) ?_ _) ?_ _) ?_ _) ?_ _<;>exact .inr (Nat.le_refl _)
 ·have hne:w.heap.size≠b:=by have:=HL.out;omega
  exact((((((((HT7.out.other (p:=⟨w.heap.size,0,none⟩) hne _).other (p:=⟨w.heap.size,1,none⟩) hne _).other (p:=⟨w.heap.size,2,none⟩) hne _).other (p:=⟨w.heap.size,3,none⟩) hne _).other (p:=⟨w.heap.size,4,none⟩) hne _).other (p:=⟨w.heap.size,5,none⟩) hne _).other (p:=⟨w.heap.size,6,none⟩) hne _).other (p:=⟨w.heap.size,7,none⟩) hne _)
 rintro V2 ⟨B6,hbv,ht⟩
 rw [HC1.out] at ht
 exact bodyPost_ret (v:=.agg #[.int .i64 r.1.k,.int .i64 r.1.sg,.int .i64 r.1.at',.int .i64 r.1.d,.int .i64 r.1.p,.int .i64 r.1.el,.int .i64 r.1.n,.int .i64 r.1.cost]) (by simp [results,Tryz.results43,go_sem,B6.cell]) rfl ⟨hbv,by rw [HLQ.out];exact ht,.inl ⟨by rw [HLQ.out],by rw [HLQ.out];rfl⟩⟩
end
section
attribute [local simp] AllK KnowsV look Is
def nulL (ls:List (List Int)):List (List Int):=if 0<ls.length∧(seg ls 0).length=0 then [[0]] else ls
theorem valV_nul (r:Nat)(m:Int):valV [[0]] r m 0 0=⟨nd0,m,0⟩:=by
 have h:(followF [[0]] 0 0).w=0:=by decide
 have h2:(followF [[0]] 0 0).e=0:=by decide
 cases r<;>(unfold valV;rw [if_pos (.inr h),h2];rfl)
theorem measV_nulL (ls:List (List Int))(D X:Int):measV ls D X=if (valV (nulL ls) D.toNat (startI X) 0 0).e≠0 then (0,(valV (nulL ls) D.toNat (startI X) 0 0).e) else (startI X-(valV (nulL ls) D.toNat (startI X) 0 0).m,0):=by
 unfold measV nulL
 by_cases h:0<ls.length∧(seg ls 0).length=0
 ·rw [if_pos h,if_pos h,valV_nul,if_neg (by simp)]
  show (0,(0:Int))=(startI X-startI X,0)
  rw [Int.sub_self]
 ·rw [if_neg h,if_neg h]
theorem seg_one0 (j:Nat):(seg [[0]] j).length≤1:=by
 cases j with
 | zero=>decide
 | succ j=>simp [seg]
theorem ri_one0 (w:World)(n:Nat)(T:TypeId)(hn:w.heap.size=n):Ri (w.alloc (.cells #[.int .u64 0] T)) .u64 (some ⟨n,0,none⟩) [0]:=by
 subst hn
 refine .inr ⟨_,0,rfl,fun j hj=>?_⟩
 obtain rfl:j=0:=by simp at hj;omega
 simp [go_sem]
 rfl
theorem wd_one0:Wd2 [[0]]:=by
 intro l hl
 simp at hl
 subst hl
 intro z hz
 simp at hz
 omega
def TrvF (lo:Nat)(cs:Array Value)(W1:World):Fact:=fun v w=>∃b w0,v=.pointer (some ⟨b,0,none⟩)∧w0.heap.size=b∧Below W1.heap.size W1 w0∧Below b w0 w∧Blk w b cs
theorem stable_trvf (lo:Nat)(cs:Array Value)(W1:World):stable (TrvF lo cs W1):=fun v w w' ⟨b,w0,h1,h2,h3,h4,h5⟩ hb=>⟨b,w0,h1,h2,h3,h4.trans (hb.mono (Nat.le_of_lt h5.lt)),h5.below hb⟩
theorem TrvF.new {lo:Nat}{cs:Array Value}{W1 wc:World}{T:TypeId}(hb:Below W1.drew.heap.size W1.drew wc):TrvF lo cs W1 (.pointer (some ⟨wc.heap.size,0,none⟩)) (wc.alloc (.cells cs T)):=
 ⟨wc.heap.size,wc,rfl,rfl,bel_undrew hb,(Below.refl _ _).alloc (Nat.le_refl _) _,Blk.fresh _ _ _⟩
set_option maxHeartbeats 4000000 in
theorem start_any (A:Option Addr)(c:Nat)(ls:List (List Int))(D X O:Int)(w:World)(hT:TabOK w)(hs:Sg w A ls)(hw:Wd2 ls)(hm:ls.length≤40)(hf:∀j,(seg ls j).length≤20000000)(hD:D≤900):
  Calls Tryz.prog 25 #[.slice A ls.length c,.agg #[.int .i64 D,.int .i64 X,.int .i64 O]] w fun e w'=>∃b A2 c2 ls2 w0,e=.returned (.pointer (some ⟨b,0,none⟩))∧ls2=nulL ls∧EnvD b A2 ls2 w0∧Below b w0 w'∧Blk w' b #[.slice A2 ls2.length c2,.int .i64 D,.int .i64 X,.int .i64 O,.int .i64 (startI X)]∧w.heap.size≤b∧Below w.heap.size w w':=by
 have m1:D≤1000:=by omega
 have HBL:=Lib.hid ((Below.refl w.heap.size w).alloc (Nat.le_refl _) (.cells #[.int .i64 D,.int .i64 X,.int .i64 O] 24))
 have HS:=Lib.hid (hs.below HBL.out (Nat.le_refl _))
 by_cases hl:ls.length=0
 ·have hN:Hid (ls=nulL ls):=Lib.hid (by unfold nulL;rw [if_neg (by omega)])
  have t1:¬((0:Int)<ls.length):=by omega
  clear hl hs
  go_enter Tryz.func25,Tryz.ntmps25
  go_wp2_with fail
  refine abs_code10 (F:=fun W=>Blk W w.heap.size #[.int .i64 D,.int .i64 X,.int .i64 O]∧Below w.heap.size w W∧Sg W A ls) ⟨?_,?_,?_⟩ ?_
  ·exact Blk.fresh _ _ _
  ·exact HBL.out
  ·exact HS.out
  clear HBL HS t1
  rintro W1 ⟨h1,h2,h3⟩
  have HL1:=Lib.hid h1
  have HB1:=Lib.hid h2
  have HS1:=Lib.hid h3
  have HTT:=Lib.hid (fun (W:World) (h:Below w.heap.size w W)=>hT.on h)
  have HEQ:Hid (ls=nulL ls):=Lib.hid (hN.out)
  have HWD:Hid (Wd2 (ls)∧(ls).length≤40∧∀j,(seg (ls) j).length≤20000000):=Lib.hid (⟨hw,hm,hf⟩)
  clear h1 h2 h3 hT hw hm hf
  generalize A=A2 at *
  refine wp_region_chain (by kernel_rfl) (by kernel_rfl) ?_
  refine chain_val (u:=?_) [0] rfl (by kernel_rfl) trivial (fun ρ wc hbc hcn hq=>?_) ?_;rotate_left
  ·obtain⟨hcn,hfn⟩:=hcn
   simp at hq
   go_simp
   rfl
  refine chain_val (u:=?_) [3] rfl (by kernel_rfl) trivial (fun ρ wc hbc hcn hq=>?_) ?_;rotate_left
  ·obtain⟨hcn,hfn⟩:=hcn
   simp at hq
   have x2:=(HL1.out.drew.below hbc).cell
   go_simp
   rfl
  refine chain_val (u:=?_) [3] rfl (by kernel_rfl) trivial (fun ρ wc hbc hcn hq=>?_) ?_;rotate_left
  ·obtain⟨hcn,hfn⟩:=hcn
   simp at hq
   have x2:=(HL1.out.drew.below hbc).cell
   go_simp
   rfl
  refine chain_call (T:=Is (.agg #[.int .i64 (startI X)])) 42 [23] rfl (by kernel_rfl) trivial (stable_is _) (fun ρ wc hbc hcn hq=>?_) ?_
  ·obtain⟨hcn,hfn⟩:=hcn
   simp at hq
   refine⟨_,by go_simp;rfl,?_⟩
   refine(BStart_any _ _ _ _).mono ?_
   rintro e w' ⟨rfl,hbq⟩
   exact⟨_,rfl,rfl,hbq⟩
  refine chain_val (u:=?_) [21,22,24] rfl (by kernel_rfl) trivial (fun ρ wc hbc hcn hq=>?_) ?_;rotate_left
  ·obtain⟨hcn,hfn⟩:=hcn
   simp at hq
   go_simp
   rfl
  refine chain_new (T:=TrvF W1.heap.size #[.slice A2 ls.length c,.int .i64 D,.int .i64 X,.int .i64 O,.int .i64 (startI X)] W1) [25] rfl (by kernel_rfl) trivial (stable_trvf _ _ _) (fun ρ wc hbc hcn hq=>?_) ?_
  ·obtain⟨hcn,hfn⟩:=hcn
   simp at hq
   exact⟨_,_,by go_simp;rfl,TrvF.new hbc,(Below.refl _ _).alloc (Nat.le_refl _) _⟩
  refine chain_new (T:=TrvF W1.heap.size #[.slice A2 ls.length c,.int .i64 D,.int .i64 X,.int .i64 O,.int .i64 (startI X)] W1) [26] rfl (by kernel_rfl) trivial (stable_trvf _ _ _) (fun ρ wc hbc hcn hq=>?_) ?_
  ·obtain⟨hcn,hfn⟩:=hcn
   simp at hq
   exact⟨_,wc,by go_simp,hq,Below.refl _ _⟩
  refine chain_end_lit 27 rfl (fun ff w5 hb5 hk=>?_)
  have h4:TrvF W1.heap.size #[.slice A2 ls.length c,.int .i64 D,.int .i64 X,.int .i64 O,.int .i64 (startI X)] W1 (ff 4) w5:=allN_atF hk 4 (by decide) (by decide)
  simp [AllN] at hk
  simp only [frameL,hk]
  clear hk
  obtain⟨b,w0,e4,g1,g2,g3,g4⟩:=h4
  rw [e4]
  have HF:=Lib.hid (And.intro g1 (And.intro g2 (And.intro g3 g4)))
  have HB5:=Lib.hid (bel_on HB1.out (bel_undrew hb5))
  have HZ:=Lib.hid (And.intro HB1.out.size g2.size)
  have HB0:=Lib.hid (bel_on HB1.out g2)
  clear g1 g2 g3 g4 e4 hb5 HL1 HB1
  go_wp2
  go_ret
  obtain⟨g1,g2,g3,g4⟩:=HF.out
  obtain⟨z1,z2⟩:=HZ.out
  exact⟨b,A2,c,ls,w0,rfl,HEQ.out,⟨HS1.out.below g2 (Nat.le_refl _),HTT.out _ HB0.out,by omega,HWD.out.1,HWD.out.2.1,HWD.out.2.2⟩,g3,g4,by omega,HB5.out⟩
 obtain⟨b,off,A',c',rfl,hc,-,-,-,-⟩:=HS.out.one (i:=0) (by omega)
 simp only [Nat.add_zero] at hc
 have t1:decide ((0:Int)<ls.length)=true:=decide_eq_true (by omega)
 have t0:(0:Int)<ls.length:=by omega
 by_cases hz:(seg ls 0).length=0
 ·have hN:Hid ([[0]]=nulL ls):=Lib.hid (by unfold nulL;rw [if_pos ⟨by omega,hz⟩])
  rw [hz] at hc
  clear hl hs
  go_enter Tryz.func25,Tryz.ntmps25
  go_wp2_with fail
  refine abs_code10 (F:=fun W=>Blk W w.heap.size #[.int .i64 D,.int .i64 X,.int .i64 O]∧Below w.heap.size w W∧Sg W (some ⟨w.heap.size+1+1,0,none⟩) [[0]]) ⟨?_,?_,?_⟩ ?_
  ·exact((Blk.fresh _ _ _).alloc _).alloc _
  ·exact(HBL.out.alloc (by simp) _).alloc (by simp;omega) _
  ·exact sg_lit1 _ _ [0] _ _ (by simp) ⟨some ⟨w.heap.size+1,0,none⟩,1,rfl,ri_one0 _ _ _ (by simp),fun h=>(by cases h),by decide,by decide⟩
  clear HBL HS t0 t1 hc
  rintro W1 ⟨h1,h2,h3⟩
  have HL1:=Lib.hid h1
  have HB1:=Lib.hid h2
  have HS1:=Lib.hid h3
  have HTT:=Lib.hid (fun (W:World) (h:Below w.heap.size w W)=>hT.on h)
  have HEQ:Hid (([[0]]:List (List Int))=nulL ls):=Lib.hid (hN.out)
  have HWD:Hid (Wd2 (([[0]]:List (List Int)))∧(([[0]]:List (List Int))).length≤40∧∀j,(seg (([[0]]:List (List Int))) j).length≤20000000):=Lib.hid (⟨wd_one0,by decide,fun j=>by have:=seg_one0 j;omega⟩)
  clear h1 h2 h3 hT hw hm hf
  generalize (some (⟨w.heap.size+1+1,0,none⟩:Addr))=A2 at *
  refine wp_region_chain (by kernel_rfl) (by kernel_rfl) ?_
  refine chain_val (u:=?_) [0] rfl (by kernel_rfl) trivial (fun ρ wc hbc hcn hq=>?_) ?_;rotate_left
  ·obtain⟨hcn,hfn⟩:=hcn
   simp at hq
   go_simp
   rfl
  refine chain_val (u:=?_) [3] rfl (by kernel_rfl) trivial (fun ρ wc hbc hcn hq=>?_) ?_;rotate_left
  ·obtain⟨hcn,hfn⟩:=hcn
   simp at hq
   have x2:=(HL1.out.drew.below hbc).cell
   go_simp
   rfl
  refine chain_val (u:=?_) [3] rfl (by kernel_rfl) trivial (fun ρ wc hbc hcn hq=>?_) ?_;rotate_left
  ·obtain⟨hcn,hfn⟩:=hcn
   simp at hq
   have x2:=(HL1.out.drew.below hbc).cell
   go_simp
   rfl
  refine chain_call (T:=Is (.agg #[.int .i64 (startI X)])) 42 [23] rfl (by kernel_rfl) trivial (stable_is _) (fun ρ wc hbc hcn hq=>?_) ?_
  ·obtain⟨hcn,hfn⟩:=hcn
   simp at hq
   refine⟨_,by go_simp;rfl,?_⟩
   refine(BStart_any _ _ _ _).mono ?_
   rintro e w' ⟨rfl,hbq⟩
   exact⟨_,rfl,rfl,hbq⟩
  refine chain_val (u:=?_) [21,22,24] rfl (by kernel_rfl) trivial (fun ρ wc hbc hcn hq=>?_) ?_;rotate_left
  ·obtain⟨hcn,hfn⟩:=hcn
   simp at hq
   go_simp
   rfl
  refine chain_new (T:=TrvF W1.heap.size #[.slice A2 1 1,.int .i64 D,.int .i64 X,.int .i64 O,.int .i64 (startI X)] W1) [25] rfl (by kernel_rfl) trivial (stable_trvf _ _ _) (fun ρ wc hbc hcn hq=>?_) ?_
  ·obtain⟨hcn,hfn⟩:=hcn
   simp at hq
   exact⟨_,_,by go_simp;rfl,TrvF.new hbc,(Below.refl _ _).alloc (Nat.le_refl _) _⟩
  refine chain_new (T:=TrvF W1.heap.size #[.slice A2 1 1,.int .i64 D,.int .i64 X,.int .i64 O,.int .i64 (startI X)] W1) [26] rfl (by kernel_rfl) trivial (stable_trvf _ _ _) (fun ρ wc hbc hcn hq=>?_) ?_
  ·obtain⟨hcn,hfn⟩:=hcn
   simp at hq
   exact⟨_,wc,by go_simp,hq,Below.refl _ _⟩
  refine chain_end_lit 27 rfl (fun ff w5 hb5 hk=>?_)
  have h4:TrvF W1.heap.size #[.slice A2 1 1,.int .i64 D,.int .i64 X,.int .i64 O,.int .i64 (startI X)] W1 (ff 4) w5:=allN_atF hk 4 (by decide) (by decide)
  simp [AllN] at hk
  simp only [frameL,hk]
  clear hk
  obtain⟨b,w0,e4,g1,g2,g3,g4⟩:=h4
  rw [e4]
  have HF:=Lib.hid (And.intro g1 (And.intro g2 (And.intro g3 g4)))
  have HB5:=Lib.hid (bel_on HB1.out (bel_undrew hb5))
  have HZ:=Lib.hid (And.intro HB1.out.size g2.size)
  have HB0:=Lib.hid (bel_on HB1.out g2)
  clear g1 g2 g3 g4 e4 hb5 HL1 HB1
  go_wp2
  go_ret
  obtain⟨g1,g2,g3,g4⟩:=HF.out
  obtain⟨z1,z2⟩:=HZ.out
  exact⟨b,A2,1,([[0]]:List (List Int)),w0,rfl,HEQ.out,⟨HS1.out.below g2 (Nat.le_refl _),HTT.out _ HB0.out,by omega,HWD.out.1,HWD.out.2.1,HWD.out.2.2⟩,g3,g4,by omega,HB5.out⟩
 ·have hN:Hid (ls=nulL ls):=Lib.hid (by unfold nulL;rw [if_neg (by omega)])
  have t2:(((seg ls 0).length:Int)==0)=false:=beq_eq_false_iff_ne.2 (by omega)
  clear hl hs hz
  go_enter Tryz.func25,Tryz.ntmps25
  go_wp2_with fail
  refine abs_code10 (F:=fun W=>Blk W w.heap.size #[.int .i64 D,.int .i64 X,.int .i64 O]∧Below w.heap.size w W∧Sg W (some ⟨b,off,none⟩) ls) ⟨?_,?_,?_⟩ ?_
  ·exact Blk.fresh _ _ _
  ·exact HBL.out
  ·exact HS.out
  clear HBL HS t0 t1 t2 hc
  rintro W1 ⟨h1,h2,h3⟩
  have HL1:=Lib.hid h1
  have HB1:=Lib.hid h2
  have HS1:=Lib.hid h3
  have HTT:=Lib.hid (fun (W:World) (h:Below w.heap.size w W)=>hT.on h)
  have HEQ:Hid (ls=nulL ls):=Lib.hid (hN.out)
  have HWD:Hid (Wd2 (ls)∧(ls).length≤40∧∀j,(seg (ls) j).length≤20000000):=Lib.hid (⟨hw,hm,hf⟩)
  clear h1 h2 h3 hT hw hm hf
  generalize (some (⟨b,off,none⟩:Addr))=A2 at *
  refine wp_region_chain (by kernel_rfl) (by kernel_rfl) ?_
  refine chain_val (u:=?_) [0] rfl (by kernel_rfl) trivial (fun ρ wc hbc hcn hq=>?_) ?_;rotate_left
  ·obtain⟨hcn,hfn⟩:=hcn
   simp at hq
   go_simp
   rfl
  refine chain_val (u:=?_) [3] rfl (by kernel_rfl) trivial (fun ρ wc hbc hcn hq=>?_) ?_;rotate_left
  ·obtain⟨hcn,hfn⟩:=hcn
   simp at hq
   have x2:=(HL1.out.drew.below hbc).cell
   go_simp
   rfl
  refine chain_val (u:=?_) [3] rfl (by kernel_rfl) trivial (fun ρ wc hbc hcn hq=>?_) ?_;rotate_left
  ·obtain⟨hcn,hfn⟩:=hcn
   simp at hq
   have x2:=(HL1.out.drew.below hbc).cell
   go_simp
   rfl
  refine chain_call (T:=Is (.agg #[.int .i64 (startI X)])) 42 [23] rfl (by kernel_rfl) trivial (stable_is _) (fun ρ wc hbc hcn hq=>?_) ?_
  ·obtain⟨hcn,hfn⟩:=hcn
   simp at hq
   refine⟨_,by go_simp;rfl,?_⟩
   refine(BStart_any _ _ _ _).mono ?_
   rintro e w' ⟨rfl,hbq⟩
   exact⟨_,rfl,rfl,hbq⟩
  refine chain_val (u:=?_) [21,22,24] rfl (by kernel_rfl) trivial (fun ρ wc hbc hcn hq=>?_) ?_;rotate_left
  ·obtain⟨hcn,hfn⟩:=hcn
   simp at hq
   go_simp
   rfl
  refine chain_new (T:=TrvF W1.heap.size #[.slice A2 ls.length c,.int .i64 D,.int .i64 X,.int .i64 O,.int .i64 (startI X)] W1) [25] rfl (by kernel_rfl) trivial (stable_trvf _ _ _) (fun ρ wc hbc hcn hq=>?_) ?_
  ·obtain⟨hcn,hfn⟩:=hcn
   simp at hq
   exact⟨_,_,by go_simp;rfl,TrvF.new hbc,(Below.refl _ _).alloc (Nat.le_refl _) _⟩
  refine chain_new (T:=TrvF W1.heap.size #[.slice A2 ls.length c,.int .i64 D,.int .i64 X,.int .i64 O,.int .i64 (startI X)] W1) [26] rfl (by kernel_rfl) trivial (stable_trvf _ _ _) (fun ρ wc hbc hcn hq=>?_) ?_
  ·obtain⟨hcn,hfn⟩:=hcn
   simp at hq
   exact⟨_,wc,by go_simp,hq,Below.refl _ _⟩
  refine chain_end_lit 27 rfl (fun ff w5 hb5 hk=>?_)
  have h4:TrvF W1.heap.size #[.slice A2 ls.length c,.int .i64 D,.int .i64 X,.int .i64 O,.int .i64 (startI X)] W1 (ff 4) w5:=allN_atF hk 4 (by decide) (by decide)
  simp [AllN] at hk
  simp only [frameL,hk]
  clear hk
  obtain⟨b,w0,e4,g1,g2,g3,g4⟩:=h4
  rw [e4]
  have HF:=Lib.hid (And.intro g1 (And.intro g2 (And.intro g3 g4)))
  have HB5:=Lib.hid (bel_on HB1.out (bel_undrew hb5))
  have HZ:=Lib.hid (And.intro HB1.out.size g2.size)
  have HB0:=Lib.hid (bel_on HB1.out g2)
  clear g1 g2 g3 g4 e4 hb5 HL1 HB1
  go_wp2
  go_ret
  obtain⟨g1,g2,g3,g4⟩:=HF.out
  obtain⟨z1,z2⟩:=HZ.out
  exact⟨b,A2,c,ls,w0,rfl,HEQ.out,⟨HS1.out.below g2 (Nat.le_refl _),HTT.out _ HB0.out,by omega,HWD.out.1,HWD.out.2.1,HWD.out.2.2⟩,g3,g4,by omega,HB5.out⟩
end
end Go.Proofs.YtfaflahfjgnphaaGreatDoor
