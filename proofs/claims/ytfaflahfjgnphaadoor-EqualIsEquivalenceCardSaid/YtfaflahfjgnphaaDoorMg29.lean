/- The texts Open, Ref11b, NodeZ, Den2, Ref12m, Ref12n, Den3, DenM, Can2, Write (what is wanted of them), one after the other. -/
import Derived.Test.YtfaflahfjgnphaaDoorMg22
import Derived.ShutString
import Derived.ChangeOld
import Derived.Deep.Fields
namespace Go.Proofs.YtfaflahfjgnphaaDoor
open Go.ChangeShapes Go.WideShapes Go.ChangeAt Go.RowKit
set_option linter.unusedVariables false
set_option linter.unusedSimpArgs false
set_option maxRecDepth 100000
theorem own:ownKnob Tryd.prog.godebug=none:=by kernel_rfl
theorem laidOut:laidOutB Tryd.prog=true:=by kernel_rfl
structure Row (k:IntKind) (w:World) (A:Option Addr) (len cap:Nat) (zs:List Int):Prop where
 ri:Ri w k A zs
 len_eq:len=zs.length
 le:len≤cap
 cap_le:cap≤maxLen
 nil:A=none→cap=0
 fits:∀z∈zs,(Lit.int k z).wf=true
theorem Row.none {k:IntKind}{w:World}:Row k w .none 0 0 []:=⟨Ri.nil _ _ _,rfl,Nat.le_refl _,Nat.zero_le _,fun _=>rfl,fun z hz=>by cases hz⟩
theorem Row.some {k:IntKind}{w:World}{x:Addr}{len cap:Nat}{zs:List Int}(hl:len≤cap)(hm:cap≤maxLen)(hz:zs.length=cap)(hc:∀i,i<zs.length→w.cell? (x.add i)=.some (.int k (zs.getD i 0)))(hw:∀n∈zs,(Lit.int k n).wf=true):
  Row k w (.some x) len cap (zs.take len):=by
 have hlen:(zs.take len).length=len:=by simp;omega
 refine⟨?_,hlen.symm,hl,hm,(fun h=>by cases h),fun z h=>hw z (List.mem_of_mem_take h)⟩
 by_cases h0:0<len
 ·obtain⟨b,off,spot⟩:=x
  have hs:spot=.none:=by
   have:=World.cell?_spot (hc 0 (by omega))
   simpa [Addr.add] using this
  subst hs
  refine .inr ⟨b,off,rfl,fun j hj=>?_⟩
  rw [hlen] at hj
  have:=hc j (by omega)
  rw [add_plain] at this
  rw [this,zat_take _ _ _ hj]
  rfl
 ·exact .inl (List.eq_nil_of_length_eq_zero (by omega))
theorem Row.wds {w:World}{A:Option Addr}{len cap:Nat}{zs:List Int}(h:Row .u64 w A len cap zs):Wds zs:=fun z hz=>by
 have:=h.fits z hz
 simp [Lit.wf,IntKind.min,IntKind.max,IntKind.signed,IntKind.bits] at this
 omega
theorem of_wf_u8 {n:Int}(h:(Lit.int .u8 n).wf=true):0≤n∧n<256:=by
 simp [Lit.wf,IntKind.min,IntKind.max,IntKind.signed,IntKind.bits] at h
 omega
theorem of_wf_u64 {n:Int}(h:(Lit.int .u64 n).wf=true):0≤n∧n<18446744073709551616:=by
 simp [Lit.wf,IntKind.min,IntKind.max,IntKind.signed,IntKind.bits] at h
 omega
theorem of_wf_i64 {n:Int}(h:(Lit.int .i64 n).wf=true):-9223372036854775808≤n∧n<9223372036854775808:=by
 simp [Lit.wf,IntKind.min,IntKind.max,IntKind.signed,IntKind.bits] at h
 omega
theorem open_struct {H:Type}{enc:TypeId×Value→H}{P:Program}{w:World}{base:Nat}{spare:Nat→Bool}{held:Bool}{r:Reach}{b0:Nat}{t:TypeId}{fs:Array Field}{v:Value}{d:DataW H}{ps:List MemPlace}
  (hs:P.underlying t=some (.struct fs)) (hone:Go.Deep.oneCellFields P fs=true) (hC:P.cellsOf t=fs.size) (hv:Value.okWide P w r b0 t v) (h:DataW.Trod enc P w base spare held t v d ps) :
  ∃cs:Array Value,v=.agg cs∧cs.size=fs.size∧∀(j:Nat) (f:Field) (u:Value),fs[j]?=some f→cs[j]?=some u→∃(n:Nat) (y:DataW H×List MemPlace),DataW.trod enc P w base spare held n f.type [u]=some y:=by
 obtain⟨cs,rfl,hsz⟩:=okWide_struct hs hv
 obtain⟨fuel,hf⟩:=h
 obtain⟨xs,n,_,_,_,hlen,hg⟩:=DataW.trod_struct hs hf
 refine⟨cs,rfl,hsz.trans hC,fun j f u hj hu=>?_⟩
 obtain⟨ho,hk⟩:=Go.Deep.hone_of hone j f hj
 have h1:=hg j f hj
 rw [ho,hk] at h1
 have hj2:j<fs.size:=(Array.getElem?_eq_some_iff.1 hj).1
 have hj3:j<xs.length:=by omega
 have hcs:(Value.agg cs).cells.toList=cs.toList:=by simp [Value.cells]
 rw [hcs] at h1
 have hu2:cs.toList[j]?=some u:=by simpa using hu
 have hone2:(cs.toList.drop j).take 1=[u]:=by
  obtain⟨hlt,he⟩:=List.getElem?_eq_some_iff.1 hu2
  rw [List.drop_eq_getElem_cons hlt,he]
  rfl
 rw [hone2,List.getElem?_eq_getElem hj3] at h1
 exact⟨n,_,h1⟩
theorem arr3 {cs:Array Value}(h:cs.size=3):∃a b c,cs=#[a,b,c]:=by
 obtain⟨l⟩:=cs
 match l,h with
 | [a,b,c],_=>exact⟨a,b,c,rfl⟩
section
attribute [local simp] AllK KnowsV look Is
theorem valid_kids11 {k e n:Int}{d:List Int}{ks:List Nd}(h:validN (.mk k e n d ks)=true):(∀y∈ks,validN y=true)∧(k=1→d.length % 8=0):=by
 simp only [validN,Bool.and_eq_true] at h
 obtain⟨h1,h2⟩:=h
 refine⟨fun y hy=>?_,fun hk=>?_⟩
 ·obtain⟨j,hj,rfl⟩:=List.getElem_of_mem hy
  rcases Bool.eq_false_or_eq_true (validN ks[j]) with h3|h3
  ·exact h3
  ·have:=validK_no k e ks j hj (by rw [h3];rfl)
   rw [h1] at this
   cases this
 ·unfold headB at h2
  rw [if_neg (by omega),if_pos hk,decide_eq_true_iff] at h2
  exact h2.2.2.1
end
theorem Ri.agree {w W:World}{k:IntKind}{A:Option Addr}{zs:List Int}(h:Ri w k A zs){N:Nat}(hw:∀q,q<N→W.heap[q]?=w.heap[q]?)(hN:w.heap.size≤N):Ri W k A zs:=by
 rcases h with rfl|⟨b,off,rfl,h⟩
 ·exact .inl rfl
 ·refine .inr ⟨b,off,rfl,fun j hj=>?_⟩
  have hlt:b<w.heap.size:=World.block_lt_of_cell? w ⟨b,off+j,none⟩ (h j hj)
  rw [World.cell?_of_block (w:=w) (hw b (by omega))]
  exact h j hj
theorem NdR.agree {w W:World}{A:Option Addr}{c:Nat}{B:Option Addr}{c2:Nat}{x:Nd}(h:NdR w A c B c2 x){N:Nat}(hw:∀q,q<N→W.heap[q]?=w.heap[q]?)(hN:w.heap.size≤N):NdR W A c B c2 x:=by
 induction h with
 | mk k e n d ks A c B c2 FA Fc FB Fc2 hk he hn hd hby hdl hc hA hkl hc2 hB hcell hsub ih=>
  refine .mk k e n d ks A c B c2 FA Fc FB Fc2 hk he hn (hd.agree hw hN) hby hdl hc hA hkl hc2 hB ?_ ih
  rcases hcell with h|⟨b,off,hBe,hcs⟩
  ·exact .inl h
  ·refine .inr ⟨b,off,hBe,fun j x hj=>?_⟩
   obtain⟨h0,h1,h2,h3,h4⟩:=hcs j x hj
   have hlt:b<w.heap.size:=World.block_lt_of_cell? w ⟨b,off+j*5,none⟩ h0
   have hc:=fun o=>World.cell?_of_block (w:=w) (a:=⟨b,o,none⟩) (hw b (by omega))
   exact⟨(hc _).trans h0,(hc _).trans h1,(hc _).trans h2,(hc _).trans h3,(hc _).trans h4⟩
def OkB (B:Nat)(w:World)(k:Nat):Prop:=k<w.heap.size∧(k<B∨w.cell? ⟨k,0,none⟩≠some (.int .i64 0))
def Rob (B:Nat)(w:World)(P:World→Prop):Prop:=∀W:World,(∀k,OkB B w k→W.heap[k]?=w.heap[k]?)→P W
theorem Rob.on {B:Nat}{w w':World}{P:World→Prop}(h:Rob B w P)(hb:Below w.heap.size w w'):Rob B w' P:=fun W hW=>h W fun k hk=>by
 have e:=hb.block k hk.1
 refine(hW k ⟨Nat.lt_of_lt_of_le hk.1 hb.size,?_⟩).trans e
 rw [World.cell?_of_block (w:=w) (a:=⟨k,0,none⟩) e]
 exact hk.2
theorem Rob.to {B:Nat}{w W:World}{P:World→Prop}(h:Rob B w P){b:Nat}(hB:B≤b)(hz:w.cell? ⟨b,0,none⟩=some (.int .i64 0))(hW:∀k,k≠b→W.heap[k]?=w.heap[k]?):P W:=h W fun k hk=>hW k fun e=>by
 subst e
 rcases hk.2 with h1|h1
 ·omega
 ·exact h1 hz
theorem Rob.and {B:Nat}{w:World}{P P2:World→Prop}(h:Rob B w P)(h2:Rob B w P2):Rob B w fun W=>P W∧P2 W:=fun W hW=>⟨h W hW,h2 W hW⟩
theorem runK_all {f:Int→Nat→Val}{m:Int}(Q:Nd→Prop):∀n,(∀m i,i<n→(f m i).e=0→Q (f m i).n)→∀y∈(runK f m n).ks,Q y
 | 0,_,y,hy=>by cases hy
 | n+1,hs,y,hy=>by
  have ih:=runK_all (f:=f) (m:=m) Q n (fun m i hi=>hs m i (by omega))
  by_cases h1:(runK f m n).e=0
  ·by_cases h2:(f (runK f m n).m n).e=0
   ·rw [runK_ok h1 h2] at hy
    rcases List.mem_append.1 hy with h|h
    ·exact ih y h
    ·rw [List.mem_singleton] at h
     subst h
     exact hs _ n (by omega) h2
   ·rw [runK_no h1 h2] at hy
    cases hy
  ·rw [runK_keep h1 (Nat.le_succ n)] at hy
   exact ih y hy
theorem validK_allD {k e:Int}:∀ks:List Nd,(∀y∈ks,validN y=true∧(k=2→e=7→y.k=1))→validK k e ks=true
 | [],_=>by simp [validK]
 | x::xs,h=>by
  have h1:=h x (List.mem_cons_self ..)
  have h2:=validK_allD (k:=k) (e:=e) xs (fun y hy=>h y (List.mem_cons_of_mem _ hy))
  simp only [validK,h1.1,h2,Bool.true_and,Bool.and_true,Bool.not_eq_true',decide_eq_false_iff_not]
  intro h3
  exact h3.2.2 (h1.2 h3.1 h3.2.1)
theorem valid_nd0:validN nd0=true:=by decide
theorem datW_le (ls:List (List Int))(s a n:Int):(datW ls s a n).length≤n.toNat:=by
 unfold datW
 split
 ·unfold sliceL
  rw [List.length_take]
  omega
 ·simp
theorem trimL_twice (b:List Int)(e c:Int):trimL (trimL b e c) e c=trimL b e c:=by
 apply ext_zat
 ·rw [trimL_length,trimL_length]
 ·intro i hi
  rw [trimL_length] at hi
  rw [trimL_zat _ _ _ _ hi,trimL_zat _ _ _ _ hi]
  unfold trimAt
  rw [trimL_zat _ _ _ _ hi]
  unfold trimAt
  split
  ·rw [Int.emod_emod_of_dvd _ (Int.dvd_refl _)]
  ·rfl
theorem structV_valid {val:Int→Int→Int→Val}(hv:∀m s a,validN (val m s a).n=true)(ls:List (List Int))(m:Int)(o:Ob)(h1:0≤o.d)(h2:o.d≤65535)(h3:0≤o.p)(h4:o.p≤65535):
  validN (structV val ls m o).n=true∧((structV val ls m o).e=0→(structV val ls m o).n.k=1):=by
 unfold structV
 split
 ·rename_i h
  exact⟨valid_nd0,fun h0=>absurd h0 h⟩
 ·rename_i h
  have h0:(runK (fun m i=>val m o.sg (o.at'+o.d+i)) m o.p.toNat).e=0:=Classical.byContradiction h
  have hl:=runK_length h0
  have hk:validK 1 0 (runK (fun m i=>val m o.sg (o.at'+o.d+i)) m o.p.toNat).ks=true:=validK_allD _ fun y hy=>⟨runK_all (fun y=>validN y=true) _ (fun m i _ _=>hv _ _ _) y hy,fun h=>by omega⟩
  have hd:=datW_le ls o.sg o.at' o.d
  refine⟨?_,fun _=>rfl⟩
  show (validK 1 0 _&&headB 1 0 0 _ _)=true
  rw [hk,Bool.true_and]
  unfold headB
  rw [if_neg (by omega),if_pos rfl,decide_eq_true_iff,bytesOf_length,hl]
  omega
theorem listV_valid {val:Int→Int→Int→Val}(hv:∀m s a,validN (val m s a).n=true)(ls:List (List Int))(m:Int)(o:Ob)(h1:0≤o.d)(h2:o.d≤65535)(h3:0≤o.p)(h4:o.p≤65535)(h5:0≤o.n)(h6:o.n≤536870911)(h7:6≤o.el)(h8:o.el≤7):
  validN (listV val ls m o).n=true:=by
 unfold listV
 split
 ·exact valid_nd0
 ·rename_i h
  have h0:(runK (elemV val ls o) m o.n.toNat).e=0:=Classical.byContradiction h
  have hl:=runK_length h0
  have hk:validK 2 o.el (runK (elemV val ls o) m o.n.toNat).ks=true:=validK_allD _ fun y hy=>runK_all (fun y=>validN y=true∧((2:Int)=2→o.el=7→y.k=1)) _ (fun m i _=>by
   unfold elemV
   split
   ·rename_i h9
    exact fun _=>⟨hv _ _ _,fun _ h=>by omega⟩
   ·have h9:=structV_valid hv ls m (eleO o i) h1 h2 h3 h4
    exact fun he=>⟨h9.1,fun _ _=>h9.2 he⟩) y hy
  show (validK 2 o.el _&&headB 2 o.el o.n [] _)=true
  rw [hk,Bool.true_and]
  unfold headB
  rw [if_neg (by omega),if_neg (by omega),if_pos rfl,decide_eq_true_iff,hl]
  refine⟨h5,h6,by omega,h8,fun _=>⟨rfl,by omega⟩,fun h=>by omega⟩
theorem valV_valid {ls:List (List Int)}(hw:Wd2 ls)(hm:ls.length≤40)(hf:∀j,(seg ls j).length≤20000000):∀r m s a,validN (valV ls r m s a).n=true
 | 0,m,s,a=>by
  unfold valV
  split<;>exact valid_nd0
 | r+1,m,s,a=>by
  have ih:=fun m s a=>valV_valid hw hm hf r m s a
  have hb:=objF_num hw hm hf s a rfl
  unfold valV
  split
  ·exact valid_nd0
  ·unfold bodyV
   generalize objF ls s a=q at *
   split
   ·exact valid_nd0
   ·split
    ·exact valid_nd0
    ·split
     ·exact(structV_valid ih ls _ q.1 (by omega) (by omega) (by omega) (by omega)).1
     ·split
      ·rename_i h
       have hz:=trimL_length (bytesOf (datW ls q.1.sg q.1.at' q.1.cost)) q.1.el q.1.n
       have hy:0≤bytesI q.1.el q.1.n:=by
        have:=bitsI_mul q.1.el q.1.n (by omega)
        unfold bytesI
        omega
       show (validK 2 q.1.el []&&headB 2 q.1.el q.1.n _ [])=true
       unfold headB
       rw [if_neg (by omega),if_neg (by omega),if_pos rfl]
       simp only [validK,Bool.true_and]
       rw [decide_eq_true_iff,trimL_twice,hz]
       refine⟨by omega,by omega,by omega,by omega,fun h=>by omega,fun _=>⟨rfl,by omega,rfl⟩⟩
      ·exact listV_valid ih ls _ q.1 (by omega) (by omega) (by omega) (by omega) (by omega) (by omega) (by omega) (by omega)
section
attribute [local simp] AllK KnowsV look Is
def msgV (ls:List (List Int))(D X:Int):Nd×Int:=if 0<ls.length∧(seg ls 0).length=0 then (nd0,0) else if (valV ls D.toNat (startI X) 0 0).e≠0 then (nd0,(valV ls D.toNat (startI X) 0 0).e) else (trimN (valV ls D.toNat (startI X) 0 0).n,0)
end
def measV (ls:List (List Int))(D X:Int):Int×Int:=if 0<ls.length∧(seg ls 0).length=0 then (0,0) else if (valV ls D.toNat (startI X) 0 0).e≠0 then (0,(valV ls D.toNat (startI X) 0 0).e) else (startI X-(valV ls D.toNat (startI X) 0 0).m,0)
theorem depthK_all {r:Nat}:∀ks:List Nd,(∀y∈ks,depthN y≤r)→depthK ks≤r
 | [],_=>Nat.zero_le _
 | x::xs,h=>by
  have h1:=h x (List.mem_cons_self ..)
  have h2:=depthK_all xs fun y hy=>h y (List.mem_cons_of_mem _ hy)
  show max (depthN x) (depthK xs)≤r
  omega
theorem depthG_all {r:Nat}:∀ks:List Nd,(∀y∈ks,depthK y.ks≤r)→depthG ks≤r
 | [],_=>Nat.zero_le _
 | .mk k e n d l::xs,h=>by
  have h1:depthK l≤r:=h _ (List.mem_cons_self ..)
  have h2:=depthG_all xs fun y hy=>h y (List.mem_cons_of_mem _ hy)
  show max (depthK l) (depthG xs)≤r
  omega
theorem structV_depth {val:Int→Int→Int→Val}{r:Nat}(hv:∀m s a,depthN (val m s a).n≤r)(ls:List (List Int))(m:Int)(o:Ob):depthN (structV val ls m o).n≤r+1∧depthK (structV val ls m o).n.ks≤r:=by
 unfold structV
 split
 ·exact⟨Nat.zero_le _,Nat.zero_le _⟩
 ·have h:depthK (runK (fun m i=>val m o.sg (o.at'+o.d+i)) m o.p.toNat).ks≤r:=depthK_all _ (runK_all (fun y=>depthN y≤r) _ fun m i _ _=>hv m _ _)
  refine⟨?_,h⟩
  show (if (1:Int)=0 then 0 else 1+if (1:Int)=2∧(0:Int)=7 then _ else depthK _)≤r+1
  rw [if_neg (by omega),if_neg (by omega)]
  omega
theorem listV_depth {val:Int→Int→Int→Val}{r:Nat}(hv:∀m s a,depthN (val m s a).n≤r)(ls:List (List Int))(m:Int)(o:Ob)(h6:6≤o.el)(h7:o.el≤7):depthN (listV val ls m o).n≤r+1:=by
 unfold listV
 split
 ·exact Nat.zero_le _
 ·show (if (2:Int)=0 then 0 else 1+if (2:Int)=2∧o.el=7 then depthG _ else depthK _)≤r+1
  rw [if_neg (by omega)]
  split
  ·rename_i h
   have hg:depthG (runK (elemV val ls o) m o.n.toNat).ks≤r:=depthG_all _ (runK_all (fun y=>depthK y.ks≤r) _ fun m i _ _=>by
    unfold elemV
    rw [if_neg (by omega)]
    exact(structV_depth hv ls m (eleO o i)).2)
   omega
  ·rename_i h
   have hk:depthK (runK (elemV val ls o) m o.n.toNat).ks≤r:=depthK_all _ (runK_all (fun y=>depthN y≤r) _ fun m i _ _=>by
    unfold elemV
    rw [if_pos (by omega)]
    exact hv m _ _)
   omega
theorem valV_depth {ls:List (List Int)}(hw:Wd2 ls)(hm:ls.length≤40)(hf:∀j,(seg ls j).length≤20000000):∀r m s a,depthN (valV ls r m s a).n≤r
 | 0,m,s,a=>by
  unfold valV
  split<;>exact Nat.zero_le _
 | r+1,m,s,a=>by
  have ih:=fun m s a=>valV_depth hw hm hf r m s a
  have hb:=objF_num hw hm hf s a rfl
  unfold valV
  split
  ·exact Nat.zero_le _
  ·unfold bodyV
   generalize objF ls s a=q at *
   split
   ·exact Nat.zero_le _
   ·split
    ·exact Nat.zero_le _
    ·split
     ·exact(structV_depth ih ls _ q.1).1
     ·split
      ·rename_i h
       show (if (2:Int)=0 then 0 else 1+if (2:Int)=2∧q.1.el=7 then _ else depthK [])≤r+1
       rw [if_neg (by omega),if_neg (by omega)]
       show 1+0≤r+1
       omega
      ·exact listV_depth ih ls _ q.1 (by omega) (by omega)
theorem runK_succ0 {f:Int→Nat→Val}{m:Int}{n:Nat}(h:(runK f m (n+1)).e=0):(runK f m n).e=0∧(f (runK f m n).m n).e=0:=by
 by_cases h1:(runK f m n).e=0
 ·by_cases h2:(f (runK f m n).m n).e=0
  ·exact⟨h1,h2⟩
  ·rw [runK_no h1 h2] at h;exact absurd h h2
 ·rw [runK_keep h1 (Nat.le_succ n)] at h;exact absurd h h1
structure ExtM (ls ls':List (List Int)):Prop where
 has:∀s a,hasB ls s a=true→hasB ls' s a=true
 word:∀s a,hasB ls s a=true→wordV ls' s a=wordV ls s a
 inb:∀s a n,inB ls s a n=true→inB ls' s a n=true
 dat:∀s a n,inB ls s a n=true→sliceL ls' s a n=sliceL ls s a n
theorem ExtM.refl (ls:List (List Int)):ExtM ls ls:=⟨fun _ _ h=>h,fun _ _ _=>rfl,fun _ _ _ h=>h,fun _ _ _ _=>rfl⟩
theorem ExtM.datW {ls ls':List (List Int)}(h:ExtM ls ls')(s a n:Int)(hi:inB ls s a n=true):datW ls' s a n=datW ls s a n:=by
 unfold Proofs.YtfaflahfjgnphaaDoor.datW
 rw [if_pos hi,if_pos (h.inb s a n hi),h.dat s a n hi]
section
section
variable {ls:List (List Int)} (hw:Wd2 ls) (hm:ls.length≤40) (hf:∀j,(seg ls j).length≤20000000) (D X:Int)
theorem startI_bd (X:Int):0≤startI X:=by unfold startI;split<;>omega
theorem msg_same (ls:List (List Int))(D X:Int):(msgV ls D X).2=(measV ls D X).2:=by
 unfold msgV measV
 split
 ·rfl
 ·split<;>rfl
include hw hm hf
theorem msg_valid:validN (msgV ls D X).1=true∧trimmedN (msgV ls D X).1=true∧depthN (msgV ls D X).1≤D.toNat:=by
 have h0:validN nd0=true∧trimmedN nd0=true∧depthN nd0≤D.toNat:=⟨by decide,by decide,Nat.zero_le _⟩
 unfold msgV
 split
 ·exact h0
 ·split
  ·exact h0
  ·have hv:=valV_valid hw hm hf D.toNat (startI X) 0 0
   refine⟨valid_trim _ hv,trimmed_trim _ hv,?_⟩
   rw [depth_trim]
   exact valV_depth hw hm hf _ _ _ _
theorem meas_bd:0≤(measV ls D X).1∧(measV ls D X).1≤startI X:=by
 have h1:=startI_bd X
 have hv:=valV_m hw hm hf D.toNat (startI X) 0 0 h1
 unfold measV
 split
 ·exact⟨Int.le_refl _,h1⟩
 ·split
  ·exact⟨Int.le_refl _,h1⟩
  ·show 0≤startI X-_∧startI X-_≤startI X
   omega
end
end
def sumI (G:Nd→Int):List Nd→Int
 | []=>0
 | x::xs=>G x+sumI G xs
theorem sumI_append (G:Nd→Int)(a b:List Nd):sumI G (a++b)=sumI G a+sumI G b:=by
 induction a with
 | nil=>simp [sumI]
 | cons x xs ih=>simp only [List.cons_append,sumI,ih];omega
theorem sumI_nonneg {G:Nd→Int}:∀l:List Nd,(∀y∈l,0≤G y)→0≤sumI G l
 | [],_=>Int.le_refl _
 | x::xs,h=>by
  have h1:=h x (List.mem_cons_self ..)
  have h2:=sumI_nonneg xs fun y hy=>h y (List.mem_cons_of_mem _ hy)
  show 0≤G x+sumI G xs
  omega
theorem canK_sum (l:List Nd):canK l=sumI canN l:=by
 induction l with
 | nil=>simp [canK,sumI]
 | cons x xs ih=>simp only [canK,sumI,ih]
theorem canG_sum (l:List Nd):canG l=sumI (fun y=>canK y.ks) l:=by
 induction l with
 | nil=>simp [canG,sumI]
 | cons x xs ih=>
  obtain⟨k,e,n,d,ks⟩:=x
  simp only [canG,sumI,ih,Nd.ks]
theorem sumI_map (G:Nd→Int)(t:Nd→Nd)(l:List Nd):sumI G (l.map t)=sumI (fun y=>G (t y)) l:=by
 induction l with
 | nil=>simp [sumI]
 | cons x xs ih=>simp only [List.map_cons,sumI,ih]
theorem valid_list {k e n:Int}{d:List Int}{ks:List Nd}(h:validN (.mk k e n d ks)=true)(hk:k=2):0≤n∧n≤536870911∧0≤e∧e≤7:=by
 subst hk
 simp only [validN,Bool.and_eq_true] at h
 have h2:=h.2
 unfold headB at h2
 rw [if_neg (by omega),if_neg (by omega),if_pos rfl,decide_eq_true_iff] at h2
 omega
theorem canO_nonneg {x:Nd}(h:validN x=true):0≤canO x:=by
 obtain⟨k,e,n,d,ks⟩:=x
 show 0≤canOf k e n d ks
 unfold canOf
 by_cases h0:k=0
 ·rw [if_pos h0]
  exact Int.le_refl _
 rw [if_neg h0]
 by_cases h1:k=1
 ·rw [if_pos h1]
  omega
 rw [if_neg h1]
 have h2:=valid_k h
 simp only [Nd.k] at h2
 obtain⟨a1,a2,a3,a4⟩:=valid_list h (by omega)
 by_cases h7:e=7
 ·rw [if_pos h7]
  have:0≤n*((uniD ks ks.length+uniP ks ks.length:Nat):Int):=Int.mul_nonneg a1 (by omega)
  omega
 ·rw [if_neg h7]
  have:=bitsI_mul e n a1
  unfold wordsI
  split<;>omega
theorem can_nonneg:∀x:Nd,validN x=true→0≤canN x∧0≤canK x.ks:=Nd.ind (by
 intro k e n d ks ih h
 have hv:=(valid_kids11 h).1
 have h1:0≤canK ks:=by rw [canK_sum];exact sumI_nonneg _ fun y hy=>(ih y hy (hv y hy)).1
 have h2:0≤canG ks:=by rw [canG_sum];exact sumI_nonneg _ fun y hy=>(ih y hy (hv y hy)).2
 have h3:=canO_nonneg h
 refine⟨?_,h1⟩
 simp only [canN]
 have h4:canOf k e n d ks=canO (.mk k e n d ks):=rfl
 rw [h4]
 split<;>omega)
theorem canK_take_le (l:List Nd)(j:Nat)(h:∀y∈l,validN y=true):canK (l.take j)≤canK l:=by
 have h1:canK l=canK (l.take j)+canK (l.drop j):=by rw [←canK_append,List.take_append_drop]
 have h2:0≤canK (l.drop j):=by rw [canK_sum];exact sumI_nonneg _ fun y hy=>(can_nonneg y (h y (List.mem_of_mem_drop hy))).1
 omega
theorem can_struct {d:List Int}{ks:List Nd}(h:validN (.mk 1 0 0 d ks)=true):canN (trimN (.mk 1 0 0 d ks))≤(d.length / 8+ks.length:Nat)+canK (trimK ks)∧(trimN (.mk 1 0 0 d ks)).d.length / 8≤d.length / 8∧(trimN (.mk 1 0 0 d ks)).ks.length≤ks.length∧canK (trimN (.mk 1 0 0 d ks)).ks≤canK (trimK ks):=by
 have hv:=valid_kids11 h
 have h8:=hv.2 rfl
 have hw:=wordsT_le d h8
 have hp:=ptrsT_le ks
 have hvt:∀y∈trimK ks,validN y=true:=by
  intro y hy
  rw [trimK_map] at hy
  obtain⟨z,hz,rfl⟩:=List.mem_map.1 hy
  exact valid_trim z (hv.1 z hz)
 have ht:canK ((trimK ks).take (ptrsT ks))≤canK (trimK ks):=canK_take_le _ _ hvt
 have e1:(d.take (8*wordsT d)).length=8*wordsT d:=by rw [List.length_take];omega
 have e2:((trimK ks).take (ptrsT ks)).length=ptrsT ks:=by rw [List.length_take,trimK_length];omega
 refine⟨?_,?_,?_,?_⟩
 ·simp only [trimN,if_pos,canN]
  rw [if_neg (by omega)]
  unfold canOf
  rw [if_neg (by omega),if_pos rfl,e1,e2]
  omega
 ·simp only [trimN,if_pos,Nd.d]
  rw [e1]
  omega
 ·simp only [trimN,if_pos,Nd.ks]
  rw [e2]
  exact hp
 ·simp only [trimN,if_pos,Nd.ks]
  exact ht
theorem runK_can {f:Int→Nat→Val}{m:Int}(G:Nd→Int):∀n,(∀m i,i<n→(f m i).e=0→G (f m i).n≤m-(f m i).m)→(runK f m n).e=0→sumI G (runK f m n).ks≤m-(runK f m n).m
 | 0,_,_=>by simp [runK,sumI]
 | n+1,h,he=>by
  obtain⟨e1,e2⟩:=runK_succ0 he
  have ih:=runK_can G n (fun m i hi=>h m i (by omega)) e1
  have h1:=h (runK f m n).m n (by omega) e2
  rw [runK_ok e1 e2]
  simp only
  rw [sumI_append]
  simp only [sumI]
  omega
theorem structV_can {ls:List (List Int)}{val:Int→Int→Int→Val}(hv:∀m s a,validN (val m s a).n=true)(hc:∀m s a,(val m s a).e=0→canN (trimN (val m s a).n)≤m-(val m s a).m)(m:Int)(o:Ob)(h1:0≤o.d)(h2:o.d≤65535)(h3:0≤o.p)(h4:o.p≤65535)(he:(structV val ls m o).e=0):
  canN (trimN (structV val ls m o).n)≤o.d+o.p+(m-(structV val ls m o).m)∧((trimN (structV val ls m o).n).d.length / 8:Nat)≤o.d∧(trimN (structV val ls m o).n).ks.length≤o.p∧canK (trimN (structV val ls m o).n).ks≤m-(structV val ls m o).m:=by
 have hval:=(structV_valid hv ls m o h1 h2 h3 h4).1
 unfold structV at he hval ⊢
 by_cases h:(runK (fun m i=>val m o.sg (o.at'+o.d+i)) m o.p.toNat).e=0
 ·rw [if_neg (fun h'=>h' h)] at hval ⊢
  have hr:=runK_can (fun y=>canN (trimN y)) (f:=fun m i=>val m o.sg (o.at'+o.d+i)) (m:=m) o.p.toNat (fun m i _ he=>hc m _ _ he) h
  have hs:=can_struct hval
  have hl:=runK_length h
  have hdl:=datW_le ls o.sg o.at' o.d
  have e1:canK (trimK (runK (fun m i=>val m o.sg (o.at'+o.d+i)) m o.p.toNat).ks)=sumI (fun y=>canN (trimN y)) (runK (fun m i=>val m o.sg (o.at'+o.d+i)) m o.p.toNat).ks:=by rw [canK_sum,trimK_map,sumI_map]
  have e2:(bytesOf (datW ls o.sg o.at' o.d)).length=8*(datW ls o.sg o.at' o.d).length:=bytesOf_length _
  rw [e1,hl,e2] at hs
  simp only
  omega
 ·rw [if_pos h] at he
  exact absurd he h
theorem listV_can {ls:List (List Int)}{val:Int→Int→Int→Val}(hv:∀m s a,validN (val m s a).n=true)(hc:∀m s a,(val m s a).e=0→canN (trimN (val m s a).n)≤m-(val m s a).m)(m:Int)(o:Ob)(h1:0≤o.d)(h2:o.d≤65535)(h3:0≤o.p)(h4:o.p≤65535)(h5:0≤o.n)(h6:6≤o.el)(h7:o.el≤7)(he:(listV val ls m o).e=0):
  canN (trimN (listV val ls m o).n)≤(if o.el=6 then o.n else 1+o.n*(o.d+o.p))+(m-(listV val ls m o).m):=by
 unfold listV at he ⊢
 by_cases h:(runK (elemV val ls o) m o.n.toNat).e=0
 ·rw [if_neg (fun h'=>h' h)]
  by_cases h66:o.el=6
  ·rw [if_pos h66]
   have hr:=runK_can (fun y=>canN (trimN y)) (f:=elemV val ls o) (m:=m) o.n.toNat (fun m i _ he=>by
    unfold elemV at he ⊢
    rw [if_pos h66] at he ⊢
    exact hc m _ _ he) h
   simp only [trimN,canN]
   rw [if_neg (by omega),if_neg (by omega),if_neg (by omega)]
   unfold canOf
   rw [if_neg (by omega),if_neg (by omega),if_neg (by omega),canK_sum,trimK_map,sumI_map,h66]
   have e3:wordsI 6 o.n=o.n:=by unfold wordsI bitsI;simp;omega
   omega
  ·have h77:o.el=7:=by omega
   rw [if_neg h66]
   have hk:∀y∈(runK (elemV val ls o) m o.n.toNat).ks,((trimN y).d.length / 8:Nat)≤o.d∧(trimN y).ks.length≤o.p:=runK_all (fun y=>(((trimN y).d.length / 8:Nat):Int)≤o.d∧((trimN y).ks.length:Int)≤o.p) _ (fun m i _ he=>by
    unfold elemV at he ⊢
    rw [if_neg h66] at he ⊢
    have:=structV_can hv hc m (eleO o i) h1 h2 h3 h4 he
    exact⟨this.2.1,this.2.2.1⟩)
   have hr:=runK_can (fun y=>canK (trimN y).ks) (f:=elemV val ls o) (m:=m) o.n.toNat (fun m i _ he=>by
    unfold elemV at he ⊢
    rw [if_neg h66] at he ⊢
    exact(structV_can hv hc m (eleO o i) h1 h2 h3 h4 he).2.2.2) h
   have hl:=runK_length h
   generalize (runK (elemV val ls o) m o.n.toNat).ks=ks at *
   have hkt:∀y∈trimK ks,y.d.length / 8≤o.d.toNat∧y.ks.length≤o.p.toNat:=by
    intro y hy
    rw [trimK_map] at hy
    obtain⟨z,hz,rfl⟩:=List.mem_map.1 hy
    have:=hk z hz
    omega
   have hu:=uniD_le (trimK ks) o.d.toNat (trimK ks).length (Nat.le_refl _) (fun y hy=>(hkt y hy).1)
   have hp:=uniP_le (trimK ks) o.p.toNat (trimK ks).length (Nat.le_refl _) (fun y hy=>(hkt y hy).2)
   simp only [trimN,canN]
   rw [if_neg (by omega),if_neg (by omega),if_pos ⟨trivial,h77⟩]
   unfold canOf
   rw [if_neg (by omega),if_neg (by omega),if_pos h77,canG_sum,trimK_map,sumI_map]
   rw [trimK_map] at hu hp
   have hmul:o.n*((uniD (ks.map trimN) (ks.map trimN).length+uniP (ks.map trimN) (ks.map trimN).length:Nat):Int)≤o.n*(o.d+o.p):=Int.mul_le_mul_of_nonneg_left (by omega) h5
   omega
 ·rw [if_pos h] at he
  exact absurd he h
theorem objF_cost {ls:List (List Int)}(hw:Wd2 ls)(hm:ls.length≤40)(hf:∀j,(seg ls j).length≤20000000)(s a:Int)(q:Ob×Int)(hq:objF ls s a=q)(h1:¬q.2≠0)(h0:q.1≠ob0):
  (q.1.k=1→q.1.d+q.1.p=q.1.cost)∧(¬q.1.k=1→q.1.el<7→q.1.cost=wordsI q.1.el q.1.n)∧(¬q.1.k=1→q.1.el=7→1+q.1.n*(q.1.d+q.1.p)≤q.1.cost):=by
 have h:=objF_cases hw (by omega) (fun j=>by have:=hf j;omega) s a
 rw [hq] at h
 obtain⟨⟨k,sg,at',d,p,el,n,cost⟩,e⟩:=q
 simp only [ob0,Ob.mk.injEq,ne_eq] at h h1 h0 ⊢
 rcases h with ⟨h2,h4⟩|⟨-,rfl,rfl,rfl,h5,h6,h7,h8,rfl,h9⟩|⟨-,rfl,h4,h5,h6,h7,rfl,rfl,rfl,h8⟩|⟨-,rfl,rfl,h4,h5,h6,h7,h8,h9,c,h10,h11,h12,h13,rfl⟩
 ·exact absurd h2 h0
 ·exact⟨fun _=>rfl,fun h=>absurd rfl h,fun h=>absurd rfl h⟩
 ·exact⟨fun h=>by omega,fun _ _=>rfl,fun _ h=>by omega⟩
 ·exact⟨fun h=>by omega,fun _ h=>by omega,fun _ _=>by split<;>omega⟩
theorem can_nd0:canN (trimN nd0)=0:=by decide
theorem valV_can {ls:List (List Int)}(hw:Wd2 ls)(hm:ls.length≤40)(hf:∀j,(seg ls j).length≤20000000):∀r m s a,(valV ls r m s a).e=0→canN (trimN (valV ls r m s a).n)≤m-(valV ls r m s a).m
 | 0,m,s,a,he=>by
  unfold valV at he ⊢
  by_cases hn:(followF ls s a).e≠0∨(followF ls s a).w=0
  ·rw [if_pos hn]
   show canN (trimN nd0)≤m-m
   rw [can_nd0]
   omega
  ·rw [if_neg hn] at he
   exact absurd he (by simp [errV])
 | r+1,m,s,a,he=>by
  have ih:=fun m s a he=>valV_can hw hm hf r m s a he
  have hv:=fun m s a=>valV_valid hw hm hf r m s a
  have hb:=objF_num hw hm hf s a rfl
  unfold valV at he ⊢
  by_cases hn:(followF ls s a).e≠0∨(followF ls s a).w=0
  ·rw [if_pos hn]
   show canN (trimN nd0)≤m-m
   rw [can_nd0]
   omega
  ·rw [if_neg hn] at he
   rw [if_neg hn]
   have hco:=objF_cost hw hm hf s a _ rfl
   unfold bodyV at he ⊢
   generalize objF ls s a=q at *
   by_cases h1:q.2≠0
   ·rw [if_pos h1] at he
    exact absurd he h1
   rw [if_neg h1] at he
   rw [if_neg h1]
   by_cases h2:m<q.1.cost
   ·rw [if_pos h2] at he
    exact absurd he (by simp [errV])
   rw [if_neg h2] at he
   rw [if_neg h2]
   by_cases hz:q.1=ob0
   ·rw [hz]
    rw [if_neg (by simp [ob0]),if_pos (by simp [ob0])]
    show canN (trimN (.mk 2 0 0 (trimL (bytesOf (datW ls 0 0 0)) 0 0) []))≤m-(m-0)
    simp only [trimN,canN]
    rw [if_neg (by omega),if_neg (by omega),if_neg (by omega)]
    simp only [trimK,canK]
    unfold canOf
    rw [if_neg (by omega),if_neg (by omega),if_neg (by omega)]
    simp [wordsI,bitsI]
   obtain⟨c1,c2,c3⟩:=hco h1 hz
   by_cases h3:q.1.k=1
   ·rw [if_pos h3] at he
    rw [if_pos h3]
    have:=(structV_can hv ih (m-q.1.cost) q.1 (by omega) (by omega) (by omega) (by omega) he).1
    have:=c1 h3
    omega
   rw [if_neg h3] at he
   rw [if_neg h3]
   by_cases h4:q.1.el<6
   ·rw [if_pos h4]
    have hc2:=c2 h3 (by omega)
    simp only [trimN,canN]
    rw [if_neg (by omega),if_neg (by omega),if_neg (by omega)]
    simp only [trimK,canK]
    unfold canOf
    rw [if_neg (by omega),if_neg (by omega),if_neg (by omega)]
    omega
   ·rw [if_neg h4] at he
    rw [if_neg h4]
    have hl:=listV_can hv ih (m-q.1.cost) q.1 (by omega) (by omega) (by omega) (by omega) (by omega) (by omega) (by omega) he
    by_cases h66:q.1.el=6
    ·rw [if_pos h66] at hl
     have hc2:=c2 h3 (by omega)
     rw [h66] at hc2
     have e3:wordsI 6 q.1.n=q.1.n:=by unfold wordsI bitsI;simp;omega
     omega
    ·rw [if_neg h66] at hl
     have hc3:=c3 h3 (by omega)
     omega
theorem msg_can {ls:List (List Int)}(hw:Wd2 ls)(hm:ls.length≤40)(hf:∀j,(seg ls j).length≤20000000)(D X:Int)(he:(msgV ls D X).2=0):canN (msgV ls D X).1≤(measV ls D X).1:=by
 have h0:canN nd0=0:=by decide
 unfold msgV at he ⊢
 unfold measV
 by_cases h1:0<ls.length∧(seg ls 0).length=0
 ·rw [if_pos h1,if_pos h1]
  show canN nd0≤0
  omega
 ·rw [if_neg h1] at he
  rw [if_neg h1,if_neg h1]
  by_cases h2:(valV ls D.toNat (startI X) 0 0).e≠0
  ·rw [if_pos h2] at he;exact absurd he h2
  ·rw [if_neg h2,if_neg h2]
   exact valV_can hw hm hf _ _ _ _ (Classical.byContradiction h2)
def padW (b:List Int)(n:Nat):List Int:=wordsOf (b++List.replicate (8*n-b.length) 0)
def ptrP (x:Nd)(o:Int):Ptr:=
 if x.k=1 then ⟨0,if canO x=0 then -1 else o,((x.d.length / 8:Nat):Int),x.ks.length,0,0,false,0,0,0⟩
 else ⟨1,o,0,0,x.e,if x.e=7 then canO x-1 else x.n,false,0,0,0⟩
def ptrW (x:Nd)(o:Int):Int:=if x.k=0 then 0 else encW (ptrP x o)
def ptrsW (pos nx:Int):List Nd→List Int
 | []=>[]
 | t::ts=>ptrW t (nx-pos-1)::ptrsW (pos+1) (nx+canN t) ts
def elsW (a b:Nat)(pos nx:Int):List Nd→List Int
 | []=>[]
 | y::ys=>padW y.d a++(ptrsW (pos+a) nx (y.ks++List.replicate (b-y.ks.length) nd0)++elsW a b (pos+a+b) (nx+canK y.ks) ys)
def tagW (n:Int)(a b:Nat):Int:=encW ⟨0,n,a,b,0,0,false,0,0,0⟩
def bodyW (k e n:Int)(d:List Int)(ks:List Nd):List Int:=
 if k=0 then []
 else if k=1 then wordsOf d++ptrsW ((d.length / 8:Nat):Int) (canOf k e n d ks) ks
 else if e=7 then tagW n (uniD ks ks.length) (uniP ks ks.length)::elsW (uniD ks ks.length) (uniP ks ks.length) 1 (canOf k e n d ks) ks
 else if e=6 then ptrsW 0 (canOf k e n d ks) ks
 else padW d (wordsI e n).toNat
mutual
def objW:Nd→List Int
 | .mk k e n d ks=>bodyW k e n d ks++if k=2∧e=7 then objG ks else objK ks
def objK:List Nd→List Int
 | []=>[]
 | x::xs=>objW x++objK xs
def objG:List Nd→List Int
 | []=>[]
 | .mk _ _ _ _ ks::xs=>objK ks++objG xs
end
def writeF (x:Nd):List Int:=ptrW x 0::objW x
theorem objK_append (a b:List Nd):objK (a++b)=objK a++objK b:=by
 induction a with
 | nil=>simp [objK]
 | cons x xs ih=>simp only [List.cons_append,objK,ih,List.append_assoc]
theorem objG_kk (l:List Nd):objG l=objK (kk l):=by
 induction l with
 | nil=>simp [objG,kk,objK]
 | cons x xs ih=>
  obtain⟨k,e,n,d,ks⟩:=x
  have h:kk (.mk k e n d ks::xs)=ks++kk xs:=by simp [kk,Nd.ks]
  rw [h,objK_append]
  simp only [objG,ih]
def bodyN (x:Nd):List Int:=bodyW x.k x.e x.n x.d x.ks
theorem objW_eq (x:Nd):objW x=bodyN x++objK (targN x):=by
 obtain⟨k,e,n,d,ks⟩:=x
 simp only [objW,targN,bodyN,Nd.k,Nd.e,Nd.n,Nd.d,Nd.ks]
 by_cases h:k=2∧e=7
 ·rw [if_pos h,if_pos h,objG_kk]
 ·rw [if_neg h,if_neg h]
theorem objK_nulls (ts:List Nd)(q:Nat):objK (ts++List.replicate q nd0)=objK ts:=by
 rw [objK_append]
 have:∀q,objK (List.replicate q nd0)=[]:=by
  intro q
  induction q with
  | zero=>rfl
  | succ q ih=>rw [List.replicate_succ];show objW nd0++objK (List.replicate q nd0)=[];rw [ih];rfl
 rw [this,List.append_nil]
theorem padW_length {b:List Int}{n:Nat}(h:b.length≤8*n):(padW b n).length=n:=by
 rw [padW,wordsOf_length,List.length_append,List.length_replicate]
 omega
theorem ptrsW_length:∀(ts:List Nd) (pos nx:Int),(ptrsW pos nx ts).length=ts.length
 | [],_,_=>rfl
 | t::ts,pos,nx=>by simp only [ptrsW,List.length_cons,ptrsW_length ts]
theorem elsW_length (a b:Nat):∀(ys:List Nd) (pos nx:Int),(∀y∈ys,y.d.length≤8*a∧y.ks.length≤b)→(elsW a b pos nx ys).length=ys.length*(a+b)
 | [],_,_,_=>by simp [elsW]
 | y::ys,pos,nx,h=>by
  have h1:=h y (List.mem_cons_self ..)
  have ih:=elsW_length a b ys (pos+a+b) (nx+canK y.ks) (fun z hz=>h z (List.mem_cons_of_mem _ hz))
  simp only [elsW,List.length_append,padW_length h1.1,ptrsW_length,List.length_replicate,ih,List.length_cons]
  rw [Nat.add_mul]
  omega
theorem comp_fit {n:Int}{d:List Int}{ks:List Nd}(h:validN (.mk 2 7 n d ks)=true):∀y∈ks,y.d.length≤8*uniD ks ks.length∧y.ks.length≤uniP ks ks.length:=by
 intro y hy
 obtain⟨j,hj,rfl⟩:=List.getElem_of_mem hy
 refine⟨uniD_covers ks (fun z hz=>?_) _ (Nat.le_refl _) j hj hj,uniP_covers ks _ (Nat.le_refl _) j hj hj⟩
 obtain⟨hv,-⟩:=valid_mem h hz
 have hk:=(valid_elem h hz).1
 obtain⟨k',e',n',d',ks'⟩:=z
 simp only [validN,Bool.and_eq_true] at hv
 have h2:=hv.2
 simp only [Nd.k] at hk
 subst hk
 unfold headB at h2
 rw [if_neg (by omega),if_pos rfl,decide_eq_true_iff] at h2
 exact h2.2.2.1
theorem head_str {e n:Int}{d:List Int}{ks:List Nd}(h:validN (.mk 1 e n d ks)=true):e=0∧n=0∧d.length % 8=0∧d.length≤524280∧ks.length≤65535:=by
 simp only [validN,Bool.and_eq_true] at h
 have h2:=h.2
 unfold headB at h2
 rw [if_neg (by omega),if_pos rfl,decide_eq_true_iff] at h2
 exact h2
theorem head_lst {e n:Int}{d:List Int}{ks:List Nd}(h:validN (.mk 2 e n d ks)=true):0≤n∧n≤536870911∧0≤e∧e≤7∧(6≤e→d.length=0∧(ks.length:Int)=n)∧(e<6→ks.length=0∧(d.length:Int)=bytesI e n∧trimL d e n=d):=by
 simp only [validN,Bool.and_eq_true] at h
 have h2:=h.2
 unfold headB at h2
 rw [if_neg (by omega),if_neg (by omega),if_pos rfl,decide_eq_true_iff] at h2
 exact h2
theorem head_nul {e n:Int}{d:List Int}{ks:List Nd}(h:validN (.mk 0 e n d ks)=true):Nd.mk 0 e n d ks=nd0:=by
 simp only [validN,Bool.and_eq_true] at h
 have h2:=h.2
 unfold headB at h2
 rw [if_pos rfl,decide_eq_true_iff] at h2
 obtain⟨rfl,rfl,h3,h4⟩:=h2
 rw [List.eq_nil_of_length_eq_zero h3,List.eq_nil_of_length_eq_zero h4]
 rfl
theorem body_length {x:Nd}(h:validN x=true):((bodyN x).length:Int)=canO x:=by
 obtain⟨k,e,n,d,ks⟩:=x
 have hk:=valid_k h
 simp only [Nd.k] at hk
 simp only [bodyN,canO,Nd.k,Nd.e,Nd.n,Nd.d,Nd.ks]
 rcases hk with rfl|rfl|rfl
 ·simp [bodyW,canOf]
 ·simp only [bodyW,if_neg (show ¬((1:Int)=0) by omega),if_pos]
  rw [List.length_append,wordsOf_length,ptrsW_length]
  simp [canOf]
 ·obtain⟨g1,g2,g3,g4,g5,g6⟩:=head_lst h
  simp only [bodyW,if_neg (show ¬((2:Int)=0) by omega),if_neg (show ¬((2:Int)=1) by omega)]
  by_cases h7:e=7
  ·subst h7
   rw [if_pos rfl,List.length_cons,elsW_length _ _ _ _ _ (comp_fit h)]
   simp only [canOf,if_neg (show ¬((2:Int)=0) by omega),if_neg (show ¬((2:Int)=1) by omega),if_pos]
   rw [←(g5 (by omega)).2]
   simp
   omega
  ·rw [if_neg h7]
   simp only [canOf,if_neg (show ¬((2:Int)=0) by omega),if_neg (show ¬((2:Int)=1) by omega),if_neg h7]
   by_cases h6:e=6
   ·subst h6
    rw [if_pos rfl,ptrsW_length,(g5 (by omega)).2]
    simp [wordsI,bitsI]
    omega
   ·rw [if_neg h6]
    obtain⟨g7,g8,-⟩:=g6 (by omega)
    have hb:=bitsI_mul e n g1
    have hw:wordsI e n=(bitsI e*n+63) / 64:=by unfold wordsI;rw [if_neg h7]
    have hB:bytesI e n=(bitsI e*n+7) / 8:=rfl
    rw [padW_length (by omega)]
    omega
theorem objK_length {l:List Nd}(h:∀y∈l,((objW y).length:Int)=canN y):((objK l).length:Int)=canK l:=by
 induction l with
 | nil=>simp [objK,canK]
 | cons y ys ih=>
  have h1:=h y (List.mem_cons_self ..)
  have h2:=ih (fun z hz=>h z (List.mem_cons_of_mem _ hz))
  simp only [objK,canK,List.length_append]
  omega
theorem objW_length:∀x:Nd,validN x=true→((objW x).length:Int)=canN x:=size_ind (by
 intro x ih h
 have h1:=body_length h
 have h2:=objK_length (l:=targN x) (fun y hy=>ih y (targ_lt hy) (valid_targ h y hy))
 rw [objW_eq,canN_eq,List.length_append]
 omega)
theorem writeF_length {x:Nd}(h:validN x=true):((writeF x).length:Int)=canN x+1:=by
 rw [writeF,List.length_cons,←objW_length x h]
 simp
theorem ptrW_wd (x:Nd)(o:Int):0≤ptrW x o∧ptrW x o<18446744073709551616:=by
 unfold ptrW
 split
 ·omega
 ·exact encW_bd _
theorem ptrsW_wds:∀(ts:List Nd) (pos nx:Int),Wds (ptrsW pos nx ts)
 | [],_,_=>fun z hz=>by cases hz
 | t::ts,pos,nx=>by
  intro z hz
  rcases List.mem_cons.1 hz with rfl|hz
  ·exact ptrW_wd _ _
  ·exact ptrsW_wds ts _ _ z hz
theorem padW_wds {b:List Int}(h:Bts b)(n:Nat):Wds (padW b n):=wordsOf_wds (by
 intro z hz
 rcases List.mem_append.1 hz with hz|hz
 ·exact h z hz
 ·rw [List.eq_of_mem_replicate hz];omega)
theorem elsW_wds (a b:Nat):∀(ys:List Nd) (pos nx:Int),(∀y∈ys,Bts y.d)→Wds (elsW a b pos nx ys)
 | [],_,_,_=>fun z hz=>by cases hz
 | y::ys,pos,nx,h=>by
  intro z hz
  simp only [elsW] at hz
  rcases List.mem_append.1 hz with hz|hz
  ·exact padW_wds (h y (List.mem_cons_self ..)) a z hz
  ·rcases List.mem_append.1 hz with hz|hz
   ·exact ptrsW_wds _ _ _ z hz
   ·exact elsW_wds a b ys _ _ (fun z hz=>h z (List.mem_cons_of_mem _ hz)) z hz
mutual
def bytN:Nd→Prop
 | .mk _ _ _ d ks=>Bts d∧bytK ks
def bytK:List Nd→Prop
 | []=>True
 | x::xs=>bytN x∧bytK xs
end
theorem bytK_mem {l:List Nd}(h:bytK l):∀y∈l,bytN y:=by
 induction l with
 | nil=>intro y hy;cases hy
 | cons x xs ih=>
  simp only [bytK] at h
  intro y hy
  rcases List.mem_cons.1 hy with rfl|hy
  ·exact h.1
  ·exact ih h.2 y hy
theorem bytK_of {l:List Nd}(h:∀y∈l,bytN y):bytK l:=by
 induction l with
 | nil=>simp [bytK]
 | cons x xs ih=>simp only [bytK];exact⟨h x (List.mem_cons_self ..),ih (fun y hy=>h y (List.mem_cons_of_mem _ hy))⟩
theorem bytN_d {x:Nd}(h:bytN x):Bts x.d:=by
 obtain⟨k,e,n,d,ks⟩:=x
 exact(by simpa only [bytN] using h:Bts d∧bytK ks).1
theorem bytN_ks {x:Nd}(h:bytN x):∀y∈x.ks,bytN y:=by
 obtain⟨k,e,n,d,ks⟩:=x
 exact bytK_mem (by simpa only [bytN] using h:Bts d∧bytK ks).2
theorem bytN_targ {x:Nd}(h:bytN x):∀y∈targN x,bytN y:=by
 intro y hy
 have hk:=bytN_ks h
 obtain⟨k,e,n,d,ks⟩:=x
 rw [targN_mk] at hy
 split at hy
 ·obtain⟨z,hz,hyz⟩:=List.mem_flatMap.1 hy
  exact bytN_ks (hk z hz) y hyz
 ·exact hk y hy
theorem body_wds {x:Nd}(h:bytN x):Wds (bodyN x):=by
 have hd:=bytN_d h
 have hk:=bytN_ks h
 obtain⟨k,e,n,d,ks⟩:=x
 simp only [bodyN,Nd.k,Nd.e,Nd.n,Nd.d,Nd.ks] at hd hk ⊢
 unfold bodyW
 split
 ·intro z hz;cases hz
 ·split
  ·intro z hz
   rcases List.mem_append.1 hz with hz|hz
   ·exact wordsOf_wds hd z hz
   ·exact ptrsW_wds _ _ _ z hz
  ·split
   ·intro z hz
    rcases List.mem_cons.1 hz with rfl|hz
    ·exact encW_bd _
    ·exact elsW_wds _ _ _ _ _ (fun y hy=>bytN_d (hk y hy)) z hz
   ·split
    ·exact ptrsW_wds _ _ _
    ·exact padW_wds hd _
theorem objW_wds:∀x:Nd,bytN x→Wds (objW x):=size_ind (by
 intro x ih h z hz
 rw [objW_eq] at hz
 rcases List.mem_append.1 hz with hz|hz
 ·exact body_wds h z hz
 ·have:∀l:List Nd,(∀y∈l,Wds (objW y))→Wds (objK l):=by
   intro l hl
   induction l with
   | nil=>intro z hz;cases hz
   | cons y ys ih2=>
    intro z hz
    simp only [objK] at hz
    rcases List.mem_append.1 hz with hz|hz
    ·exact hl y (List.mem_cons_self ..) z hz
    ·exact ih2 (fun z hz=>hl z (List.mem_cons_of_mem _ hz)) z hz
  exact this _ (fun y hy=>ih y (targ_lt hy) (bytN_targ h y hy)) z hz)
theorem writeF_wds {x:Nd}(h:bytN x):Wds (writeF x):=by
 intro z hz
 rcases List.mem_cons.1 hz with rfl|hz
 ·exact ptrW_wd _ _
 ·exact objW_wds x h z hz
end Go.Proofs.YtfaflahfjgnphaaDoor
