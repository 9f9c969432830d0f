/- The texts Ref12, EqO (what is wanted of them), one after the other. -/
import Derived.Test.YtfaflahfjgnphaaDoorMg34
namespace Go.Proofs.YtfaflahfjgnphaaDoor
open Go.ChangeShapes Go.WideShapes Go.ChangeAt Go.RowKit
set_option linter.unusedVariables false
set_option linter.unusedSimpArgs false
set_option maxRecDepth 100000
theorem datW_wds {ls:List (List Int)}(hw:Wd2 ls)(s a n:Int):Wds (datW ls s a n):=by
 unfold datW
 split
 ·intro z hz
  exact(hw.at s.toNat) z (List.mem_of_mem_drop (List.mem_of_mem_take hz))
 ·intro z hz;cases hz
section
def OkV (ls:List (List Int))(r:Nat)(s a:Int)(X:Nd):Prop:=∃m,(valV ls r m s a).e=0∧(valV ls r m s a).n=X
def KidsOk (ls:List (List Int))(r:Nat)(o:Ob)(ks:List Nd):Prop:=ks.length=(ptrO o).2.toNat∧∀i,i<ks.length→OkV ls r o.sg ((ptrO o).1+(i:Int)) (kidN ks i)
def ElsOk (ls:List (List Int))(r:Nat)(o:Ob)(es:List Nd):Prop:=es.length=o.n.toNat∧∀i,i<es.length→∃ks,kidN es i=.mk 1 0 0 (datO ls (eleO o (i:Int))) ks∧KidsOk ls r (eleO o (i:Int)) ks
def NodOk (ls:List (List Int))(r:Nat)(o:Ob)(X:Nd):Prop:=(o.el≠7∧∃ks,X=.mk o.k o.el o.n (datO ls o) ks∧KidsOk ls r o ks)∨(o.el=7∧∃es,X=.mk o.k o.el o.n [] es∧ElsOk ls r o es)
def ObjOk (ls:List (List Int))(r:Nat)(o:Ob)(X:Nd):Prop:=(o=ob0∧X=nd0)∨(0<r∧o.k≠0∧(∃s a,objF ls s a=(o,0))∧NodOk ls (r-1) o X)
theorem runK_getE {f:Int→Nat→Val}{m:Int}:∀n,(runK f m n).e=0→∀i,i<n→∃m',(f m' i).e=0∧(f m' i).n=kidN (runK f m n).ks i
 | 0,_,i,hi=>absurd hi (Nat.not_lt_zero _)
 | n+1,h,i,hi=>by
  obtain⟨e1,e2⟩:=runK_succ0 h
  have hl:=runK_length e1
  rw [runK_ok e1 e2]
  by_cases hin:i=n
  ·subst hin
   refine⟨_,e2,?_⟩
   rw [kidN_in (by simp;omega)]
   simp [List.getElem_append_right,hl]
  ·obtain⟨m',h1,h2⟩:=runK_getE n e1 i (by omega)
   refine⟨m',h1,?_⟩
   rw [h2,kidN_in (by omega),kidN_in (by simp;omega),List.getElem_append_left]
theorem kids_of {ls:List (List Int)}{r:Nat}{o:Ob}{m:Int}(h:(kidR (valV ls r) o m).e=0):KidsOk ls r o (kidR (valV ls r) o m).ks:=by
 have hl:=runK_length h
 refine⟨hl,fun i hi=>?_⟩
 obtain⟨m',h1,h2⟩:=runK_getE _ h i (by rw [←hl];exact hi)
 exact⟨m',h1,h2⟩
theorem cont_of {ls:List (List Int)}{r:Nat}{o:Ob}{m:Int}(h:(contK (valV ls r) ls m o).e=0):∃ks,(contK (valV ls r) ls m o).n=.mk o.k o.el o.n (datO ls o) ks∧KidsOk ls r o ks:=by
 by_cases h1:(kidR (valV ls r) o m).e=0
 ·have h2:contK (valV ls r) ls m o=⟨.mk o.k o.el o.n (datO ls o) (kidR (valV ls r) o m).ks,(kidR (valV ls r) o m).m,0⟩:=by unfold contK;rw [if_neg (fun h=>h h1)]
  rw [h2]
  exact⟨_,rfl,kids_of h1⟩
 ·have h2:contK (valV ls r) ls m o=errV (kidR (valV ls r) o m).m (kidR (valV ls r) o m).e:=by unfold contK;rw [if_pos h1]
  rw [h2] at h
  exact absurd h h1
theorem body_of {ls:List (List Int)}{r:Nat}{o:Ob}{m:Int}(h:(bodyK (valV ls r) ls m o).e=0):NodOk ls r o (bodyK (valV ls r) ls m o).n:=by
 by_cases h7:o.el=7
 ·by_cases h1:(elsR (valV ls r) ls o m).e=0
  ·have h2:bodyK (valV ls r) ls m o=⟨.mk o.k o.el o.n [] (elsR (valV ls r) ls o m).ks,(elsR (valV ls r) ls o m).m,0⟩:=by unfold bodyK;rw [if_pos h7,if_neg (fun h=>h h1)]
   rw [h2]
   have hl:=runK_length h1
   refine .inr ⟨h7,_,rfl,hl,fun i hi=>?_⟩
   obtain⟨m',h3,h4⟩:=runK_getE _ h1 i (by rw [←hl];exact hi)
   obtain⟨ks,h5,h6⟩:=cont_of h3
   exact⟨ks,by show kidN (elsR (valV ls r) ls o m).ks i=_;rw [show elsR (valV ls r) ls o m=runK (fun m i=>contK (valV ls r) ls m (eleO o i)) m o.n.toNat from rfl,←h4,h5];rfl,h6⟩
  ·have h2:bodyK (valV ls r) ls m o=errV (elsR (valV ls r) ls o m).m (elsR (valV ls r) ls o m).e:=by unfold bodyK;rw [if_pos h7,if_pos h1]
   rw [h2] at h
   exact absurd h h1
 ·have h2:bodyK (valV ls r) ls m o=contK (valV ls r) ls m o:=by unfold bodyK;rw [if_neg h7]
  rw [h2] at h ⊢
  obtain⟨ks,h5,h6⟩:=cont_of h
  exact .inl ⟨h7,ks,h5,h6⟩
section
variable {ls:List (List Int)} (hw:Wd2 ls) (hm:ls.length≤40) (hf:∀j,(seg ls j).length≤20000000)
include hw hm hf
theorem okV_obj {r:Nat}{s a:Int}{X:Nd}(h:OkV ls r s a X):ObjOk ls r (objF ls s a).1 X:=by
 obtain⟨m,he,rfl⟩:=h
 have hv:=valV_loc hw hm hf ((r:Int)-1) m s a 0 r (by omega)
 by_cases hL:(locD ls ((r:Int)-1) m s a 0).e≠0
 ·rw [if_pos hL] at hv
  rw [hv] at he
  exact absurd he hL
 rw [if_neg hL] at hv
 have hS:=objF_some ls s a
 unfold locD at hv hL
 by_cases h1:(followF ls s a).e≠0∨(followF ls s a).w=0
 ·have hq:locQ (followF ls s a) (objF ls s a) ((r:Int)-1) m 0=⟨ob0,m,(followF ls s a).e⟩:=by unfold locQ;rw [if_pos h1]
  rw [hq] at hv hL
  have ho:objF ls s a=(ob0,(followF ls s a).e):=by unfold objF;rw [if_pos h1]
  rw [ho,hv]
  exact .inl ⟨rfl,rfl⟩
 ·have h2:¬((r:Int)-1<0):=fun h=>hL (by unfold locQ;rw [if_neg h1,if_pos h];exact(by decide:(7:Int)≠0))
  have h3:¬(objF ls s a).2≠0:=fun h=>hL (by unfold locQ;rw [if_neg h1,if_neg h2,if_pos h];exact h)
  have h4:¬m<(objF ls s a).1.cost:=fun h=>hL (by unfold locQ;rw [if_neg h1,if_neg h2,if_neg h3,if_pos h];exact(by decide:(8:Int)≠0))
  have hq:locQ (followF ls s a) (objF ls s a) ((r:Int)-1) m 0=⟨(objF ls s a).1,m-(objF ls s a).1.cost,0⟩:=by unfold locQ;rw [if_neg h1,if_neg h2,if_neg h3,if_neg h4]
  rw [hq] at hv
  have h30:(objF ls s a).2=0:=Classical.byContradiction h3
  rw [hv] at he ⊢
  refine .inr ⟨by omega,hS (Classical.byContradiction fun h=>h1 (.inl h)) (fun h=>h1 (.inr h)) h30,⟨s,a,Prod.ext rfl h30⟩,body_of he⟩
theorem okV_valid {r:Nat}{s a:Int}{X:Nd}(h:OkV ls r s a X):validN X=true:=by
 obtain⟨m,he,rfl⟩:=h
 exact valV_valid hw hm hf _ _ _ _
theorem kids_valid {r:Nat}{o:Ob}{ks:List Nd}(h:KidsOk ls r o ks):∀y∈ks,validN y=true:=by
 intro y hy
 obtain⟨i,hi,rfl⟩:=List.getElem_of_mem hy
 rw [←kidN_in hi]
 exact okV_valid hw hm hf (h.2 i hi)
theorem located {o:Ob}(h:∃s a,objF ls s a=(o,0)):0≤o.k∧o.k≤2∧0≤o.sg∧o.sg≤40∧0≤o.at'∧o.at'≤20000001∧0≤o.d∧o.d≤65535∧0≤o.p∧o.p≤65535∧0≤o.el∧o.el≤7∧0≤o.n∧o.n≤536870911∧0≤o.n*(o.d+o.p)∧o.n*(o.d+o.p)≤20000000:=by
 obtain⟨s,a,hq⟩:=h
 have:=objF_num hw hm hf s a hq
 simp only at this
 omega
theorem located_str {o:Ob}(h:∃s a,objF ls s a=(o,0))(hk:o.k=1):o.el=0∧o.n=0:=by
 obtain⟨s,a,hq⟩:=h
 rcases objF_cases hw (by omega) (fun j=>by have:=hf j;omega) s a with ⟨h1,-⟩|⟨-,h1,h2,h3,-⟩|⟨-,h1,-⟩|⟨-,h1,-⟩
 all_goals rw [hq] at h1
 ·simp only at h1
  rw [h1] at hk
  exact absurd hk (by decide)
 ·rw [hq] at h2 h3
  exact⟨h2,h3⟩
 ·simp only at h1;omega
 ·simp only at h1;omega
theorem located_lst {o:Ob}(h:∃s a,objF ls s a=(o,0))(hk:o.k=2)(h6:o.el<6):inB ls o.sg o.at' (wordsI o.el o.n)=true:=by
 obtain⟨s,a,hq⟩:=h
 rcases objF_cases hw (by omega) (fun j=>by have:=hf j;omega) s a with ⟨h1,-⟩|⟨-,h1,h2,h3,-⟩|⟨-,h1,-,-,-,-,-,-,h2,h3⟩|⟨-,h1,h2,-⟩
 all_goals rw [hq] at h1
 ·simp only at h1
  rw [h1] at hk
  exact absurd hk (by decide)
 ·simp only at h1;omega
 ·rw [hq] at h2 h3
  simp only at h2 h3
  rw [h2] at h3
  exact h3
 ·rw [hq] at h2
  simp only at h2
  omega
end
theorem datW_at {ls:List (List Int)}{s a n:Int}(h:inB ls s a n=true){i:Nat}(hi:(i:Int)<n):zat (datW ls s a n) i=wordV ls s (a+(i:Int))∧hasB ls s (a+(i:Int))=true:=by
 have h1:=inB_iff.1 h
 have h2:hasB ls s (a+(i:Int))=true:=by unfold hasB;rw [decide_eq_true_iff];omega
 refine⟨?_,h2⟩
 unfold datW wordV sliceL
 rw [if_pos h,if_pos h2,zat_take _ _ _ (by omega),zat_drop]
 congr 1
 omega
theorem objOk_head {ls:List (List Int)}{r:Nat}{o:Ob}{X:Nd}(h:ObjOk ls r o X):X.k=o.k∧X.e=o.el∧X.n=o.n:=by
 rcases h with ⟨rfl,rfl⟩|⟨-,-,-,h⟩
 ·exact⟨rfl,rfl,rfl⟩
 ·rcases h with ⟨-,ks,rfl,-⟩|⟨-,es,rfl,-⟩<;>exact⟨rfl,rfl,rfl⟩
theorem eqT_strO {ms ns:List (List Int)}(hwm:Wd2 ms)(hmm:ms.length≤40)(hfm:∀j,(seg ms j).length≤20000000)(hwn:Wd2 ns)(hmn:ns.length≤40)(hfn:∀j,(seg ns j).length≤20000000){r:Nat}{o p:Ob}{ks ks':List Nd}(ho:o.k=1)(hp:p.k=1)(h:KidsOk ms r o ks)(h':KidsOk ns r p ks'):
  eqT (.mk 1 0 0 (datO ms o) ks) (.mk 1 0 0 (datO ns p) ks')=(dataE (datW ms o.sg o.at' o.d) (datW ns p.sg p.at' p.d)&&rowE ks ks'):=by
 have h1:datO ms o=bytesOf (datW ms o.sg o.at' o.d):=by unfold datO;rw [if_pos ho]
 have h2:datO ns p=bytesOf (datW ns p.sg p.at' p.d):=by unfold datO;rw [if_pos hp]
 rw [h1,h2]
 exact eqT_str (datW_wds hwm _ _ _) (datW_wds hwn _ _ _) (kids_valid hwm hmm hfm h) (kids_valid hwn hmn hfn h')
theorem kids_nil {ls:List (List Int)}{r:Nat}{o:Ob}{ks:List Nd}(h:KidsOk ls r o ks)(h0:(ptrO o).2.toNat=0):ks=[]:=List.length_eq_zero_iff.1 (h.1.trans h0)
theorem ptrO_lst {o:Ob}(h:o.k=2)(h6:o.el≠6):ptrO o=(0,0):=by
 unfold ptrO
 rw [if_neg (by omega),if_neg (fun h=>h6 h.2.1)]
theorem ptrO_num (o:Ob)(h:o.k=1∨o.k=2∨o.k=0):(o.k=1→(ptrO o).2.toNat=o.p.toNat)∧(o.k=2→o.el=6→(ptrO o).2.toNat=o.n.toNat):=by
 refine⟨fun h1=>?_,fun h1 h2=>?_⟩
 ·unfold ptrO
  by_cases h3:0<o.p
  ·rw [if_pos ⟨h1,h3⟩]
  ·rw [if_neg (by omega),if_neg (by omega)]
   simp only
   omega
 ·unfold ptrO
  by_cases h3:0<o.n
  ·rw [if_neg (by omega),if_pos ⟨h1,h2,h3⟩]
  ·rw [if_neg (by omega),if_neg (by omega)]
   simp only
   omega
theorem els_void {ms ns:List (List Int)}{r r':Nat}{o p:Ob}{es es':List Nd}(ho:o.d+o.p=0)(hp:p.d+p.p=0)(ho0:0≤o.d)(hp0:0≤p.d)(ho1:0≤o.p)(hp1:0≤p.p)(hn:o.n=p.n)(h:ElsOk ms r o es)(h':ElsOk ns r' p es'):rowE es es'=true:=by
 rw [rowE_iff]
 have hv:∀(ls:List (List Int)) (r:Nat) (o:Ob) (es:List Nd),0≤o.d→0≤o.p→o.d+o.p=0→ElsOk ls r o es→∀i,i<es.length→kidN es i=.mk 1 0 0 [] []:=fun ls r o es h0 h1 h2 h i hi=>by
  obtain⟨ks,h3,h4⟩:=h.2 i hi
  have h5:ks=[]:=kids_nil h4 (by rw [(ptrO_num (eleO o i) (.inl rfl)).1 rfl];show o.p.toNat=0;omega)
  have h6:datO ls (eleO o (i:Int))=[]:=by
   have hd:o.d=0:=by omega
   unfold datO
   rw [if_pos (show (eleO o (i:Int)).k=1 from rfl)]
   have:datW ls (eleO o (i:Int)).sg (eleO o (i:Int)).at' (eleO o (i:Int)).d=[]:=List.length_eq_zero_iff.1 (by have:=datW_le ls (eleO o (i:Int)).sg (eleO o (i:Int)).at' (eleO o (i:Int)).d;have h7:(eleO o (i:Int)).d=0:=hd;rw [h7] at this ⊢;simp at this ⊢;exact this)
   rw [this]
   rfl
  rw [h3,h5,h6]
 intro i
 have hl:es.length=es'.length:=by rw [h.1,h'.1,hn]
 by_cases hi:i<es.length
 ·rw [hv _ _ _ _ ho0 ho1 ho h i hi,hv _ _ _ _ hp0 hp1 hp h' i (by omega)]
  exact eqN_yes rfl
 ·rw [kidN_out (by omega),kidN_out (by omega)]
  exact eqT_nd0
theorem eqT_datO {ms ns:List (List Int)}(hwm:Wd2 ms)(hwn:Wd2 ns){r r':Nat}{o p:Ob}{ks ks':List Nd}(hk:o.k=2)(hk':p.k=2)(he:p.el=o.el)(hn':p.n=o.n)(he0:0≤o.el)(h6:o.el<6)(hn:0≤o.n)(hi:inB ms o.sg o.at' (wordsI o.el o.n)=true)(hi':inB ns p.sg p.at' (wordsI p.el p.n)=true)(h:KidsOk ms r o ks)(h':KidsOk ns r' p ks'){T N:Nat}(hT:bitsI o.el*o.n=T)(hN:wordsI o.el o.n=N):
  eqT (.mk o.k o.el o.n (datO ms o) ks) (.mk p.k p.el p.n (datO ns p) ks')=true↔∀i,i<N→fld (wordV ms o.sg (o.at'+(i:Int))) 0 ((min (T-64*i) 64:Nat):Int)=fld (wordV ns p.sg (p.at'+(i:Int))) 0 ((min (T-64*i) 64:Nat):Int):=by
 obtain rfl:=kids_nil h (by rw [ptrO_lst hk (by omega)];rfl)
 obtain rfl:=kids_nil h' (by rw [ptrO_lst hk' (by omega)];rfl)
 have h1:datO ms o=trimL (bytesOf (datW ms o.sg o.at' (wordsI o.el o.n))) o.el o.n:=by unfold datO;rw [if_neg (by omega),if_pos ⟨hk,by omega⟩]
 have h2:datO ns p=trimL (bytesOf (datW ns p.sg p.at' (wordsI p.el p.n))) p.el p.n:=by unfold datO;rw [if_neg (by omega),if_pos ⟨hk',by omega⟩]
 rw [h1,h2,hk,hk',he,hn',eqT_dat,trim_iff (datW_wds hwm _ _ _) (datW_wds hwn _ _ _) he0 h6 hn hT hN]
 rw [he,hn'] at hi'
 constructor
 ·intro g i hiN
  rw [←(datW_at hi (by omega:(i:Int)<wordsI o.el o.n)).1,←(datW_at hi' (by omega:(i:Int)<wordsI o.el o.n)).1]
  exact g i hiN
 ·intro g i hiN
  rw [(datW_at hi (by omega:(i:Int)<wordsI o.el o.n)).1,(datW_at hi' (by omega:(i:Int)<wordsI o.el o.n)).1]
  exact g i hiN
end
end Go.Proofs.YtfaflahfjgnphaaDoor
