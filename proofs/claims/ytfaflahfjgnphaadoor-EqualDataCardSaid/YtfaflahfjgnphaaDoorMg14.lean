/- The texts Blk, Node, Budget, Two, AppZ (what is wanted of them), one after the other. -/
import Derived.Test.YtfaflahfjgnphaaDoorMg3
import Derived.Test.YtfaflahfjgnphaaDoorMg6
import Derived.Test.YtfaflahfjgnphaaDoorMg7
import Derived.Test.YtfaflahfjgnphaaDoorMg9
import Derived.Laws.OwnMore
import Derived.Lib.AppendZerosOnto
namespace Go.Proofs.YtfaflahfjgnphaaDoor
open Go.ChangeShapes Go.WideShapes Go.ChangeAt Go.RowKit
set_option linter.unusedVariables false
set_option linter.unusedSimpArgs false
set_option maxRecDepth 100000
section
structure Blk (W:World) (b:Nat) (cs:Array Value):Prop where
 cell:∀o,W.cell? ⟨b,o,none⟩=cs[o]?
 free:∀o,W.frozen? ⟨b,o,none⟩=false
 lt:b<W.heap.size
section
variable {W W':World} {b:Nat} {cs:Array Value}
theorem Blk.fresh (W:World)(cs:Array Value)(T:TypeId):Blk (W.alloc (.cells cs T)) W.heap.size cs:=
 ⟨blk_new W cs T,fun o=>by simp,by simp⟩
theorem Blk.new {T:TypeId}(hb:W.heap.size=b):Blk (W.alloc (.cells cs T)) b cs:=hb ▸ Blk.fresh W cs T
theorem Blk.alloc (h:Blk W b cs)(o:Obj):Blk (W.alloc o) b cs:=by
 have hb:Below W.heap.size W (W.alloc o):=(Below.refl _ _).alloc (Nat.le_refl _) o
 have hz:=h.lt
 refine⟨blk_alloc h.cell (by omega) _,fun j=>?_,?_⟩
 ·rw [hb.frozen (p:=⟨b,j,none⟩) (by show b<_;omega)]
  exact h.free j
 ·simp;omega
theorem Blk.below (h:Blk W b cs)(hb:Below W.heap.size W W'):Blk W' b cs:=by
 have hz:=h.lt
 have h2:=hb.size
 refine⟨blk_below h.cell hb (by omega),fun j=>?_,by omega⟩
 rw [hb.frozen (p:=⟨b,j,none⟩) (by show b<_;omega)]
 exact h.free j
theorem Blk.drewN (h:Blk W b cs)(n:Nat):Blk (W.drewN n) b cs:=⟨h.cell,h.free,h.lt⟩
theorem Blk.drew (h:Blk W b cs):Blk W.drew b cs:=⟨h.cell,h.free,h.lt⟩
theorem blk_set' (x:∀o,W.cell? ⟨b,o,none⟩=cs[o]?)(k:Nat)(hk:k<cs.size)(v:Value):∀o,(W.setCell ⟨b,k,none⟩ v).cell? ⟨b,o,none⟩=(cs.setIfInBounds k v)[o]?:=by
 intro o
 by_cases e:k=o
 ·subst e
  rw [World.cell?_setCell_same' _ _ _ (by rw [x k];simp [hk])]
  simp [hk]
 ·rw [World.cell?_setCell_other W ⟨b,k,none⟩ ⟨b,o,none⟩ v (by intro h;injection h with _ h2;exact e h2),x o]
  simp [Array.getElem?_setIfInBounds_ne e]
theorem Blk.set (h:Blk W b cs)(k:Nat)(hk:k<cs.size)(v:Value):Blk (W.setCell ⟨b,k,none⟩ v) b (cs.setIfInBounds k v):=
 ⟨blk_set' h.cell k hk v,fun o=>by have:=h.free o;simpa using this,by have:=h.lt;simpa using this⟩
theorem Blk.other (h:Blk W b cs){p:Addr}(hp:p.block≠b)(v:Value):Blk (W.setCell p v) b cs:=
 ⟨fun o=>by rw [World.cell?_setCell_other W p ⟨b,o,none⟩ v (by intro e;rw [e] at hp;exact hp rfl)];exact h.cell o,fun o=>by have:=h.free o;simpa using this,by have:=h.lt;simpa using this⟩
end
theorem abs_world {P:Program}{f:FuncId}{args:Array Value}{V:World}{Q:Ending→World→Prop}(F:World→Prop)(hF:F V)(h:∀W,F W→Calls P f args W Q):Calls P f args V Q:=h V hF
theorem abs_post {P:Program}{fn:Func}{Q:Ending→World→Prop}{e:Exit}{a:Act}{V:World}(F:World→Prop)(hF:F V)(h:∀W,F W→bodyPost P fn Q e a W):bodyPost P fn Q e a V:=h V hF
end
section
inductive Nd where
 | mk (k e n:Int) (d:List Int) (ks:List Nd)
namespace Nd
def k:Nd→Int|.mk k _ _ _ _=>k
def e:Nd→Int|.mk _ e _ _ _=>e
def n:Nd→Int|.mk _ _ n _ _=>n
def d:Nd→List Int|.mk _ _ _ d _=>d
def ks:Nd→List Nd|.mk _ _ _ _ ks=>ks
end Nd
theorem Nd.ind {P:Nd→Prop}(h:∀k e n d ks,(∀x∈ks,P x)→P (.mk k e n d ks)):∀x,P x:=
 Nd.rec (motive_1:=P) (motive_2:=fun l=>∀x∈l,P x) (fun k e n d ks ih=>h k e n d ks ih) (fun x hx=>by cases hx) (fun a l ha hl x hx=>by
  rcases List.mem_cons.1 hx with rfl|hx
  ·exact ha
  ·exact hl x hx)
def nd0:Nd:=.mk 0 0 0 [] []
inductive NdR (w:World):Option Addr→Nat→Option Addr→Nat→Nd→Prop
 | mk (k e n:Int) (d:List Int) (ks:List Nd) (A:Option Addr) (c:Nat) (B:Option Addr) (c2:Nat) (FA:Nat→Option Addr) (Fc:Nat→Nat) (FB:Nat→Option Addr) (Fc2:Nat→Nat)
  (hk:-9223372036854775808≤k∧k≤9223372036854775807) (he:-9223372036854775808≤e∧e≤9223372036854775807) (hn:-9223372036854775808≤n∧n≤9223372036854775807)
  (hd:Ri w .u8 A d) (hb:Bts d) (hdl:d.length≤c) (hc:c≤maxLen) (hA:A=none→c=0) (hkl:ks.length≤c2) (hc2:c2≤maxLen) (hB:B=none→c2=0)
  (hcell:ks=[]∨∃b off,B=some ⟨b,off,none⟩∧∀j x,ks[j]?=some x→w.cell? ⟨b,off+j*5,none⟩=some (.int .i64 x.k)∧w.cell? ⟨b,off+j*5+1,none⟩=some (.int .i64 x.e)∧w.cell? ⟨b,off+j*5+2,none⟩=some (.int .i64 x.n) ∧
   w.cell? ⟨b,off+j*5+3,none⟩=some (.slice (FA j) x.d.length (Fc j))∧w.cell? ⟨b,off+j*5+4,none⟩=some (.slice (FB j) x.ks.length (Fc2 j)))
  (hsub:∀j x,ks[j]?=some x→NdR w (FA j) (Fc j) (FB j) (Fc2 j) x):NdR w A c B c2 (.mk k e n d ks)
theorem NdR.on {w w':World}{A:Option Addr}{c:Nat}{B:Option Addr}{c2:Nat}{x:Nd}(h:NdR w A c B c2 x){N:Nat}(hb:Below N w w')(hN:w.heap.size≤N):NdR w' A c B c2 x:=by
 induction h with
 | mk k e n d ks A c B c2 FA Fc FB Fc2 hk he hn hd hby hdl hc hA hkl hc2 hB hcell hsub ih=>
  refine .mk k e n d ks A c B c2 FA Fc FB Fc2 hk he hn (hd.below hb hN) hby hdl hc hA hkl hc2 hB ?_ ih
  rcases hcell with h|⟨b,off,hBe,hcs⟩
  ·exact .inl h
  ·refine .inr ⟨b,off,hBe,fun j x hj=>?_⟩
   obtain⟨h0,h1,h2,h3,h4⟩:=hcs j x hj
   have hlt:b<w.heap.size:=World.block_lt_of_cell? w ⟨b,off+j*5,none⟩ h0
   have hc:=fun o=>hb.cell (p:=⟨b,o,none⟩) (by show b<N;omega)
   exact⟨(hc _).trans h0,(hc _).trans h1,(hc _).trans h2,(hc _).trans h3,(hc _).trans h4⟩
theorem NdR.open {w:World}{A:Option Addr}{c:Nat}{B:Option Addr}{c2:Nat}{k e n:Int}{d:List Int}{ks:List Nd}(h:NdR w A c B c2 (.mk k e n d ks)):
  (-9223372036854775808≤k∧k≤9223372036854775807)∧(-9223372036854775808≤e∧e≤9223372036854775807)∧(-9223372036854775808≤n∧n≤9223372036854775807) ∧
  Ri w .u8 A d∧Bts d∧d.length≤c∧c≤9223372036854775807∧(A=none→c=0)∧ks.length≤c2∧c2≤9223372036854775807∧(B=none→c2=0):=by
 cases h with
 | mk _ _ _ _ _ _ _ _ _ FA Fc FB Fc2 hk he hn hd hby hdl hc hA hkl hc2 hB hcell hsub=>
  unfold maxLen at hc hc2
  exact⟨hk,he,hn,hd,hby,hdl,by omega,hA,hkl,by omega,hB⟩
theorem NdR.kid {w:World}{A:Option Addr}{c:Nat}{B:Option Addr}{c2:Nat}{k e n:Int}{d:List Int}{ks:List Nd}(h:NdR w A c B c2 (.mk k e n d ks)){j:Nat}(hj:j<ks.length):
  ∃b off A' c' B' c2',B=some ⟨b,off,none⟩∧w.cell? ⟨b,off+j*5,none⟩=some (.int .i64 (ks[j]).k)∧w.cell? ⟨b,off+j*5+1,none⟩=some (.int .i64 (ks[j]).e)∧w.cell? ⟨b,off+j*5+2,none⟩=some (.int .i64 (ks[j]).n) ∧
   w.cell? ⟨b,off+j*5+3,none⟩=some (.slice A' (ks[j]).d.length c')∧w.cell? ⟨b,off+j*5+4,none⟩=some (.slice B' (ks[j]).ks.length c2')∧NdR w A' c' B' c2' (ks[j]):=by
 cases h with
 | mk _ _ _ _ _ _ _ _ _ FA Fc FB Fc2 hk he hn hd hby hdl hc hA hkl hc2 hB hcell hsub=>
  rcases hcell with h|⟨b,off,hBe,hcs⟩
  ·subst h;simp at hj
  ·have hx:ks[j]?=some ks[j]:=List.getElem?_eq_getElem hj
   obtain⟨h0,h1,h2,h3,h4⟩:=hcs j _ hx
   exact⟨b,off,_,_,_,_,hBe,h0,h1,h2,h3,h4,hsub j _ hx⟩
mutual
def sizeN:Nd→Nat
 | .mk _ _ _ d ks=>1+d.length+sizeK ks
def sizeK:List Nd→Nat
 | []=>0
 | x::xs=>sizeN x+sizeK xs
end
theorem sizeK_append (a b:List Nd):sizeK (a++b)=sizeK a+sizeK b:=by
 induction a with
 | nil=>simp [sizeK]
 | cons x xs ih=>simp only [List.cons_append,sizeK,ih];omega
theorem sizeN_kid {l:List Nd}{x:Nd}(h:x∈l):sizeN x≤sizeK l:=by
 induction l with
 | nil=>cases h
 | cons y ys ih=>
  simp only [sizeK]
  rcases List.mem_cons.1 h with rfl|h
  ·omega
  ·have:=ih h;omega
theorem sizeK_length (l:List Nd):l.length≤sizeK l:=by
 induction l with
 | nil=>simp [sizeK]
 | cons x xs ih=>
  have:1≤sizeN x:=by cases x;simp only [sizeN];omega
  simp only [List.length_cons,sizeK];omega
def KsR (w:World)(B:Option Addr)(ts:List Nd):Prop:=ts=[]∨∃b off,B=some ⟨b,off,none⟩∧∀j (hj:j<ts.length),∃A' c' B' c2',
 w.cell? ⟨b,off+j*5,none⟩=some (.int .i64 (ts[j]).k)∧w.cell? ⟨b,off+j*5+1,none⟩=some (.int .i64 (ts[j]).e)∧w.cell? ⟨b,off+j*5+2,none⟩=some (.int .i64 (ts[j]).n) ∧
   w.cell? ⟨b,off+j*5+3,none⟩=some (.slice A' (ts[j]).d.length c')∧w.cell? ⟨b,off+j*5+4,none⟩=some (.slice B' (ts[j]).ks.length c2')∧NdR w A' c' B' c2' (ts[j])
theorem KsR.on {w w':World}{B:Option Addr}{ts:List Nd}(h:KsR w B ts){N:Nat}(hb:Below N w w')(hN:w.heap.size≤N):KsR w' B ts:=by
 rcases h with h|⟨b,off,hB,h⟩
 ·exact .inl h
 ·refine .inr ⟨b,off,hB,fun j hj=>?_⟩
  obtain⟨A',c',B',c2',h0,h1,h2,h3,h4,h5⟩:=h j hj
  have hlt:b<w.heap.size:=World.block_lt_of_cell? w ⟨b,off+j*5,none⟩ h0
  have hc:=fun o=>hb.cell (p:=⟨b,o,none⟩) (by show b<N;omega)
  exact⟨A',c',B',c2',(hc _).trans h0,(hc _).trans h1,(hc _).trans h2,(hc _).trans h3,(hc _).trans h4,h5.on hb hN⟩
theorem KsR.at {w:World}{B:Option Addr}{ts:List Nd}(h:KsR w B ts){j:Nat}(hj:j<ts.length):
  ∃b off A' c' B' c2',B=some ⟨b,off,none⟩∧w.cell? ⟨b,off+j*5,none⟩=some (.int .i64 (ts[j]).k)∧w.cell? ⟨b,off+j*5+1,none⟩=some (.int .i64 (ts[j]).e)∧w.cell? ⟨b,off+j*5+2,none⟩=some (.int .i64 (ts[j]).n) ∧
   w.cell? ⟨b,off+j*5+3,none⟩=some (.slice A' (ts[j]).d.length c')∧w.cell? ⟨b,off+j*5+4,none⟩=some (.slice B' (ts[j]).ks.length c2')∧NdR w A' c' B' c2' (ts[j]):=by
 rcases h with h|⟨b,off,hB,h⟩
 ·subst h;simp at hj
 ·obtain⟨A',c',B',c2',h⟩:=h j hj
  exact⟨b,off,A',c',B',c2',hB,h⟩
theorem NdR.kids {w:World}{A:Option Addr}{c:Nat}{B:Option Addr}{c2:Nat}{k e n:Int}{d:List Int}{ks:List Nd}(h:NdR w A c B c2 (.mk k e n d ks)):KsR w B ks:=by
 cases ks with
 | nil=>exact .inl rfl
 | cons x xs=>
  have h0:=h.kid (j:=0) (by simp)
  obtain⟨b,off,_,_,_,_,hB,_⟩:=h0
  refine .inr ⟨b,off,hB,fun j hj=>?_⟩
  obtain⟨b',off',A',c',B',c2',hB',r⟩:=h.kid hj
  rw [hB] at hB'
  injection hB' with e
  injection e with e1 e2
  subst e1
  subst e2
  exact⟨A',c',B',c2',r⟩
def kk (ks:List Nd):List Nd:=ks.flatMap Nd.ks
def targN:Nd→List Nd|.mk k e _ _ ks=>if k=2∧e=7 then kk ks else ks
theorem kk_append (a b:List Nd):kk (a++b)=kk a++kk b:=by unfold kk;exact List.flatMap_append
theorem kk_take (l:List Nd)(j:Nat)(h:j<l.length):kk (l.take (j+1))=kk (l.take j)++(l[j]).ks:=by
 rw [List.take_succ_eq_append_getElem h,kk_append]
 simp [kk]
theorem sizeK_ks (x:Nd):sizeK x.ks+1≤sizeN x:=by
 cases x;simp only [Nd.ks,sizeN];omega
theorem sizeK_kk (l:List Nd):sizeK (kk l)≤sizeK l:=by
 induction l with
 | nil=>simp [kk,sizeK]
 | cons x xs ih=>
  have h:kk (x::xs)=x.ks++kk xs:=by simp [kk]
  have:=sizeK_ks x
  rw [h,sizeK_append]
  simp only [sizeK]
  omega
theorem sizeK_targ (x:Nd):sizeK (targN x)+1≤sizeN x:=by
 obtain⟨k,e,n,d,ks⟩:=x
 unfold targN
 have:=sizeK_kk ks
 simp only [sizeN]
 split<;>omega
def fiveC (x:Nd)(A:Option Addr)(c:Nat)(B:Option Addr)(c2:Nat):List Value:=[.int .i64 x.k,.int .i64 x.e,.int .i64 x.n,.slice A x.d.length c,.slice B x.ks.length c2]
theorem KsR.cells {w:World}{b off:Nat}{ts:List Nd}(h:KsR w (some ⟨b,off,none⟩) ts){j o:Nat}(hj:j<ts.length)(ho:o<5):
  ∃A' c' B' c2',NdR w A' c' B' c2' (ts[j])∧∀o,o<5→w.cell? ⟨b,off+(j*5+o),none⟩=(fiveC (ts[j]) A' c' B' c2')[o]?:=by
 obtain⟨b',off',A',c',B',c2',hB,h0,h1,h2,h3,h4,h5⟩:=h.at hj
 injection hB with e
 injection e with e1 e2
 subst e1
 subst e2
 refine⟨A',c',B',c2',h5,fun o ho=>?_⟩
 match o,ho with
 | 0,_=>exact h0
 | 1,_=>exact h1
 | 2,_=>exact h2
 | 3,_=>exact h3
 | 4,_=>exact h4
 | o+5,h=>omega
theorem NdR.kidsX {w:World}{A:Option Addr}{c:Nat}{B:Option Addr}{c2:Nat}{x:Nd}(h:NdR w A c B c2 x):KsR w B x.ks∧(B=none→c2=0)∧x.ks.length≤c2:=by
 obtain⟨k,e,n,d,ks⟩:=x
 obtain⟨_,_,_,_,_,_,_,_,h9,_,h11⟩:=h.open
 exact⟨h.kids,h11,h9⟩
mutual
def depthN:Nd→Nat
 | .mk k e _ _ ks=>if k=0 then 0 else 1+if k=2∧e=7 then depthG ks else depthK ks
def depthK:List Nd→Nat
 | []=>0
 | x::xs=>max (depthN x) (depthK xs)
def depthG:List Nd→Nat
 | []=>0
 | .mk _ _ _ _ ks::xs=>max (depthK ks) (depthG xs)
end
theorem depthK_append (a b:List Nd):depthK (a++b)=max (depthK a) (depthK b):=by
 induction a with
 | nil=>simp [depthK]
 | cons x xs ih=>simp only [List.cons_append,depthK,ih];omega
theorem depthG_kk (l:List Nd):depthG l=depthK (kk l):=by
 induction l with
 | nil=>simp [depthG,kk,depthK]
 | cons x xs ih=>
  obtain⟨k,e,n,d,ks⟩:=x
  have h:kk (.mk k e n d ks::xs)=ks++kk xs:=by simp [kk,Nd.ks]
  rw [h,depthK_append]
  simp only [depthG,ih]
theorem depthN_eq (x:Nd):depthN x=if x.k=0 then 0 else 1+depthK (targN x):=by
 obtain⟨k,e,n,d,ks⟩:=x
 simp only [depthN,Nd.k,targN]
 by_cases h:k=2∧e=7
 ·rw [if_pos h,if_pos h,depthG_kk]
  by_cases h0:k=0<;>simp [h0]
 ·rw [if_neg h,if_neg h]
  by_cases h0:k=0<;>simp [h0]
theorem targ_lt {x t:Nd}(h:t∈targN x):sizeN t<sizeN x:=by
 have h1:=sizeN_kid h
 have h2:=sizeK_targ x
 omega
theorem size_ind {P:Nd→Prop}(h:∀x,(∀y,sizeN y<sizeN x→P y)→P x):∀x,P x:=by
 intro x
 generalize hn:sizeN x=n
 induction n using Nat.strongRecOn generalizing x with
 | _ n ih=>exact h x fun y hy=>ih (sizeN y) (by omega) y rfl
open Classical in
noncomputable def eqN (x y:Nd):Bool:=decide (x=y)
theorem eqN_yes {x y:Nd}(h:x=y):eqN x y=true:=by unfold eqN;simp [h]
theorem eqN_no {x y:Nd}(h:x≠y):eqN x y=false:=by unfold eqN;simp [h]
theorem eqN_iff {x y:Nd}:eqN x y=true↔x=y:=by unfold eqN;simp
def headB (k e n:Int)(d:List Int)(ks:List Nd):Bool:=
 if k=0 then decide (e=0∧n=0∧d.length=0∧ks.length=0)
 else if k=1 then decide (e=0∧n=0∧d.length % 8=0∧d.length≤524280∧ks.length≤65535)
 else if k=2 then decide (0≤n∧n≤536870911∧0≤e∧e≤7∧(6≤e→d.length=0∧(ks.length:Int)=n)∧(e<6→ks.length=0∧(d.length:Int)=bytesI e n∧trimL d e n=d))
 else false
mutual
def validN:Nd→Bool
 | .mk k e n d ks=>validK k e ks&&headB k e n d ks
def validK (k e:Int):List Nd→Bool
 | []=>true
 | x::xs=>validN x&&!(decide (k=2∧e=7∧x.k≠1))&&validK k e xs
end
theorem validK_append (k e:Int)(a b:List Nd):validK k e (a++b)=(validK k e a&&validK k e b):=by
 induction a with
 | nil=>simp [validK]
 | cons x xs ih=>simp only [List.cons_append,validK,ih,Bool.and_assoc]
theorem validK_take (k e:Int)(l:List Nd)(j:Nat)(h:j<l.length):validK k e (l.take (j+1))=(validK k e (l.take j)&&(validN l[j]&&!(decide (k=2∧e=7∧(l[j]).k≠1)))):=by
 rw [List.take_succ_eq_append_getElem h,validK_append]
 simp [validK]
theorem validK_no (k e:Int)(l:List Nd)(j:Nat)(h:j<l.length)(hb:(validN l[j]&&!(decide (k=2∧e=7∧(l[j]).k≠1)))=false):validK k e l=false:=by
 have h1:=validK_take k e l j h
 have h2:=validK_append k e (l.take (j+1)) (l.drop (j+1))
 rw [List.take_append_drop,h1,hb] at h2
 simpa using h2
end
section
attribute [local simp] AllK KnowsV look Is
set_option maxRecDepth 100000 in
theorem BStart_any (d x o:Int)(w:World):Calls Tryd.prog 32 #[.agg #[.int .i64 d,.int .i64 x,.int .i64 o]] w fun e w'=>e=.returned (.agg #[.int .i64 (startI x)])∧Below w.heap.size w w':=by
  by_cases h:x<0
  · have HS:Hid (startI x=0):=Lib.hid (by simp [startI,h])
    go_enter Tryd.func32,Tryd.ntmps32
    go_wp2
    all_goals first
      | (exfalso;omega)
      | (refine bodyPost_ret (v:=.agg #[.int .i64 0]) (by simp [results,Tryd.results32,go_sem]) rfl ⟨by rw [HS.out],?_⟩
         exact((Below.refl _ _).alloc (Nat.le_refl _) _).alloc (by simp) _)
  · have HS:Hid (startI x=x):=Lib.hid (by simp [startI,h])
    go_enter Tryd.func32,Tryd.ntmps32
    go_wp2
    all_goals first
      | (exfalso;omega)
      | (have h0:x=0:=by omega
         subst h0
         refine bodyPost_ret (v:=.agg #[.int .i64 0]) (by simp [results,Tryd.results32,go_sem]) rfl ⟨by rw [HS.out],?_⟩
         exact((Below.refl _ _).alloc (Nat.le_refl _) _).alloc (by simp) _)
      | (refine bodyPost_ret (v:=.agg #[.int .i64 x]) (by simp [results,Tryd.results32,go_sem]) rfl ⟨by rw [HS.out],?_⟩
         exact((Below.refl _ _).alloc (Nat.le_refl _) _).alloc (by simp) _)
set_option maxRecDepth 100000 in
theorem BEnter_any (dep x o d:Int)(w:World):Calls Tryd.prog 48 #[.agg #[.int .i64 dep,.int .i64 x,.int .i64 o],.int .i64 d] w fun e w'=>e=.returned (.int .i64 (enterI dep d))∧Below w.heap.size w w':=by
 by_cases h:d≤dep
 ·have HS:Hid (enterI dep d=0):=Lib.hid (by simp [enterI,h])
  go_enter Tryd.func48,Tryd.ntmps48
  go_wp2
  go_ret
  exact⟨by rw [HS.out];rfl,(Below.refl _ _).alloc (Nat.le_refl _) _⟩
 ·have HS:Hid (enterI dep d=7):=Lib.hid (by simp [enterI,h])
  go_enter Tryd.func48,Tryd.ntmps48
  go_wp2
  go_ret
  exact⟨by rw [HS.out];rfl,(Below.refl _ _).alloc (Nat.le_refl _) _⟩
set_option maxRecDepth 100000 in
theorem BTake_no (b:Nat)(m c:Int)(w:World)(hb:Blk w b #[.int .i64 m])(h:m<c):
  Calls Tryd.prog 63 #[.pointer (some ⟨b,0,none⟩),.int .i64 c] w fun e w'=>e=.returned (.bool false)∧w=w':=by
 have hc:=hb.cell
 have hf:=hb.free
 go_enter Tryd.func63,Tryd.ntmps63
 go_wp2
 go_ret
 exact⟨rfl,rfl⟩
set_option maxRecDepth 100000 in
theorem BTake_yes (b:Nat)(m c:Int)(w:World)(hb:Blk w b #[.int .i64 m])(h:¬m<c)(hm1:m≤9223372036854775807)(hc0:0≤c)(hm0:-9223372036854775808≤m):
  Calls Tryd.prog 63 #[.pointer (some ⟨b,0,none⟩),.int .i64 c] w fun e w'=>e=.returned (.bool true)∧w'=w.setCell ⟨b,0,none⟩ (.int .i64 (m-c)):=by
 have hc:=hb.cell
 have hf:=hb.free
 go_enter Tryd.func63,Tryd.ntmps63
 go_wp2
 go_ret
 exact⟨rfl,rfl⟩
set_option maxRecDepth 100000 in
theorem BCharge_any (m c:Int)(w:World)(hm0:-9223372036854775808≤m)(hm1:m≤9223372036854775807)(hc:0≤c):
  Calls Tryd.prog 49 #[.agg #[.int .i64 m],.int .i64 c] w fun e w'=>e=.returned (.tuple #[.agg #[.int .i64 (chargeI m c)],.int .i64 (chargeE m c)])∧Below w.heap.size w w':=by
 by_cases h:m<c
 ·have HS:Hid (chargeI m c=m):=Lib.hid (by simp [chargeI,h])
  have HE:Hid (chargeE m c=8):=Lib.hid (by simp [chargeE,h])
  go_enter Tryd.func49,Tryd.ntmps49
  go_wp2_with fail
  refine(BTake_no _ m c _ (Blk.new (by simp)) h).mono ?_
  rintro e w' ⟨rfl,rfl⟩
  go_wp2
  refine bodyPost_ret (v:=.tuple #[.agg #[.int .i64 m],.int .i64 8]) (by simp [results,Tryd.results49,go_sem]) rfl ⟨by rw [HS.out,HE.out],?_⟩
  exact(((Below.refl _ _).alloc (Nat.le_refl _) _).alloc (by simp) _).alloc (by simp;omega) _
 ·have HS:Hid (chargeI m c=m-c):=Lib.hid (by simp [chargeI,h])
  have HE:Hid (chargeE m c=0):=Lib.hid (by simp [chargeE,h])
  go_enter Tryd.func49,Tryd.ntmps49
  go_wp2_with fail
  refine(BTake_yes _ m c _ (Blk.new (by simp)) (by omega) hm1 hc hm0).mono ?_
  rintro e w' ⟨rfl,rfl⟩
  go_wp2
  refine bodyPost_ret (v:=.tuple #[.agg #[.int .i64 (m-c)],.int .i64 0]) (by simp [results,Tryd.results49,go_sem]) rfl ⟨by rw [HS.out,HE.out],?_⟩
  exact(((Below.refl _ _).alloc (Nat.le_refl _) _).alloc (by simp) _).alloc (by simp;omega) _
end
def Apart (v u:Value):Prop:=∀g,v.ownBlock=some g→u.ownBlock≠some g
theorem Apart.symm {v u:Value}(h:Apart v u):Apart u v:=fun g h1 h2=>h g h2 h1
theorem Got.kept {w w':World}{base:Nat}{E:TypeId}{k:IntKind}{u v:Value}{zs:List Int}(h:Got w base E k u zs)(hg:w.grownBy w' v.ownBlock)(ha:Apart v u):Got w' base E k u zs:=by
 refine World.ownsRow.kept h hg ?_
 cases hu:u.ownBlock with
 | none=>exact .inl rfl
 | some g=>exact .inr (fun e=>ha g e.symm hu)
theorem run_append_own_zeros {P:Program}(w:World)(base:Nat)(t tn ty e:TypeId)(i:TypeInfo)(z:Value)(size bytes:Nat)(kq kn:IntKind)(ht:P.underlying t=some (.slice e))(htn:P.underlying tn=some (.int kn))(hi:P.info? e=some i)(hz:i.zero=some z)
  (hsize:i.size=size) (hby:i.bytes=bytes) (hzs:z.cells.size=size) (hsz:0<size)
  (v:Value) (n:Nat) (xs:List Value) (hown:w.ownsRow base e size v n xs) (k:Nat) (h1:∀u∈(Builtin.zeroCells z.cells k).toList,u.oneCell'=true)
  (h63:n+k≤maxLen) (hbytes:(n+k)*bytes≤140737488355328) (hbase:base≤w.heap.size) :
  ∃v' w',(Builtin.append_ #[t,tn] ty #[v,.int kq k]).run P w=.ok v' w'∧w'.ownsRow base e size v' (n+k) (xs++(Builtin.zeroCells z.cells k).toList)∧w.grownBy w' v.ownBlock:=by
 subst hsize
 subst hby
 have hsmall:n+k≤9223372036854775807:=by simp only [maxLen] at h63;omega
 have hl:(Builtin.zeroCells z.cells k).toList.length=k*i.size:=by rw [Array.length_toList,size_zeroCells,hzs]
 have hlen:(xs++(Builtin.zeroCells z.cells k).toList).length=(n+k)*i.size:=by rw [List.length_append,hown.1,hl,Nat.add_mul]
 have hw:IntKind.i64.wrap (k:Int)=k:=by rw [IntKind.wrap_i64];omega
 have hneg:¬((k:Int)<0):=by omega
 have h48:k*i.bytes≤281474976710656:=by
  have:k*i.bytes≤(n+k)*i.bytes:=Nat.mul_le_mul_right _ (by omega)
  omega
 have h48i:¬(281474976710656<(k:Int)*(i.bytes:Int)):=by
  rw [←Int.natCast_mul]
  omega
 have grown:∀(old:Nat),old<n+k→∀(row:Option Nat),
   (w.drew.alloc (.cells (xs.toArray++Builtin.zeroCells z.cells k++Builtin.zeroCells z.cells (grownCap w (n+k) old e-(n+k))) e)).ownsRow base e i.size
    (.slice (some ⟨w.heap.size,0,none⟩) (n+k) (grownCap w (n+k) old e)) (n+k) (xs++(Builtin.zeroCells z.cells k).toList) ∧
   w.grownBy (w.drew.alloc (.cells (xs.toArray++Builtin.zeroCells z.cells k++Builtin.zeroCells z.cells (grownCap w (n+k) old e-(n+k))) e)) row:=by
  intro old ho row
  have hge:=grownCap_ge w (n+k) old e
  have hcm:grownCap w (n+k) old e≤maxLen:=grownCap_le_maxLen w (n+k) old e h63
  refine⟨⟨hlen,.inr ⟨w.heap.size,_,_,rfl,hbase,heap_alloc_new w.drew _,hge,hcm,?_,?_⟩⟩,⟨rfl,rfl,rfl,by simp,fun q hq _=>by rw [Below.heap_alloc _ _ _ (by simpa using hq)];rfl⟩⟩
  ·simp only [Array.size_append,List.size_toArray,size_zeroCells,hzs,hown.1,←Nat.add_mul]
   congr 1
   omega
  ·simp only [Array.toList_append,List.append_assoc]
   rw [←List.append_assoc,←hlen]
   exact List.take_left
 rcases hown.2 with ⟨rfl,rfl⟩|⟨g,cap,cur,rfl,hbg,hg,hnc,hcm,hcs,htake⟩
 ·have hx:xs=[]:=List.eq_nil_of_length_eq_zero (by simpa using hown.1)
  subst hx
  by_cases hm:k=0
  ·subst hm
   have hn:(Builtin.zeroCells z.cells 0).toList=[]:=List.eq_nil_of_length_eq_zero (by simpa using hl)
   refine⟨.slice none 0 0,w,?_,by rw [hn];exact World.ownsRow_nil w base e i.size,⟨rfl,rfl,rfl,Nat.le_refl _,fun _ _ _=>rfl⟩⟩
   simp [Builtin.append_,run_underlying ht,run_underlying htn,sizeOf,typeInfo,hi,asInt,asIntOf,IntKind.wrap_i64]
  ·have hr:=Lib.run_append_nil_zeros (P:=P) w t tn ty e i z kq kn ht htn hi hz k (by omega) (by omega) (by omega) h48
   have hgr:=grown 0 (by omega) (Value.ownBlock (.slice none 0 0))
   simp only [Nat.zero_add,List.nil_append,Array.empty_append] at hgr ⊢
   exact⟨_,_,hr,hgr.1,hgr.2⟩
 ·by_cases hroom:n+k≤cap
  ·have hfit:n*i.size+(Builtin.zeroCells z.cells k).toList.length≤cur.size:=by rw [hl,hcs,←Nat.add_mul];exact Nat.mul_le_mul_right _ hroom
   have hst:=run_storeCells_at P g (n*i.size) e (Builtin.zeroCells z.cells k).toList 0 cur w hg (by simpa using hfit) h1
   simp only [Nat.add_zero] at hst
   have hr:(Builtin.append_ #[t,tn] ty #[.slice (some ⟨g,0,none⟩) n cap,.int kq k]).run P w=.ok (.slice (some ⟨g,0,none⟩) (n+k) cap) (w.setRow g (cur.toList.take (n*i.size)++(Builtin.zeroCells z.cells k).toList++cur.toList.drop (n*i.size+(Builtin.zeroCells z.cells k).toList.length)).toArray):=by
    by_cases hk0:k*i.size=0
    ·have hz0:Builtin.zeroCells z.cells k=#[]:=Array.eq_empty_of_size_eq_zero (by rw [size_zeroCells,hzs];exact hk0)
     rw [hz0] at hst ⊢
     simp [Builtin.append_,run_underlying ht,run_underlying htn,sizeOf,typeInfo,zeroValue,hi,hz,asInt,asIntOf,hw,hneg,h48i,hroom,hk0,Addr.add_lit] at hst ⊢
     rw [hst];rfl
    ·simp [Builtin.append_,run_underlying ht,run_underlying htn,sizeOf,typeInfo,zeroValue,hi,hz,asInt,asIntOf,hw,hneg,h48i,hroom,hk0,Addr.add_lit,hst]
   refine⟨_,_,hr,⟨hlen,.inr ⟨g,cap,_,rfl,hbg,setRow_heap w g cur _ e _ hg,hroom,hcm,?_,?_⟩⟩,⟨rfl,rfl,rfl,by simp,fun k _ hk=>setRow_other w g k _ (fun e=>hk (by simp [Value.ownBlock,e]))⟩⟩
   ·simp only [List.size_toArray,List.length_append,List.length_take,List.length_drop,Array.length_toList]
    rw [Array.length_toList] at hfit
    omega
   ·rw [htake,←hlen]
    exact List.take_left
  ·have holds:∀j u,xs[j]?=some u→w.cell? ((⟨g,0,none⟩:Addr).add j)=some u:=hown.cells (g:=g) rfl
   have hk0:0<k:=by omega
   have hr:=Lib.run_append_grow_zeros (P:=P) w t tn ty e i z kq kn ht htn hi hz (some ⟨g,0,none⟩) n cap xs (run_firstCells_some w.drew i.size n ⟨g,0,none⟩ n cap xs hown.1 (by simpa using holds)) k hk0 (by omega) (by omega) (by omega) h48 (growslice_fits (by omega) hbytes)
   have hgr:=grown cap (by omega) (Value.ownBlock (.slice (some ⟨g,0,none⟩) n cap))
   exact⟨_,_,hr,hgr.1,hgr.2⟩
theorem zeroCells_get {z:Array Value}{k s j:Nat}(hs:z.size=s)(hj:j<k*s):(Builtin.zeroCells z k).toList[j]?=z[j % s]?:=by
 have hp:0<s:=Nat.pos_of_ne_zero fun h=>by subst h;omega
 have hm:j % s<z.size:=by rw [hs];exact Nat.mod_lt _ hp
 simp [Builtin.zeroCells,hs,hj,hm,getElem!_pos]
 rw [getElem!_pos z (j % s) hm,Array.getElem?_eq_getElem hm]
theorem wpList_appZ {ops:Array Oper}{rest:List Oper}{o:Oper}{a:Act}{Q:Exit→Act→World→Prop}{w:World}(hgd:o.guard=none)(s x:Operand)(t tn:TypeId)
  (ho:o.op=.call { callee:=.builtin .append,args:=#[s,x],argTypes:=#[t,tn] })
  {base:Nat} {e:TypeId} {i:TypeInfo} {k kn kq:IntKind} {bytes:Nat} (ht:Tryd.prog.underlying t=some (.slice e)) (htn:Tryd.prog.underlying tn=some (.int kn)) (hi:Tryd.prog.info? e=some i) (hz:i.zero=some (.int k 0)) (hsize:i.size=1) (hby:i.bytes=bytes)
  {v:Value} {zs:List Int} {n:Nat} (hs:a.eval s=v) (hown:Got w base e k v zs) (hx:a.eval x=.int kq n)
  (h63:zs.length+n≤maxLen) (hbytes:(zs.length+n)*bytes≤140737488355328) (hbase:base≤w.heap.size)
  (h:∀v' w',Got w' base e k v' (zs++List.replicate n 0)→Below base w w'→wpList Tryd.prog ops Q rest (a.put o.dst v') w'):wpList Tryd.prog ops Q (o::rest) a w:=by
 have hc:(Value.int k 0).cells=#[.int k 0]:=rfl
 obtain⟨v',w',hr,h1,h2⟩:=run_append_own_zeros (P:=Tryd.prog) w base t tn o.type e i (.int k 0) 1 bytes kq kn ht htn hi hz hsize hby rfl (by decide) v zs.length _ hown n (by
  intro u hu
  obtain⟨j,hj,rfl⟩:=List.getElem_of_mem hu
  have hjl:j<n*1:=by rw [Array.length_toList,size_zeroCells] at hj;exact hj
  have hg:=zeroCells_get (z:=(Value.int k 0).cells) (k:=n) (s:=1) rfl hjl
  rw [List.getElem?_eq_getElem hj,Nat.mod_one] at hg
  rw [Option.some.inj hg]
  rfl) h63 hbytes hbase
 refine Lib.wpList_append_run w hgd s x t tn ho v _ hs hx v' w' hr (h v' w' ?_ ((Below.refl base w).grown h2 hbase (fun g hg=>(World.ownsRow.lt hown g hg).1)))
 unfold Got
 rw [List.length_append,List.length_replicate,List.map_append,List.map_replicate]
 have e1:(Builtin.zeroCells (Value.int k 0).cells n).toList=List.replicate n (Value.int k 0):=by
  apply List.ext_getElem?
  intro j
  by_cases hj:j<n
  ·rw [zeroCells_get (s:=1) rfl (by omega),Nat.mod_one,List.getElem?_replicate,if_pos hj]
   rfl
  ·rw [List.getElem?_eq_none (by rw [Array.length_toList,size_zeroCells];show n*1≤j;omega),List.getElem?_replicate,if_neg hj]
 rw [←e1]
 exact h1
end Go.Proofs.YtfaflahfjgnphaaDoor
