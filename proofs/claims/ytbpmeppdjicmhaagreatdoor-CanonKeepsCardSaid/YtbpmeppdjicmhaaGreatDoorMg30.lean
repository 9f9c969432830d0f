/- The texts Clone, WriA, Ref04 (what is wanted of them), one after the other. -/
import Derived.Test.YtbpmeppdjicmhaaGreatDoorMg8
import Derived.Test.YtbpmeppdjicmhaaGreatDoorMg15
import Derived.Test.YtbpmeppdjicmhaaGreatDoorMg22
import Derived.Deep.DeepAppendRoom
namespace Go.Proofs.YtbpmeppdjicmhaaGreatDoor
open Go.ChangeShapes Go.WideShapes Go.ChangeAt Go.RowKit
set_option linter.unusedVariables false
set_option linter.unusedSimpArgs false
set_option maxRecDepth 100000
theorem bytesClone_any (A:Option Addr)(cap:Nat)(b:List Int)(w:World)(hr:Ri w .u8 A b)(hm:b.length≤140737488355328)(hnil:A=none→cap=0)(hc:b.length≤cap)(n:Nat)(hn:n=b.length):
  Calls Tryz.prog 72 #[.slice A n cap] w fun e w'=>∃r,e=.returned r∧Got w' w.heap.size 5 .u8 r b∧Below w.heap.size w w':=by
 obtain⟨i0,hi,hz0,hz1,hz2⟩:=info_parts int8_info
 have q:=fun (w:World) (a:Option Addr) (n c n' c':Nat)=>Lib.run_eql_slice_nil (P:=Tryz.prog) w _ _ a n c n' c' Tryz.underlying36
 cases A with
 | none=>
  have hz:=hnil rfl
  have h0:b=[]:=List.eq_nil_of_length_eq_zero (by omega)
  subst h0
  subst hz
  subst hn
  go_enter Tryz.func72,Tryz.ntmps72
  go_wp2
  go_ret
  exact⟨_,rfl,Got.empty _ _ _ _,Below.refl _ _⟩
 | some a=>
  have HA1:=Lib.hid (hr.alloc (.cells #[] 5))
  have HN:=Lib.hid hn
  have hnb:n≤140737488355328:=by omega
  clear hn hr
  go_enter Tryz.func72,Tryz.ntmps72
  go_wp2_with (at_builtin;refine wpList_appNn n rfl (.tmp 5) (.tmp 6) 36 rfl Tryz.underlying36 hi hz0 hz1 hz2 HN.out rfl (Got.empty_made w 5 .u8 (base:=w.heap.size) (Nat.le_refl _)) rfl HA1.out (fun h=>by cases h) (by unfold maxLen;simp;omega) (by simp;omega) (by simp) ?_;intro v2 w2 hg2 hb2)
  go_ret
  exact⟨_,rfl,hg2,((Below.refl _ _).alloc (Nat.le_refl _) _).trans hb2⟩
def KS (wb q:Nat):Nat→Prop:=fun k=>k=wb∨k=q
theorem ks_alloc {S:Nat→Prop}{w w':World}(h:Keeps S w w')(o:Obj):Keeps S w (w'.alloc o):=h.trans (keeps_of ((Below.refl _ _).alloc (Nat.le_refl _) o))
theorem ks_set {S:Nat→Prop}{w w':World}(h:Keeps S w w'){p:Addr}(hp:S p.block∨w.heap.size≤p.block)(v:Value):Keeps S w (w'.setCell p v):=by
  refine⟨h.os,h.tape,h.output,by simpa using h.size,fun k hk hS=>?_⟩
  rw [Below.heap_setCell _ _ _ _ (by rcases hp with e|e;·intro e2;rw [e2] at hS;exact hS e
                                     · omega)]
  exact h.block k hk hS
theorem ks_on {S:Nat→Prop}{w w1 w2:World}(h:Keeps S w w1)(hb:Below w1.heap.size w1 w2):Keeps S w w2:=h.trans (keeps_of hb)
theorem ks_grown {S:Nat→Prop}{w w':World}{q:Nat}(h:w.grownBy w' (some q))(hS:S q):Keeps S w w':=
 ⟨h.os,h.tape,h.output,h.size,fun k hk hn=>h.block k hk (fun e=>by injection e with e;subst e;exact hn hS)⟩
theorem ks_below {wb q base:Nat}{w w':World}(h:Keeps (KS wb q) w w')(hB:base≤w.heap.size)(h1:base≤wb)(h2:base≤q):Below base w w':=h.below hB (fun k hk=>by rcases hk with rfl|rfl<;>assumption)
theorem Blk.keepsS {S:Nat→Prop}{w w':World}{b:Nat}{cs:Array Value}(h:Blk w b cs)(hk:Keeps S w w')(hS:¬S b):Blk w' b cs:=by
 have e:=hk.block b h.lt hS
 refine⟨fun o=>(World.cell?_of_block e).trans (h.cell o),fun o=>?_,Nat.lt_of_lt_of_le h.lt hk.size⟩
 have:=h.free o
 unfold World.frozen? at this ⊢
 rw [show w'.heap[(⟨b,o,none⟩:Addr).block]?=w.heap[(⟨b,o,none⟩:Addr).block]? from e]
 exact this
structure Wr (W:World) (wb q cap base:Nat) (cur:List Int):Prop where
 blk:Blk W wb #[.slice (some ⟨q,0,none⟩) cur.length cap]
 got:Got W base 48 .u64 (.slice (some ⟨q,0,none⟩) cur.length cap) cur
theorem Wr.below {W W':World}{wb q cap base:Nat}{cur:List Int}(h:Wr W wb q cap base cur)(hb:Below W.heap.size W W'):Wr W' wb q cap base cur:=⟨h.blk.below hb,h.got.below hb (Nat.le_refl _)⟩
theorem Wr.alloc {W:World}{wb q cap base:Nat}{cur:List Int}(h:Wr W wb q cap base cur)(o:Obj):Wr (W.alloc o) wb q cap base cur:=h.below ((Below.refl _ _).alloc (Nat.le_refl _) o)
theorem Wr.drew {W:World}{wb q cap base:Nat}{cur:List Int}(h:Wr W wb q cap base cur):Wr W.drew wb q cap base cur:=⟨h.blk.drew,h.got⟩
theorem Wr.put {W:World}{wb q cap base:Nat}{cur:List Int}(h:Wr W wb q cap base cur)(hne:wb≠q)(j:Nat)(y:Int):Wr (W.setCell ⟨q,j,none⟩ (.int .u64 y)) wb q cap base (cur.set j y):=by
 have e:(cur.set j y).length=cur.length:=List.length_set
 exact⟨by rw [e];exact h.blk.other (fun e=>hne e.symm) _,by rw [e];exact h.got.put j y⟩
theorem got_other15 {w:World}{base:Nat}{E:TypeId}{k:IntKind}{u:Value}{zs:List Int}(h:Got w base E k u zs){p:Addr}(hp:u.ownBlock=some p.block→False)(v:Value):Got (w.setCell p v) base E k u zs:=by
 refine⟨h.1,?_⟩
 rcases h.2 with h3|⟨g,cap,cur,hv,hg,hh,r⟩
 ·exact .inl h3
 ·exact .inr ⟨g,cap,cur,hv,hg,(Below.heap_setCell _ _ _ _ (fun e=>hp (by rw [hv,←e];rfl))).trans hh,r⟩
theorem Wr.grow {W:World}{wb q cap base n:Nat}{u:Value}{cur:List Int}(hg:Got W base 48 .u64 (.slice (some ⟨q,0,none⟩) n cap) cur)(hb:Blk W wb #[u])(hne:wb≠q)(hn:n=cur.length):Wr (W.setCell ⟨wb,0,none⟩ (.slice (some ⟨q,0,none⟩) n cap)) wb q cap base cur:=by
 subst hn
 exact⟨hb.set 0 (by simp) _,got_other15 hg (fun e=>by injection e with e;exact hne e.symm) _⟩
theorem Wr.q {W:World}{wb q cap base:Nat}{cur:List Int}(h:Wr W wb q cap base cur):base≤q∧q<W.heap.size∧cur.length≤cap∧cap≤maxLen:=by
 obtain⟨h1,h2⟩:=h.got.lt q rfl
 obtain⟨A,c,e,h3,h4,-⟩:=h.got.slice
 injection e with e1 e2 e3
 subst e3
 exact⟨h1,h2,h3,h4⟩
theorem wpList_wr1 {ops:Array Oper}{rest:List Oper}{o:Oper}{a:Act}{Q:Exit→Act→World→Prop}{w:World}(hgd:o.guard=none)(s x:Operand)
  (ho:o.op=.call { callee:=.builtin .append,args:=#[s,x],argTypes:=#[27,27] })
  {T:TypeId} {y:Int} {wb q cap base:Nat} {cur:List Int} (h:Wr w wb q cap base cur) (hne:wb≠q) (hs:a.eval s=.slice (some ⟨q,0,none⟩) cur.length cap) (hx:a.eval x=.slice (some ⟨w.heap.size,0,none⟩) 1 1) (hroom:cur.length+1≤cap)
  (hK:∀w',Got w' base 48 .u64 (.slice (some ⟨q,0,none⟩) (cur.length+1) cap) (cur++[y])→Blk w' wb #[.slice (some ⟨q,0,none⟩) cur.length cap]→Keeps (KS wb q) w w'→wpList Tryz.prog ops Q rest (a.put o.dst (.slice (some ⟨q,0,none⟩) (cur.length+1) cap)) w'):wpList Tryz.prog ops Q (o::rest) a (w.alloc (.cells #[.int .u64 y] T)):=by
 obtain⟨i0,hi,hz0,hz1,hz2⟩:=info_parts int64_info
 have h':=h.alloc (.cells #[.int .u64 y] T)
 refine wpList_append_own_spare _ hgd s x _ ho base _ i0 1 Tryz.underlying27 hi hz1 q cur.length cap _ hs h'.got ⟨w.heap.size,0,none⟩ 1 1 [.int .u64 y] hx rfl ?_ ?_ hroom ?_
 ·intro j u hj
  cases j with
  | zero=>simp at hj;subst hj;simp [Addr.add]
  | succ j=>simp at hj
 ·intro u hu
  simp at hu
  subst hu
  rfl
 ·intro w' h1 h2
  have hk:Keeps (fun k=>k=q) (w.alloc (.cells #[.int .u64 y] T)) w':=ks_grown h2 rfl
  refine hK w' ?_ (h'.blk.keepsS hk hne) ((ks_alloc (Keeps.refl _ _) _).trans (ks_grown h2 (.inr rfl)))
  unfold Got
  simpa using h1
theorem run_append_room_zeros {P:Program}(w:World)(base:Nat)(t tn ty e:TypeId)(i:TypeInfo)(z:Value)(size:Nat)(kq kn:IntKind)(ht:P.underlying t=some (.slice e))(htn:P.underlying tn=some (.int kn))(hi:P.info? e=some i)(hz:i.zero=some z)
  (hsize:i.size=size) (hzs:z.cells.size=size)
  (g n cap:Nat) (xs:List Value) (hown:w.ownsRow base e size (.slice (some ⟨g,0,none⟩) n cap) n xs) (k:Nat) (h1:∀u∈(Builtin.zeroCells z.cells k).toList,u.oneCell'=true)
  (hroom:n+k≤cap) (h63:n+k≤maxLen) (h48:k*i.bytes≤281474976710656) :
  ∃w',(Builtin.append_ #[t,tn] ty #[.slice (some ⟨g,0,none⟩) n cap,.int kq k]).run P w=.ok (.slice (some ⟨g,0,none⟩) (n+k) cap) w' ∧
   w'.ownsRow base e size (.slice (some ⟨g,0,none⟩) (n+k) cap) (n+k) (xs++(Builtin.zeroCells z.cells k).toList)∧w.grownBy w' (some g):=by
 subst hsize
 have hsmall:n+k≤9223372036854775807:=by simp only [maxLen] at h63;omega
 have hl:(Builtin.zeroCells z.cells k).toList.length=k*i.size:=by rw [Array.length_toList,size_zeroCells,hzs]
 have hlen:(xs++(Builtin.zeroCells z.cells k).toList).length=(n+k)*i.size:=by rw [List.length_append,hown.1,hl,Nat.add_mul]
 have hw:IntKind.i64.wrap (k:Int)=k:=by rw [IntKind.wrap_i64];omega
 have hneg:¬((k:Int)<0):=by omega
 have h48i:¬(281474976710656<(k:Int)*(i.bytes:Int)):=by
  rw [←Int.natCast_mul]
  omega
 rcases hown.2 with ⟨h0,-⟩|⟨g',cap',cur,hv,hbg,hg,hnc,hcm,hcs,htake⟩
 ·cases h0
 ·cases hv
  have hfit:n*i.size+(Builtin.zeroCells z.cells k).toList.length≤cur.size:=by rw [hl,hcs,←Nat.add_mul];exact Nat.mul_le_mul_right _ hroom
  have hst:=run_storeCells_at P g (n*i.size) e (Builtin.zeroCells z.cells k).toList 0 cur w hg (by simpa using hfit) h1
  simp only [Nat.add_zero] at hst
  have hr:(Builtin.append_ #[t,tn] ty #[.slice (some ⟨g,0,none⟩) n cap,.int kq k]).run P w=.ok (.slice (some ⟨g,0,none⟩) (n+k) cap) (w.setRow g (cur.toList.take (n*i.size)++(Builtin.zeroCells z.cells k).toList++cur.toList.drop (n*i.size+(Builtin.zeroCells z.cells k).toList.length)).toArray):=by
   by_cases hk0:k*i.size=0
   ·have hz0:Builtin.zeroCells z.cells k=#[]:=Array.eq_empty_of_size_eq_zero (by rw [size_zeroCells,hzs];exact hk0)
    rw [hz0] at hst ⊢
    simp [Builtin.append_,run_underlying ht,run_underlying htn,sizeOf,typeInfo,zeroValue,hi,hz,asInt,asIntOf,hw,hneg,h48i,hroom,hk0,Addr.add_lit] at hst ⊢
    rw [hst];rfl
   ·simp [Builtin.append_,run_underlying ht,run_underlying htn,sizeOf,typeInfo,zeroValue,hi,hz,asInt,asIntOf,hw,hneg,h48i,hroom,hk0,Addr.add_lit,hst]
  refine⟨_,hr,⟨hlen,.inr ⟨g,cap,_,rfl,hbg,setRow_heap w g cur _ e _ hg,hroom,hcm,?_,?_⟩⟩,⟨rfl,rfl,rfl,by simp,fun k _ hk=>setRow_other w g k _ (fun e=>hk (by simp [Value.ownBlock,e]))⟩⟩
  ·simp only [List.size_toArray,List.length_append,List.length_take,List.length_drop,Array.length_toList]
   rw [Array.length_toList] at hfit
   omega
  ·rw [htake,←hlen]
   exact List.take_left
theorem wpList_wrZ {ops:Array Oper}{rest:List Oper}{o:Oper}{a:Act}{Q:Exit→Act→World→Prop}{w:World}(hgd:o.guard=none)(s x:Operand)
  (ho:o.op=.call { callee:=.builtin .append,args:=#[s,x],argTypes:=#[27,3] })
  {n:Nat} {wb q cap base:Nat} {cur:List Int} (h:Wr w wb q cap base cur) (hne:wb≠q) (hs:a.eval s=.slice (some ⟨q,0,none⟩) cur.length cap) (hx:a.eval x=.int .i64 n) (hroom:cur.length+n≤cap) (hcap:cap≤1099511627776)
  (hK:∀w',Got w' base 48 .u64 (.slice (some ⟨q,0,none⟩) (cur.length+n) cap) (cur++List.replicate n 0)→Blk w' wb #[.slice (some ⟨q,0,none⟩) cur.length cap]→Keeps (KS wb q) w w'→wpList Tryz.prog ops Q rest (a.put o.dst (.slice (some ⟨q,0,none⟩) (cur.length+n) cap)) w'):wpList Tryz.prog ops Q (o::rest) a w:=by
 obtain⟨i0,hi,hz0,hz1,hz2⟩:=info_parts int64_info
 have hc:(Value.int .u64 0).cells=#[.int .u64 0]:=rfl
 obtain⟨w',hr,h1,h2⟩:=run_append_room_zeros (P:=Tryz.prog) w base 27 3 o.type 48 i0 (.int .u64 0) 1 .i64 .i64 Tryz.underlying27 Tryz.underlying3 hi hz0 hz1 rfl q cur.length cap _ h.got n (by
  intro u hu
  obtain⟨j,hj,rfl⟩:=List.getElem_of_mem hu
  have hjl:j<n*1:=by rw [Array.length_toList,size_zeroCells] at hj;exact hj
  have hg:=zeroCells_get (z:=(Value.int .u64 0).cells) (k:=n) (s:=1) rfl hjl
  rw [List.getElem?_eq_getElem hj,Nat.mod_one] at hg
  rw [Option.some.inj hg]
  rfl) hroom (by unfold maxLen;omega) (by rw [hz2];omega)
 refine Lib.wpList_append_run w hgd s x _ _ ho _ _ hs hx _ w' hr (hK w' ?_ (h.blk.keepsS (S:=fun k=>k=q) (ks_grown h2 rfl) hne) (ks_grown h2 (.inr rfl)))
 unfold Got
 rw [List.length_append,List.length_replicate,List.map_append,List.map_replicate]
 have e1:(Builtin.zeroCells (Value.int .u64 0).cells n).toList=List.replicate n (Value.int .u64 0):=by
  apply List.ext_getElem?
  intro j
  by_cases hj:j<n
  ·rw [zeroCells_get (s:=1) rfl (by omega),Nat.mod_one,List.getElem?_replicate,if_pos hj]
   rfl
  ·rw [List.getElem?_eq_none (by rw [Array.length_toList,size_zeroCells];show n*1≤j;omega),List.getElem?_replicate,if_neg hj]
 rw [←e1]
 exact h1
theorem Wzeros_any (wb q cap base n:Nat)(cur:List Int)(w:World)(h:Wr w wb q cap base cur)(hne:wb≠q)(hroom:cur.length+n≤cap)(hcap:cap≤1099511627776):
  Calls Tryz.prog 37 #[.pointer (some ⟨wb,0,none⟩),.int .i64 n] w fun r w'=>r=.returned (.int .i64 cur.length)∧Keeps (KS wb q) w w'∧Wr w' wb q cap base (cur++List.replicate n 0):=by
 obtain⟨x1,y1,z1⟩:=h.blk
 have HW:=Lib.hid h
 have HNE:=Lib.hid hne
 have HC:=Lib.hid hcap
 clear h hne hcap
 go_enter Tryz.func37,Tryz.ntmps37
 go_wp2_with (at_builtin;refine wpList_wrZ rfl (.tmp 15) (.tmp 16) rfl (n:=n) HW.out HNE.out rfl rfl hroom HC.out ?_;intro w2 hg2 hb2 hk2;have HG:=Lib.hid hg2;have HB:=Lib.hid hb2;have HK:=Lib.hid hk2;obtain⟨x2,y2,z2⟩:=hb2;clear hg2 hk2 x1 y1 z1)
 go_ret
 exact⟨rfl,ks_set HK.out (.inl (.inl rfl)) _,Wr.grow HG.out HB.out HNE.out (by simp)⟩
theorem Woffset_any (wb q cap base:Nat)(a:Int)(cur:List Int)(w:World)(h:Wr w wb q cap base cur)(h0:0≤a)(h1:a≤1099511627776)(hl:cur.length≤1099511627776):
  Calls Tryz.prog 102 #[.pointer (some ⟨wb,0,none⟩),.int .i64 a] w fun r w'=>r=.returned (.int .i64 (cur.length-a-1))∧w=w':=by
 obtain⟨x1,y1,z1⟩:=h.blk
 clear h
 go_enter Tryz.func102,Tryz.ntmps102
 go_wp2
 go_ret
 exact⟨rfl,rfl⟩
theorem Wencoded_any (k o d p el c:Int)(w:World)(hv:Vld ⟨k,o,d,p,el,c,false,0,0,0⟩):
  Calls Tryz.prog 103 #[.agg #[.int .i64 k,.int .i64 o,.int .i64 d,.int .i64 p,.int .i64 el,.int .i64 c,.bool false,.int .i64 0,.int .u32 0,.int .u32 0]] w fun r w'=>r=.returned (.int .u64 (encW ⟨k,o,d,p,el,c,false,0,0,0⟩))∧Below w.heap.size w w':=by
 have HE:=Lib.hid (fun w2=>Encode_any k o d p el c 0 0 0 false w2)
 have HV:Hid (encE ⟨k,o,d,p,el,c,false,0,0,0⟩=encW ⟨k,o,d,p,el,c,false,0,0,0⟩):=Lib.hid (by unfold encE okE;rw [if_pos (decide_eq_true hv)])
 have HB0:=Lib.hid (fun o=>(Below.refl w.heap.size w).alloc (Nat.le_refl _) o)
 clear hv
 go_enter Tryz.func103,Tryz.ntmps103
 go_wp2_with fail
 refine(HE.out _).mono ?_
 rintro r w2 ⟨rfl,hb2⟩
 have HB2:=Lib.hid (bel_on (HB0.out _) hb2)
 clear hb2
 go_wp2
 go_ret
 exact⟨by rw [←HV.out];rfl,HB2.out⟩
theorem Wnull_any (wb q cap base at':Nat)(k e n:Int)(dl c kl c2:Nat)(A B:Option Addr)(cur:List Int)(w:World)(h:Wr w wb q cap base cur)(hne:wb≠q)(hat:at'<cur.length):
  Calls Tryz.prog 81 #[.pointer (some ⟨wb,0,none⟩),.int .i64 at',.agg #[.int .i64 k,.int .i64 e,.int .i64 n,.slice A dl c,.slice B kl c2]] w fun r w'=>r=.returned (.tuple #[])∧Keeps (KS wb q) w w'∧Wr w' wb q cap base (cur.set at' 0):=by
 have h1:=h.alloc (.cells #[.int .i64 k,.int .i64 e,.int .i64 n,.slice A dl c,.slice B kl c2] 39)
 obtain⟨x1,y1,z1⟩:=h1.blk
 have c1:=h1.got.cell at' hat
 have f1:=h1.got.free at'
 have HW:=Lib.hid h1
 have HNE:=Lib.hid hne
 have hat':(at':Int)<(cur.length:Int):=by omega
 clear h h1 hne
 go_enter Tryz.func81,Tryz.ntmps81
 go_wp2
 go_end0
 exact⟨rfl,ks_set (ks_alloc (Keeps.refl _ _) _) (.inl (.inr rfl)) _,HW.out.put HNE.out _ _⟩
section
def sameS (a b:List (List Int)):Bool:=decide (a=b)
theorem sameS_self (a:List (List Int)):sameS a a=true:=by simp [sameS]
theorem sameS_no (a b:List (List Int))(k:Nat)(h:sameB (seg a k) (seg b k)=false):sameS a b=false:=by
 unfold sameS
 simp
 rintro rfl
 rw [sameB_self] at h
 cases h
theorem sameS_len (a b:List (List Int))(h:a.length≠b.length):sameS a b=false:=by
 unfold sameS
 simp
 rintro rfl
 exact h rfl
theorem sameS_yes (a b:List (List Int))(hl:a.length=b.length)(h:∀i,i<a.length→sameB (seg a i) (seg b i)=true):sameS a b=true:=by
 unfold sameS
 simp
 exact ext_seg hl fun i hi=>of_decide_eq_true (h i hi)
theorem SameWords_is (A B:Option Addr)(c d:Nat)(a b:List Int)(w:World)(ha:Ri w .u64 A a)(hb:Ri w .u64 B b)(hm:a.length≤9223372036854775807)(hm2:b.length≤9223372036854775807){x:Bool}(hx:sameB a b=x):
  Calls Tryz.prog 13 #[.slice A a.length c,.slice B b.length d] w fun e w'=>e=.returned (.bool x)∧∃m,w'=w.drewN m:=by
 subst hx
 exact SameWords_any A B c d a b w ha hb hm hm2
theorem Sg.drewN {w:World}{A:Option Addr}{ls:List (List Int)}(h:Sg w A ls)(n:Nat):Sg (w.drewN n) A ls:=h
theorem Same4_any (A B:Option Addr)(c d:Nat)(a b:List (List Int))(w:World)(ha:Sg w A a)(hb:Sg w B b)(hm:a.length≤9223372036854775807)(hm2:b.length≤9223372036854775807):
  Calls Tryz.prog 19 #[.slice A a.length c,.slice B b.length d] w fun e w'=>e=.returned (.bool (sameS a b))∧∃m,w'=w.drewN m:=by
 have Ha:=Lib.hid ha
 have Hb:=Lib.hid hb
 clear ha hb
 by_cases hl:a.length=b.length
 ·have HL:=Lib.hid hl
  have hlen:((a.length:Int) != (b.length:Int))=false:=by simp [hl]
  have hlen2:((a.length:Int)==(b.length:Int))=true:=by simp [hl]
  clear hl
  go_enter Tryz.func19,Tryz.ntmps19
  go_wp2
  go_loopw [5] (fun i wr=>∃k:Nat,k≤a.length∧i=.int .i64 k∧(∀j,j<k→sameB (seg a j) (seg b j)=true)∧∃m,wr=w.drewN m) (fun i _=>a.length-(intOf i).toNat)
  case atStart=>exact⟨0,by omega,rfl,by intro j hj;omega,0,rfl⟩
  case round=>
   obtain⟨k,hk,rfl,hsame,hwr⟩:=hrel
   have HS:=Lib.hid hsame
   have HW:=Lib.hid hwr
   have HA2:Hid (Sg wr A a):=Lib.hid (by obtain⟨m,rfl⟩:=hwr;exact Ha.out.drewN m)
   have HB2:Hid (Sg wr B b):=Lib.hid (by obtain⟨m,rfl⟩:=hwr;exact Hb.out.drewN m)
   clear hsame hwr
   by_cases hlt:k<a.length
   ·obtain⟨g,off,A1,c1,rfl,hc1,hr1,-,hd1,hd2⟩:=HA2.out.one hlt
    have hltb:k<b.length:=by rw [←HL.out];exact hlt
    obtain⟨g',off',A2,c2,rfl,hc2,hr2,-,he1,he2⟩:=HB2.out.one hltb
    have hi1:(k:Int)<(a.length:Int):=by omega
    have hi2:(k:Int)<(b.length:Int):=by omega
    have HR1:=Lib.hid hr1
    have HR2:=Lib.hid hr2
    clear hr1 hr2
    cases hx:sameB (seg a k) (seg b k)
    ·have HX:=Lib.hid hx
     clear hx
     go_wp2
     go_quiet ((go_at_call 13;exact Calls.quiet_of (SameWords_is _ _ _ _ _ _ _ (HR1.out.drewN _) (HR2.out.drewN _) (by omega) (by omega) HX.out)))
     go_wp2
     go_ret
     exact⟨by rw [sameS_no a b k HX.out];rfl,by obtain⟨m,h⟩:=HW.out;exact⟨_,by rw [h,World.drewN_drewN]⟩⟩
    ·have HX:=Lib.hid hx
     clear hx
     go_wp2
     go_quiet ((go_at_call 13;exact Calls.quiet_of (SameWords_is _ _ _ _ _ _ _ (HR1.out.drewN _) (HR2.out.drewN _) (by omega) (by omega) HX.out)))
     go_wp2
     go_roundw
     case rel=>exact⟨k+1,by omega,by go_num,fun j hj=>by
      by_cases e:j=k
      ·subst e;exact HX.out
      ·exact HS.out j (by omega),by obtain⟨m,h⟩:=HW.out;exact⟨_,by rw [h,World.drewN_drewN]⟩⟩
     case measure=>simp [intOf];omega
   ·obtain rfl:k=a.length:=by omega
    go_wp2
    go_ret
    exact⟨by rw [sameS_yes a b HL.out HS.out];rfl,HW.out⟩
 ·have HL:=Lib.hid (sameS_len a b hl)
  have hlen:((a.length:Int) != (b.length:Int))=true:=by simp;omega
  have hlen2:((a.length:Int)==(b.length:Int))=false:=by simp;omega
  clear hl
  go_enter Tryz.func19,Tryz.ntmps19
  go_wp2
  go_ret
  exact⟨by rw [HL.out];rfl,0,rfl⟩
def entN (b:List Int)(i:Nat):Nat:=(ent b i).toNat
def atN (b:List Int)(k:Nat):Nat:=(atF b k).toNat
attribute [local irreducible] atN entN
end
end Go.Proofs.YtbpmeppdjicmhaaGreatDoor
