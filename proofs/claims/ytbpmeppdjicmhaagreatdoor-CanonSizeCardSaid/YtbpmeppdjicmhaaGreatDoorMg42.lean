/- The texts WriE, WriF, WriG (what is wanted of them), one after the other. -/
import Derived.Test.YtbpmeppdjicmhaaGreatDoorMg40
namespace Go.Proofs.YtbpmeppdjicmhaaGreatDoor
open Go.ChangeShapes Go.WideShapes Go.ChangeAt Go.RowKit
set_option linter.unusedVariables false
set_option linter.unusedSimpArgs false
set_option maxRecDepth 100000
section
attribute [local simp] AllK KnowsV look Is
theorem wp_region_n12k {P:Program}{id:Nat}{o0 o1 o2 o3 o4 o5 o6 o7 o8 o9 o10 o11 t:Oper}{Q:Exit→Act→World→Prop}{a:Act}{w:World}(hm:P.follows .mixedOrders=true)(hB:chainAB a.tmps.size [o0,o1,o2,o3,o4,o5,o6,o7,o8,o9,o10,o11] t=true)
  (h:ChainA P #[o0,o1,o2,o3,o4,o5,o6,o7,o8,o9,o10,o11,t] [o0,o1,o2,o3,o4,o5,o6,o7,o8,o9,o10,o11] t 999 NoBlk a w.drew Q [o0,o1,o2,o3,o4,o5,o6,o7,o8,o9,o10,o11] 0 [] []):(Code.region id #[o0,o1,o2,o3,o4,o5,o6,o7,o8,o9,o10,o11,t] true).wp P Q a w:=
 wp_region_a [o0,o1,o2,o3,o4,o5,o6,o7,o8,o9,o10,o11] t 999 NoBlk rfl hm hB h
theorem wp_region_n8k {P:Program}{id:Nat}{o0 o1 o2 o3 o4 o5 o6 o7 t:Oper}{Q:Exit→Act→World→Prop}{a:Act}{w:World}(hm:P.follows .mixedOrders=true)(hB:chainAB a.tmps.size [o0,o1,o2,o3,o4,o5,o6,o7] t=true)
  (h:ChainA P #[o0,o1,o2,o3,o4,o5,o6,o7,t] [o0,o1,o2,o3,o4,o5,o6,o7] t 999 NoBlk a w.drew Q [o0,o1,o2,o3,o4,o5,o6,o7] 0 [] []):(Code.region id #[o0,o1,o2,o3,o4,o5,o6,o7,t] true).wp P Q a w:=
 wp_region_a [o0,o1,o2,o3,o4,o5,o6,o7] t 999 NoBlk rfl hm hB h
def BlkF (N:Nat)(cs:Array Value):Fact:=fun v w=>∃b,v=.pointer (some ⟨b,0,none⟩)∧Blk w b cs∧N≤b
theorem stable_blkf (N:Nat)(cs:Array Value):stable (BlkF N cs):=fun v w w' ⟨b,h1,h2,h3⟩ hb=>⟨b,h1,h2.below hb,h3⟩
structure Std (wb q cap base:Nat) (w:World) (cur:List Int) (bx:Nat) (box:Array Value) (W:World):Prop where
 keeps:Keeps (KS wb q) w W
 wr:Wr W wb q cap base cur
 box:Blk W bx box
theorem Std.set {wb q cap base:Nat}{w:World}{cur:List Int}{bx:Nat}{box:Array Value}{W:World}(h:Std wb q cap base w cur bx box W){p:Addr}(h1:w.heap.size≤p.block)(h2:p.block≠bx)(h3:¬KS wb q p.block)(v:Value):Std wb q cap base w cur bx box (W.setCell p v):=
 ⟨ks_set h.keeps (.inr h1) v,⟨h.wr.blk.other (fun e=>h3 (.inl e)) v,got_other15 h.wr.got (fun e=>by injection e with e;exact h3 (.inr e.symm)) v⟩,h.box.other h2 v⟩
theorem Std.below {wb q cap base:Nat}{w:World}{cur:List Int}{bx:Nat}{box:Array Value}{W W':World}(h:Std wb q cap base w cur bx box W)(hb:Below W.heap.size W W'):Std wb q cap base w cur bx box W':=⟨ks_on h.keeps hb,h.wr.below hb,h.box.below hb⟩
theorem Std.put {wb q cap base:Nat}{w:World}{cur:List Int}{bx:Nat}{box:Array Value}{W:World}(h:Std wb q cap base w cur bx box W)(hne:wb≠q)(hq:bx≠q)(j:Nat)(y:Int):Std wb q cap base w (cur.set j y) bx box (W.setCell ⟨q,j,none⟩ (.int .u64 y)):=
 ⟨ks_set h.keeps (.inl (.inr rfl)) _,h.wr.put hne j y,h.box.other (fun e=>hq e.symm) _⟩
theorem Blk.ten {W:World}{b:Nat}{u0 u1 u2 u3 u4 u5 u6 u7 u8 u9:Value}(h:Blk W b #[u0,u1,u2,u3,u4,u5,u6,u7,u8,u9])(v0 v1 v2 v3 v4 v5 v6 v7 v8 v9:Value):
  Blk ((((((((((W.setCell ⟨b,0,none⟩ v0).setCell ⟨b,1,none⟩ v1).setCell ⟨b,2,none⟩ v2).setCell ⟨b,3,none⟩ v3).setCell ⟨b,4,none⟩ v4).setCell ⟨b,5,none⟩ v5).setCell ⟨b,6,none⟩ v6).setCell ⟨b,7,none⟩ v7).setCell ⟨b,8,none⟩ v8).setCell ⟨b,9,none⟩ v9) b #[v0,v1,v2,v3,v4,v5,v6,v7,v8,v9]:=by
 have h0:=h.set 0 (by simp) v0
 simp at h0
 have h1:=h0.set 1 (by simp) v1
 simp at h1
 have h2:=h1.set 2 (by simp) v2
 simp at h2
 have h3:=h2.set 3 (by simp) v3
 simp at h3
 have h4:=h3.set 4 (by simp) v4
 simp at h4
 have h5:=h4.set 5 (by simp) v5
 simp at h5
 have h6:=h5.set 6 (by simp) v6
 simp at h6
 have h7:=h6.set 7 (by simp) v7
 simp at h7
 have h8:=h7.set 8 (by simp) v8
 simp at h8
 have h9:=h8.set 9 (by simp) v9
 simp at h9
 exact h9
theorem str_vld {d:List Int}{ks:List Nd}(hv:validN (.mk 1 0 0 d ks)=true)(o:Int)(h1:-536870912≤o)(h2:o≤536870911):Vld ⟨0,o,((d.length / 8:Nat):Int),ks.length,0,0,false,0,0,0⟩:=by
 obtain⟨-,-,h8,hd5,hk5⟩:=head_str hv
 left
 simp only
 refine⟨trivial,by omega,by omega,by omega,by omega,by omega,by omega,?_⟩
 simp
set_option maxHeartbeats 8000000 in
theorem Wstr_any (w0:World)(wb q cap:Nat)(hwb:w0.heap.size≤wb)(hne:wb≠q)(hcap:cap≤268435456)(d:List Int)(ks:List Nd)(hv:validN (.mk 1 0 0 d ks)=true)(hD:∀y∈ks,DispC w0 wb q cap y)(cur:List Int)(a:Nat)(A:Option Addr)(c:Nat)(B:Option Addr)(c2:Nat)(w:World)
  (hx:NdR w0 A c B c2 (.mk 1 0 0 d ks)) (ha:a<cur.length) (hroom:(cur.length:Int)+canN (.mk 1 0 0 d ks)≤cap) (h:Wr w wb q cap w0.heap.size cur) (hb:Below w0.heap.size w0 w) :
  Calls Tryz.prog 82 #[.pointer (some ⟨wb,0,none⟩),.int .i64 a,.agg #[.int .i64 1,.int .i64 0,.int .i64 0,.slice A d.length c,.slice B ks.length c2]] w fun r w'=>r=.returned (.tuple #[])∧Keeps (KS wb q) w w'∧Wr w' wb q cap w0.heap.size (placeF cur a (.mk 1 0 0 d ks)):=by
 have hq:=h.q
 have hwlt:=h.blk.lt
 obtain⟨-,-,h8,hd5,hk5⟩:=head_str hv
 have hT:targN (.mk 1 0 0 d ks)=ks:=by rw [targN_mk,if_neg (by decide)]
 have hvk:∀y∈ks,validN y=true:=fun y hy=>valid_targ hv y (by rw [hT];exact hy)
 have hcn:=canK_nn hvk
 have hE:=canN_eq (.mk 1 0 0 d ks)
 have hO:canO (.mk 1 0 0 d ks)=((d.length / 8+ks.length:Nat):Int):=rfl
 rw [hT,hO] at hE
 have hNB:¬KS wb q w.heap.size:=by unfold KS;omega
 have HNB:Hid (∀b,w.heap.size≤b→¬KS wb q b):=Lib.hid (fun b hb=>by unfold KS;omega)
 have HW:=Lib.hid (fun (W:World) (h:Keeps (KS wb q) w W)=>hb.trans (ks_below h hb.size hwb hq.1))
 have HW1:=Lib.hid (h.alloc (.cells #[.int .i64 1,.int .i64 0,.int .i64 0,.slice A d.length c,.slice B ks.length c2] 39))
 have HK1:Hid (Keeps (KS wb q) w (w.alloc (.cells #[.int .i64 1,.int .i64 0,.int .i64 0,.slice A d.length c,.slice B ks.length c2] 39))):=Lib.hid (ks_alloc (Keeps.refl _ _) _)
 have HB1:=Lib.hid (Blk.fresh w #[.int .i64 1,.int .i64 0,.int .i64 0,.slice A d.length c,.slice B ks.length c2] 39)
 have HNE:=Lib.hid hne
 have hal:(a:Int)<(cur.length:Int):=by omega
 have hcl:cur.length≤268435456:=by omega
 obtain⟨M,hM⟩:∃M,d.length / 8=M:=⟨_,rfl⟩
 have hM7:(d.length+7) / 8=M:=by omega
 have HVL:=Lib.hid (fun o h1 h2=>str_vld hv o h1 h2)
 rw [hM] at HVL
 have hMd:(d.length:Int) / 8=(M:Int):=by omega
 obtain⟨O,hOO⟩:∃O,O=(cur.length:Int)-a-1:=⟨_,rfl⟩
 have HOO:=Lib.hid hOO
 have HMD:=Lib.hid hMd
 have hPW:ptrW (.mk 1 0 0 d ks) O=encW ⟨0,if M+ks.length=0 then -1 else O,(M:Nat),ks.length,0,0,false,0,0,0⟩:=by
  rw [ptrW_str14,hO,hM]
  congr 2
  by_cases h:M+ks.length=0
  ·rw [if_pos (by omega),if_pos h]
  ·rw [if_neg (by omega),if_neg h]
 have hpp:=plain_place hv (by simp [Nd.k]) (by simp [Nd.k]) cur a
 simp only [Nd.d,Nd.ks] at hpp
 rw [hM7,←hOO,hPW] at hpp
 have HCO:=Lib.hid (fun (pw:Int) W (h2:Wr W wb q cap w0.heap.size (cur.set a pw)) (h3:Below w0.heap.size w0 W)=>Wcontents_any w0 wb q cap hwb hne hcap 1 0 0 d ks hD hvk (cur.set a pw) A c B c2 W hx (by rw [List.length_set,hM7];omega) h2 h3)
 simp only [hM7,List.length_set] at HCO
 have HPP:=Lib.hid hpp
 have hO1:-536870912≤O∧O≤536870911:=by omega
 have hM5:M≤65535:=by omega
 clear hOO hMd
 clear hx h hb hD hv hroom hq hcn hwb hne hvk hT hE hO hPW hpp hM hM7 h8 hd5
 have HNQ:Hid (w.heap.size≠q):=Lib.hid (fun e=>hNB (.inr e))
 obtain⟨kl,hkl⟩:∃kl,ks.length=kl:=⟨_,rfl⟩
 rw [hkl] at HW1 HK1 HB1 HVL HPP HCO hk5
 rw [hkl]
 clear hNB
 generalize placeF cur a (.mk 1 0 0 d ks)=res at *
 obtain⟨off,hoff⟩:∃off,(if M+kl=0 then -1 else O)=off:=⟨_,rfl⟩
 rw [hoff] at HPP
 have HOF:=Lib.hid hoff
 clear hoff
 obtain⟨pw,hpw⟩:∃pw,encW ⟨0,off,(M:Nat),kl,0,0,false,0,0,0⟩=pw:=⟨_,rfl⟩
 rw [hpw] at HPP
 have HEN:Hid (∀wc,Calls Tryz.prog 103 #[.agg #[.int .i64 0,.int .i64 off,.int .i64 (M:Nat),.int .i64 (kl:Nat),.int .i64 0,.int .i64 0,.bool false,.int .i64 0,.int .u32 0,.int .u32 0]] wc fun r w'=>r=.returned (.int .u64 pw)∧Below wc.heap.size wc w'):=Lib.hid (fun wc=>by
  rw [←hpw]
  refine Wencoded_any 0 off (M:Nat) (kl:Nat) 0 0 wc (HVL.out off ?_ ?_)
  ·have h:=HOF.out;by_cases h0:M+kl=0
   ·rw [if_pos h0] at h;omega
   ·rw [if_neg h0] at h;omega
  ·have h:=HOF.out;by_cases h0:M+kl=0
   ·rw [if_pos h0] at h;omega
   ·rw [if_neg h0] at h;omega)
 clear hpw
 go_enter Tryz.func82,Tryz.ntmps82
 go_wp2_with fail
 refine abs_code10 (F:=fun W=>W=w.alloc (.cells #[.int .i64 1,.int .i64 0,.int .i64 0,.slice A d.length c,.slice B kl c2] 39)) rfl ?_
 rintro W1 hW1
 rw [←hW1] at HW1 HK1 HB1
 clear hW1
 have HBd:Hid (∀wc,Below W1.drew.heap.size W1.drew wc→Blk wc w.heap.size #[.int .i64 1,.int .i64 0,.int .i64 0,.slice A d.length c,.slice B kl c2]):=Lib.hid (fun wc h=>HB1.out.below (bel_undrew13 h))
 have HWd:Hid (∀wc,Below W1.drew.heap.size W1.drew wc→Wr wc wb q cap w0.heap.size cur):=Lib.hid (fun wc h=>HW1.out.below (bel_undrew13 h))
 refine wp_region_n12k (by kernel_rfl) (by kernel_rfl) ?_
 refine n_val (u:=?_) [0] (by kernel_rfl) rfl (by kernel_rfl) trivial (fun ρ wc hbc hcn hk=>?_) ?_;rotate_left
 ·obtain⟨hcn,-⟩:=hcn
  simp at hk
  go_simp
  rfl
 refine n_val (u:=?_) [1] (by kernel_rfl) rfl (by kernel_rfl) trivial (fun ρ wc hbc hcn hk=>?_) ?_;rotate_left
 ·obtain⟨hcn,-⟩:=hcn
  simp at hk
  go_simp
  rfl
 refine n_call (T:=Is (.int .i64 O)) 102 [7,8] (by kernel_rfl) rfl (by kernel_rfl) trivial (stable_is _) (fun ρ wc hbc hcn hk=>?_) ?_
 ·obtain⟨hcn,hfn⟩:=hcn
  simp at hk
  refine⟨_,by go_simp;rfl,?_⟩
  refine(Woffset_any wb q cap w0.heap.size a cur wc (HWd.out wc hbc) (by omega) (by omega) (by omega)).mono ?_
  rintro e w' ⟨rfl,rfl⟩
  exact⟨_,rfl,by rw [HOO.out];rfl,Below.refl _ _⟩
 refine n_val (u:=?_) [5] (by kernel_rfl) rfl (by kernel_rfl) trivial (fun ρ wc hbc hcn hk=>?_) ?_;rotate_left
 ·obtain⟨hcn,-⟩:=hcn
  simp at hk
  go_simp
  rfl
 refine n_val (u:=?_) [10] (by kernel_rfl) rfl (by kernel_rfl) trivial (fun ρ wc hbc hcn hk=>?_) ?_;rotate_left
 ·obtain⟨hcn,-⟩:=hcn
  simp at hk
  have x1:=(HBd.out wc hbc).cell
  go_simp
  rfl
 refine n_val (u:=?_) [11] (by kernel_rfl) rfl (by kernel_rfl) trivial (fun ρ wc hbc hcn hk=>?_) ?_;rotate_left
 ·obtain⟨hcn,-⟩:=hcn
  simp at hk
  go_simp
  rfl
 refine n_val (u:=.int .i64 (M:Nat)) [12] (by kernel_rfl) rfl (by kernel_rfl) trivial (fun ρ wc hbc hcn hk=>?_) ?_
 ·obtain⟨hcn,-⟩:=hcn
  simp at hk
  have hMd:=HMD.out
  go_simp
  try rw [IntKind.wrap_i64]
  try omega
 refine n_val (u:=?_) [5] (by kernel_rfl) rfl (by kernel_rfl) trivial (fun ρ wc hbc hcn hk=>?_) ?_;rotate_left
 ·obtain⟨hcn,-⟩:=hcn
  simp at hk
  go_simp
  rfl
 refine n_val (u:=?_) [14] (by kernel_rfl) rfl (by kernel_rfl) trivial (fun ρ wc hbc hcn hk=>?_) ?_;rotate_left
 ·obtain⟨hcn,-⟩:=hcn
  simp at hk
  have x1:=(HBd.out wc hbc).cell
  go_simp
  rfl
 refine n_val (u:=?_) [15] (by kernel_rfl) rfl (by kernel_rfl) trivial (fun ρ wc hbc hcn hk=>?_) ?_;rotate_left
 ·obtain⟨hcn,-⟩:=hcn
  simp at hk
  go_simp
  rfl
 refine n_val (u:=?_) [9,13,16] (by kernel_rfl) rfl (by kernel_rfl) trivial (fun ρ wc hbc hcn hk=>?_) ?_;rotate_left
 ·obtain⟨hcn,-⟩:=hcn
  simp at hk
  go_simp
  rfl
 refine n_new (T:=BlkF w.heap.size #[.int .i64 0,.int .i64 0,.int .i64 0,.int .i64 0,.int .i64 0,.int .i64 0,.bool false,.int .i64 0,.int .u32 0,.int .u32 0]) [] (by kernel_rfl) rfl (by kernel_rfl) trivial (stable_blkf _ _) (fun ρ wc hbc hcn hk=>?_) ?_
 ·have hs1:=(HBd.out wc hbc).lt
  refine⟨_,_,by go_simp;rfl,⟨wc.heap.size,rfl,Blk.fresh _ _ _,by omega⟩,?_⟩
  exact(Below.refl _ _).alloc (Nat.le_refl _) _
 refine a_end_lit 38 (by kernel_rfl) (fun ff w9 hb9 hk=>?_)
 have h6:BlkF w.heap.size #[.int .i64 0,.int .i64 0,.int .i64 0,.int .i64 0,.int .i64 0,.int .i64 0,.bool false,.int .i64 0,.int .u32 0,.int .u32 0] (ff 6) w9:=allN_atF hk 6 (by decide) (by decide)
 simp [AllN] at hk
 simp only [frameL,hk,Nat.zero_add,Nat.reduceAdd]
 obtain⟨b6,e6,hb6,hn6⟩:=h6
 rw [e6]
 have HS9:Hid (Std wb q cap w0.heap.size w cur w.heap.size #[.int .i64 1,.int .i64 0,.int .i64 0,.slice A d.length c,.slice B kl c2] w9):=Lib.hid ⟨ks_on HK1.out (bel_undrew13 (keeps_none hb9)),HWd.out w9 (keeps_none hb9),HBd.out w9 (keeps_none hb9)⟩
 have hs9:=(HBd.out w9 (keeps_none hb9)).lt
 have HB6:=Lib.hid hb6
 have hn7:b6≠w.heap.size:=fun e=>by
  have x6:=hb6.cell 6
  rw [e,HS9.out.box.cell 6] at x6
  simp at x6
 have HN6:Hid (¬KS wb q b6):=Lib.hid (HNB.out b6 hn6)
 have HN7:=Lib.hid hn7
 clear hk hb9 e6 HBd HWd HW1 HK1 HB1
 refine split_store (fun W=>Std wb q cap w0.heap.size w cur w.heap.size #[.int .i64 1,.int .i64 0,.int .i64 0,.slice A d.length c,.slice B kl c2] W∧Blk W b6 #[.int .i64 0,.int .i64 O,.int .i64 (M:Nat),.int .i64 (kl:Nat),.int .i64 0,.int .i64 0,.bool false,.int .i64 0,.int .u32 0,.int .u32 0]) rfl ?_ ?_
 ·obtain⟨x9,y9,z9⟩:=hb6
  go_wp2
  refine⟨rfl,rfl,?_,?_⟩
  ·exact Std.set (p:=⟨b6,9,none⟩) (Std.set (p:=⟨b6,8,none⟩) (Std.set (p:=⟨b6,7,none⟩) (Std.set (p:=⟨b6,6,none⟩) (Std.set (p:=⟨b6,5,none⟩) (Std.set (p:=⟨b6,4,none⟩) (Std.set (p:=⟨b6,3,none⟩) (Std.set (p:=⟨b6,2,none⟩) (Std.set (p:=⟨b6,1,none⟩) (Std.set (p:=⟨b6,0,none⟩) (HS9.out) hn6 HN7.out HN6.out _) hn6 HN7.out HN6.out _) hn6 HN7.out HN6.out _) hn6 HN7.out HN6.out _) hn6 HN7.out HN6.out _) hn6 HN7.out HN6.out _) hn6 HN7.out HN6.out _) hn6 HN7.out HN6.out _) hn6 HN7.out HN6.out _) hn6 HN7.out HN6.out _
  ·exact HB6.out.ten _ _ _ _ _ _ _ _ _ _
 rename_i K2 hK2
 rintro W2 ⟨hs2,hb2⟩
 refine hK2 _ _ ?_
 clear hK2 HS9 HB6 hb6
 have HS2:=Lib.hid hs2
 have HB2:=Lib.hid hb2
 clear hs2
 have hcase:(M=0∧kl=0∧off=-1)∨(M≠0∧off=O)∨(M=0∧kl≠0∧off=O):=by
  have h:=HOF.out
  by_cases h0:M+kl=0
  ·rw [if_pos h0] at h;omega
  ·rw [if_neg h0] at h;omega
 have HM5:=Lib.hid hM5
 have HO1:=Lib.hid hO1
 obtain⟨x2,y2,z2⟩:=hb2
 clear hO1
 have hgo:∃W3,Std wb q cap w0.heap.size w cur w.heap.size #[.int .i64 1,.int .i64 0,.int .i64 0,.slice A d.length c,.slice B kl c2] W3∧True:=⟨_,HS2.out,trivial⟩
 clear hgo
 have HF:Hid (∀W3,Std wb q cap w0.heap.size w cur w.heap.size #[.int .i64 1,.int .i64 0,.int .i64 0,.slice A d.length c,.slice B kl c2] W3→Blk W3 b6 #[.int .i64 0,.int .i64 off,.int .i64 (M:Nat),.int .i64 (kl:Nat),.int .i64 0,.int .i64 0,.bool false,.int .i64 0,.int .u32 0,.int .u32 0]→Std wb q cap w0.heap.size w cur w.heap.size #[.int .i64 1,.int .i64 0,.int .i64 0,.slice A d.length c,.slice B kl c2] W3∧Blk W3 b6 #[.int .i64 0,.int .i64 off,.int .i64 (M:Nat),.int .i64 (kl:Nat),.int .i64 0,.int .i64 0,.bool false,.int .i64 0,.int .u32 0,.int .u32 0]):=Lib.hid (fun _ h1 h2=>⟨h1,h2⟩)
 rcases hcase with ⟨hc1,hc2,hc3⟩|⟨hc1,hc3⟩|⟨hc1,hc2,hc3⟩
 case' inl=>
  have t1:(((M:Nat):Int)==0)=true:=by simp [hc1]
  have t2:(((kl:Nat):Int)==0)=true:=by simp [hc2]
  have HC3:=Lib.hid hc3
  clear hc1 hc2 hc3
  go_wp2_with fail
  refine abs_code10 (F:=fun W=>Std wb q cap w0.heap.size w cur w.heap.size #[.int .i64 1,.int .i64 0,.int .i64 0,.slice A d.length c,.slice B kl c2] W∧Blk W b6 #[.int .i64 0,.int .i64 off,.int .i64 (M:Nat),.int .i64 (kl:Nat),.int .i64 0,.int .i64 0,.bool false,.int .i64 0,.int .u32 0,.int .u32 0]) ⟨HS2.out.set hn6 HN7.out HN6.out _,?_⟩ ?_
  ·rw [HC3.out]
   have h1:=HB2.out.set 1 (by simp) (.int .i64 (-1))
   simp at h1
   exact h1
 case' inr.inl=>
  have t1:(((M:Nat):Int)==0)=false:=by simp [hc1]
  have HC3:=Lib.hid hc3
  clear hc1 hc3
  go_wp2_with fail
  refine abs_code10 (F:=fun W=>Std wb q cap w0.heap.size w cur w.heap.size #[.int .i64 1,.int .i64 0,.int .i64 0,.slice A d.length c,.slice B kl c2] W∧Blk W b6 #[.int .i64 0,.int .i64 off,.int .i64 (M:Nat),.int .i64 (kl:Nat),.int .i64 0,.int .i64 0,.bool false,.int .i64 0,.int .u32 0,.int .u32 0]) ⟨HS2.out,?_⟩ ?_
  ·rw [HC3.out];exact HB2.out
 case' inr.inr=>
  have t1:(((M:Nat):Int)==0)=true:=by simp [hc1]
  have t2:(((kl:Nat):Int)==0)=false:=by simp [hc2]
  have HC3:=Lib.hid hc3
  clear hc1 hc2 hc3
  go_wp2_with fail
  refine abs_code10 (F:=fun W=>Std wb q cap w0.heap.size w cur w.heap.size #[.int .i64 1,.int .i64 0,.int .i64 0,.slice A d.length c,.slice B kl c2] W∧Blk W b6 #[.int .i64 0,.int .i64 off,.int .i64 (M:Nat),.int .i64 (kl:Nat),.int .i64 0,.int .i64 0,.bool false,.int .i64 0,.int .u32 0,.int .u32 0]) ⟨HS2.out,?_⟩ ?_
  ·rw [HC3.out];exact HB2.out
 all_goals
  clear x2 y2 z2 HS2 HB2 HF
  rintro W3 ⟨hs3,hb3⟩
  have HWd:Hid (∀wc,Below W3.drew.heap.size W3.drew wc→Wr wc wb q cap w0.heap.size cur):=Lib.hid (fun wc h=>hs3.wr.below (bel_undrew13 h))
  have HPd:Hid (∀wc,Below W3.drew.heap.size W3.drew wc→Blk wc b6 #[.int .i64 0,.int .i64 off,.int .i64 (M:Nat),.int .i64 (kl:Nat),.int .i64 0,.int .i64 0,.bool false,.int .i64 0,.int .u32 0,.int .u32 0]):=Lib.hid (fun wc h=>hb3.below (bel_undrew13 h))
  have HSd:Hid (∀wc,Below W3.drew.heap.size W3.drew wc→Std wb q cap w0.heap.size w cur w.heap.size #[.int .i64 1,.int .i64 0,.int .i64 0,.slice A d.length c,.slice B kl c2] wc):=Lib.hid (fun wc h=>hs3.below (bel_undrew13 h))
  clear hs3 hb3
  refine wp_region_n8k (by kernel_rfl) (by kernel_rfl) ?_
  refine n_val (u:=?_) [0] (by kernel_rfl) rfl (by kernel_rfl) trivial (fun ρ wc hbc hcn hk=>?_) ?_;rotate_left
  ·obtain⟨hcn,-⟩:=hcn
   simp at hk
   go_simp
   rfl
  refine n_val (u:=?_) [27] (by kernel_rfl) rfl (by kernel_rfl) trivial (fun ρ wc hbc hcn hk=>?_) ?_;rotate_left
  ·obtain⟨hcn,-⟩:=hcn
   simp at hk
   go_simp
   rfl
  refine n_val (u:=?_) [28] (by kernel_rfl) rfl (by kernel_rfl) trivial (fun ρ wc hbc hcn hk=>?_) ?_;rotate_left
  ·obtain⟨hcn,-⟩:=hcn
   simp at hk
   go_simp
   rfl
  refine n_val (u:=?_) [29] (by kernel_rfl) rfl (by kernel_rfl) trivial (fun ρ wc hbc hcn hk=>?_) ?_;rotate_left
  ·obtain⟨hcn,-⟩:=hcn
   simp at hk
   have x1:=(HWd.out wc hbc).blk.cell
   have y1:=(HWd.out wc hbc).blk.free
   go_simp
   rfl
  refine n_val (u:=?_) [1] (by kernel_rfl) rfl (by kernel_rfl) trivial (fun ρ wc hbc hcn hk=>?_) ?_;rotate_left
  ·obtain⟨hcn,-⟩:=hcn
   simp at hk
   go_simp
   rfl
  refine n_val (u:=?_) [6] (by kernel_rfl) rfl (by kernel_rfl) trivial (fun ρ wc hbc hcn hk=>?_) ?_;rotate_left
  ·obtain⟨hcn,-⟩:=hcn
   simp at hk
   have x1:=(HPd.out wc hbc).cell
   go_simp
   rfl
  refine n_call (T:=Is (.int .u64 pw)) 103 [32] (by kernel_rfl) rfl (by kernel_rfl) trivial (stable_is _) (fun ρ wc hbc hcn hk=>?_) ?_
  ·obtain⟨hcn,hfn⟩:=hcn
   simp at hk
   refine⟨_,by go_simp;rfl,?_⟩
   refine(HEN.out wc).mono ?_
   rintro e w' ⟨rfl,hbq⟩
   exact⟨_,rfl,rfl,hbq⟩
  refine n_val (u:=.pointer (some ⟨q,a,none⟩)) [30,31] (by kernel_rfl) rfl (by kernel_rfl) trivial (fun ρ wc hbc hcn hk=>?_) ?_
  ·obtain⟨hcn,-⟩:=hcn
   simp at hk
   go_simp
   try rfl
  refine a_end_lit 38 (by kernel_rfl) (fun ff w9 hb9 hk=>?_)
  simp [AllN] at hk
  simp only [frameL,hk,Nat.zero_add,Nat.reduceAdd]
  have HS9:=Lib.hid (HSd.out w9 (keeps_none hb9))
  clear hk hb9 HWd HPd HSd
  refine split_store (fun W=>Std wb q cap w0.heap.size w (cur.set a pw) w.heap.size #[.int .i64 1,.int .i64 0,.int .i64 0,.slice A d.length c,.slice B kl c2] W) rfl ?_ ?_
  ·have c9:=HS9.out.wr.got.cell a ha
   have f9:=HS9.out.wr.got.free a
   go_wp2
   exact⟨rfl,rfl,HS9.out.put HNE.out HNQ.out _ _⟩
  rename_i K2 hK2
  rintro W4 hs4
  refine hK2 _ _ ?_
  clear hK2 HS9
  have HS4:=Lib.hid hs4
  obtain⟨x4,y4,z4⟩:=hs4.box
  clear hs4
  go_wp2_with fail
  refine(HCO.out pw _ HS4.out.wr (HW.out _ HS4.out.keeps)).mono ?_
  rintro r w5 ⟨rfl,hk5,hw5⟩
  have HK5:=Lib.hid (HS4.out.keeps.trans hk5)
  rw [HPP.out] at hw5
  have HW5:=Lib.hid hw5
  clear hk5 hw5 x4 y4 z4 HS4
  go_wp2
  go_end0
  exact⟨rfl,HK5.out,HW5.out⟩
end
section
attribute [local simp] AllK KnowsV look Is
theorem wp_region_n15k {P:Program}{id:Nat}{o0 o1 o2 o3 o4 o5 o6 o7 o8 o9 o10 o11 o12 o13 o14 t:Oper}{Q:Exit→Act→World→Prop}{a:Act}{w:World}(hm:P.follows .mixedOrders=true)(hB:chainAB a.tmps.size [o0,o1,o2,o3,o4,o5,o6,o7,o8,o9,o10,o11,o12,o13,o14] t=true)
  (h:ChainA P #[o0,o1,o2,o3,o4,o5,o6,o7,o8,o9,o10,o11,o12,o13,o14,t] [o0,o1,o2,o3,o4,o5,o6,o7,o8,o9,o10,o11,o12,o13,o14] t 999 NoBlk a w.drew Q [o0,o1,o2,o3,o4,o5,o6,o7,o8,o9,o10,o11,o12,o13,o14] 0 [] []):(Code.region id #[o0,o1,o2,o3,o4,o5,o6,o7,o8,o9,o10,o11,o12,o13,o14,t] true).wp P Q a w:=
 wp_region_a [o0,o1,o2,o3,o4,o5,o6,o7,o8,o9,o10,o11,o12,o13,o14] t 999 NoBlk rfl hm hB h
theorem lst_vld {e n:Int}(h1:0≤n)(h2:n≤536870911)(h3:0≤e)(h4:e≤7)(o:Int)(g1:-536870912≤o)(g2:o≤536870911):Vld ⟨1,o,0,0,e,n,false,0,0,0⟩:=by
 right;left
 simp only
 refine⟨trivial,by omega,by omega,trivial,trivial,by omega,by omega,by omega,by omega,?_⟩
 simp
set_option maxHeartbeats 8000000 in
theorem Wlist_any (w0:World)(wb q cap:Nat)(hwb:w0.heap.size≤wb)(hne:wb≠q)(hcap:cap≤268435456)(e n:Int)(d:List Int)(ks:List Nd)(h7:e≠7)(hv:validN (.mk 2 e n d ks)=true)(hD:∀y∈ks,DispC w0 wb q cap y)(cur:List Int)(a:Nat)(A:Option Addr)(c:Nat)(B:Option Addr)(c2:Nat)(w:World)
  (hx:NdR w0 A c B c2 (.mk 2 e n d ks)) (ha:a<cur.length) (hroom:(cur.length:Int)+canN (.mk 2 e n d ks)≤cap) (h:Wr w wb q cap w0.heap.size cur) (hb:Below w0.heap.size w0 w) :
  Calls Tryz.prog 84 #[.pointer (some ⟨wb,0,none⟩),.int .i64 a,.agg #[.int .i64 2,.int .i64 e,.int .i64 n,.slice A d.length c,.slice B ks.length c2]] w fun r w'=>r=.returned (.tuple #[])∧Keeps (KS wb q) w w'∧Wr w' wb q cap w0.heap.size (placeF cur a (.mk 2 e n d ks)):=by
 have hq:=h.q
 have hwlt:=h.blk.lt
 obtain⟨g1,g2,g3,g4,-,-⟩:=head_lst hv
 have h7':¬((Nd.mk 2 e n d ks).k=2∧(Nd.mk 2 e n d ks).e=7):=fun hh=>h7 hh.2
 have hT:targN (.mk 2 e n d ks)=ks:=by rw [targN_mk,if_neg (fun hh=>h7 hh.2)]
 have hvk:∀y∈ks,validN y=true:=fun y hy=>valid_targ hv y (by rw [hT];exact hy)
 have hcn:=canK_nn hvk
 have hE:=canN_eq (.mk 2 e n d ks)
 have hps:=(plain_start hv (by simp [Nd.k]) h7').1
 have hfl:=fillW_length hv 0 (Nat.zero_le _)
 have hpl:(padW d ((d.length+7) / 8)).length=(d.length+7) / 8:=padW_length (by omega)
 simp only [Nd.d,Nd.ks] at hps
 rw [hps,List.length_append,List.length_replicate,hpl] at hfl
 rw [hT,←hfl] at hE
 have hNB:¬KS wb q w.heap.size:=by unfold KS;omega
 have HNQ:Hid (w.heap.size≠q):=Lib.hid (fun e=>hNB (.inr e))
 have HW:=Lib.hid (fun (W:World) (h:Keeps (KS wb q) w W)=>hb.trans (ks_below h hb.size hwb hq.1))
 have HNE:=Lib.hid hne
 have hal:(a:Int)<(cur.length:Int):=by omega
 have hcl:cur.length≤268435456:=by omega
 obtain⟨M,hM⟩:∃M,(d.length+7) / 8=M:=⟨_,rfl⟩
 obtain⟨O,hOO⟩:∃O,O=(cur.length:Int)-a-1:=⟨_,rfl⟩
 have HOO:=Lib.hid hOO
 have hPW:ptrW (.mk 2 e n d ks) O=encW ⟨1,O,0,0,e,n,false,0,0,0⟩:=by
  rw [ptrW_lst14,if_neg h7]
 have hpp:=plain_place hv (by simp [Nd.k]) h7' cur a
 simp only [Nd.d,Nd.ks] at hpp
 rw [hM,←hOO,hPW] at hpp
 have HCO:=Lib.hid (fun (pw:Int) W (h2:Wr W wb q cap w0.heap.size (cur.set a pw)) (h3:Below w0.heap.size w0 W)=>Wcontents_any w0 wb q cap hwb hne hcap 2 e n d ks hD hvk (cur.set a pw) A c B c2 W hx (by rw [List.length_set,hM];omega) h2 h3)
 simp only [hM,List.length_set] at HCO
 have HPP:=Lib.hid hpp
 have hO1:-536870912≤O∧O≤536870911:=by omega
 obtain⟨kl,hkl⟩:∃kl,ks.length=kl:=⟨_,rfl⟩
 rw [hkl] at HPP HCO
 rw [hkl]
 have HS1:Hid (Std wb q cap w0.heap.size w cur w.heap.size #[.int .i64 2,.int .i64 e,.int .i64 n,.slice A d.length c,.slice B kl c2] (w.alloc (.cells #[.int .i64 2,.int .i64 e,.int .i64 n,.slice A d.length c,.slice B kl c2] 39))):=Lib.hid ⟨ks_alloc (Keeps.refl _ _) _,h.alloc _,Blk.fresh _ _ _⟩
 obtain⟨pw,hpw⟩:∃pw,encW ⟨1,O,0,0,e,n,false,0,0,0⟩=pw:=⟨_,rfl⟩
 rw [hpw] at HPP
 have HEN:Hid (∀wc,Calls Tryz.prog 103 #[.agg #[.int .i64 1,.int .i64 O,.int .i64 0,.int .i64 0,.int .i64 e,.int .i64 n,.bool false,.int .i64 0,.int .u32 0,.int .u32 0]] wc fun r w'=>r=.returned (.int .u64 pw)∧Below wc.heap.size wc w'):=Lib.hid (fun wc=>by
  rw [←hpw]
  exact Wencoded_any 1 O 0 0 e n wc (lst_vld g1 g2 g3 g4 O hO1.1 hO1.2))
 clear hOO hx h hb hD hv hroom hq hcn hwb hne hvk hT hE hPW hpp hM hNB hps hfl hpl h7 h7' g1 g2 g3 g4 hkl hpw hO1
 generalize placeF cur a (.mk 2 e n d ks)=res at *
 go_enter Tryz.func84,Tryz.ntmps84
 go_wp2_with fail
 refine abs_code10 (F:=fun W=>Std wb q cap w0.heap.size w cur w.heap.size #[.int .i64 2,.int .i64 e,.int .i64 n,.slice A d.length c,.slice B kl c2] W) HS1.out ?_
 rintro W1 hs1
 clear HS1
 have HSd:Hid (∀wc,Below W1.drew.heap.size W1.drew wc→Std wb q cap w0.heap.size w cur w.heap.size #[.int .i64 2,.int .i64 e,.int .i64 n,.slice A d.length c,.slice B kl c2] wc):=Lib.hid (fun wc h=>hs1.below (bel_undrew13 h))
 clear hs1
 refine wp_region_n15k (by kernel_rfl) (by kernel_rfl) ?_
 refine n_val (u:=?_) [0] (by kernel_rfl) rfl (by kernel_rfl) trivial (fun ρ wc hbc hcn hk=>?_) ?_;rotate_left
 ·obtain⟨hcn,-⟩:=hcn
  simp at hk
  go_simp
  rfl
 refine n_val (u:=?_) [6] (by kernel_rfl) rfl (by kernel_rfl) trivial (fun ρ wc hbc hcn hk=>?_) ?_;rotate_left
 ·obtain⟨hcn,-⟩:=hcn
  simp at hk
  go_simp
  rfl
 refine n_val (u:=?_) [7] (by kernel_rfl) rfl (by kernel_rfl) trivial (fun ρ wc hbc hcn hk=>?_) ?_;rotate_left
 ·obtain⟨hcn,-⟩:=hcn
  simp at hk
  go_simp
  rfl
 refine n_val (u:=?_) [8] (by kernel_rfl) rfl (by kernel_rfl) trivial (fun ρ wc hbc hcn hk=>?_) ?_;rotate_left
 ·obtain⟨hcn,-⟩:=hcn
  simp at hk
  have x1:=(HSd.out wc hbc).wr.blk.cell
  have y1:=(HSd.out wc hbc).wr.blk.free
  go_simp
  rfl
 refine n_val (u:=?_) [1] (by kernel_rfl) rfl (by kernel_rfl) trivial (fun ρ wc hbc hcn hk=>?_) ?_;rotate_left
 ·obtain⟨hcn,-⟩:=hcn
  simp at hk
  go_simp
  rfl
 refine n_val (u:=?_) [0] (by kernel_rfl) rfl (by kernel_rfl) trivial (fun ρ wc hbc hcn hk=>?_) ?_;rotate_left
 ·obtain⟨hcn,-⟩:=hcn
  simp at hk
  go_simp
  rfl
 refine n_val (u:=?_) [1] (by kernel_rfl) rfl (by kernel_rfl) trivial (fun ρ wc hbc hcn hk=>?_) ?_;rotate_left
 ·obtain⟨hcn,-⟩:=hcn
  simp at hk
  go_simp
  rfl
 refine n_call (T:=Is (.int .i64 O)) 102 [11,12] (by kernel_rfl) rfl (by kernel_rfl) trivial (stable_is _) (fun ρ wc hbc hcn hk=>?_) ?_
 ·obtain⟨hcn,hfn⟩:=hcn
  simp at hk
  refine⟨_,by go_simp;rfl,?_⟩
  refine(Woffset_any wb q cap w0.heap.size a cur wc (HSd.out wc hbc).wr (by omega) (by omega) (by omega)).mono ?_
  rintro e w' ⟨rfl,rfl⟩
  exact⟨_,rfl,by rw [HOO.out];rfl,Below.refl _ _⟩
 refine n_val (u:=?_) [5] (by kernel_rfl) rfl (by kernel_rfl) trivial (fun ρ wc hbc hcn hk=>?_) ?_;rotate_left
 ·obtain⟨hcn,-⟩:=hcn
  simp at hk
  go_simp
  rfl
 refine n_val (u:=?_) [14] (by kernel_rfl) rfl (by kernel_rfl) trivial (fun ρ wc hbc hcn hk=>?_) ?_;rotate_left
 ·obtain⟨hcn,-⟩:=hcn
  simp at hk
  have x1:=(HSd.out wc hbc).box.cell
  go_simp
  rfl
 refine n_val (u:=?_) [5] (by kernel_rfl) rfl (by kernel_rfl) trivial (fun ρ wc hbc hcn hk=>?_) ?_;rotate_left
 ·obtain⟨hcn,-⟩:=hcn
  simp at hk
  go_simp
  rfl
 refine n_val (u:=?_) [16] (by kernel_rfl) rfl (by kernel_rfl) trivial (fun ρ wc hbc hcn hk=>?_) ?_;rotate_left
 ·obtain⟨hcn,-⟩:=hcn
  simp at hk
  have x1:=(HSd.out wc hbc).box.cell
  go_simp
  rfl
 refine n_val (u:=?_) [13,15,17] (by kernel_rfl) rfl (by kernel_rfl) trivial (fun ρ wc hbc hcn hk=>?_) ?_;rotate_left
 ·obtain⟨hcn,-⟩:=hcn
  simp at hk
  go_simp
  rfl
 refine n_call (T:=Is (.int .u64 pw)) 103 [18] (by kernel_rfl) rfl (by kernel_rfl) trivial (stable_is _) (fun ρ wc hbc hcn hk=>?_) ?_
 ·obtain⟨hcn,hfn⟩:=hcn
  simp at hk
  refine⟨_,by go_simp;rfl,?_⟩
  refine(HEN.out wc).mono ?_
  rintro e w' ⟨rfl,hbq⟩
  exact⟨_,rfl,rfl,hbq⟩
 refine n_val (u:=.pointer (some ⟨q,a,none⟩)) [9,10] (by kernel_rfl) rfl (by kernel_rfl) trivial (fun ρ wc hbc hcn hk=>?_) ?_
 ·obtain⟨hcn,-⟩:=hcn
  simp at hk
  go_simp
  try rfl
 refine a_end_lit 24 (by kernel_rfl) (fun ff w9 hb9 hk=>?_)
 simp [AllN] at hk
 simp only [frameL,hk,Nat.zero_add,Nat.reduceAdd]
 have HS9:=Lib.hid (HSd.out w9 (keeps_none hb9))
 clear hk hb9 HSd
 refine split_store (fun W=>Std wb q cap w0.heap.size w (cur.set a pw) w.heap.size #[.int .i64 2,.int .i64 e,.int .i64 n,.slice A d.length c,.slice B kl c2] W) rfl ?_ ?_
 ·have c9:=HS9.out.wr.got.cell a ha
  have f9:=HS9.out.wr.got.free a
  go_wp2
  exact⟨rfl,rfl,HS9.out.put HNE.out HNQ.out _ _⟩
 rename_i K2 hK2
 rintro W4 hs4
 refine hK2 _ _ ?_
 clear hK2 HS9
 have HS4:=Lib.hid hs4
 obtain⟨x4,y4,z4⟩:=hs4.box
 clear hs4
 go_wp2_with fail
 refine(HCO.out pw _ HS4.out.wr (HW.out _ HS4.out.keeps)).mono ?_
 rintro r w5 ⟨rfl,hk5,hw5⟩
 have HK5:=Lib.hid (HS4.out.keeps.trans hk5)
 rw [HPP.out] at hw5
 have HW5:=Lib.hid hw5
 clear hk5 hw5 x4 y4 z4 HS4
 go_wp2
 go_end0
 exact⟨rfl,HK5.out,HW5.out⟩
end
section
attribute [local simp] AllK KnowsV look Is
theorem wp_region_n17k {P:Program}{id:Nat}{o0 o1 o2 o3 o4 o5 o6 o7 o8 o9 o10 o11 o12 o13 o14 o15 o16 t:Oper}{Q:Exit→Act→World→Prop}{a:Act}{w:World}(hm:P.follows .mixedOrders=true)(hB:chainAB a.tmps.size [o0,o1,o2,o3,o4,o5,o6,o7,o8,o9,o10,o11,o12,o13,o14,o15,o16] t=true)
  (h:ChainA P #[o0,o1,o2,o3,o4,o5,o6,o7,o8,o9,o10,o11,o12,o13,o14,o15,o16,t] [o0,o1,o2,o3,o4,o5,o6,o7,o8,o9,o10,o11,o12,o13,o14,o15,o16] t 999 NoBlk a w.drew Q [o0,o1,o2,o3,o4,o5,o6,o7,o8,o9,o10,o11,o12,o13,o14,o15,o16] 0 [] []):(Code.region id #[o0,o1,o2,o3,o4,o5,o6,o7,o8,o9,o10,o11,o12,o13,o14,o15,o16,t] true).wp P Q a w:=
 wp_region_a [o0,o1,o2,o3,o4,o5,o6,o7,o8,o9,o10,o11,o12,o13,o14,o15,o16] t 999 NoBlk rfl hm hB h
theorem NdR.datX {w:World}{A:Option Addr}{c:Nat}{B:Option Addr}{c2:Nat}{x:Nd}(h:NdR w A c B c2 x):Ri w .u8 A x.d∧Bts x.d∧x.d.length≤c∧c≤maxLen∧(A=none→c=0):=by
 obtain⟨k,e,n,d,ks⟩:=x
 obtain⟨_,_,_,h4,h5,h6,h7,h8,_⟩:=h.open
 exact⟨h4,h5,h6,by unfold maxLen;omega,h8⟩
set_option maxHeartbeats 16000000 in
theorem Wcomp_any (w0:World)(wb q cap:Nat)(hwb:w0.heap.size≤wb)(hne:wb≠q)(hcap:cap≤268435456)(n:Int)(d:List Int)(ks:List Nd)(hs:sizeN (.mk 2 7 n d ks)≤1099511627776)(hv:validN (.mk 2 7 n d ks)=true)(hD:∀y∈kk ks,DispC w0 wb q cap y)(cur:List Int)(a:Nat)(A:Option Addr)(c:Nat)(B:Option Addr)(c2:Nat)(w:World)
  (hx:NdR w0 A c B c2 (.mk 2 7 n d ks)) (ha:a<cur.length) (hroom:(cur.length:Int)+canN (.mk 2 7 n d ks)≤cap) (h:Wr w wb q cap w0.heap.size cur) (hb:Below w0.heap.size w0 w) :
  Calls Tryz.prog 83 #[.pointer (some ⟨wb,0,none⟩),.int .i64 a,.agg #[.int .i64 2,.int .i64 7,.int .i64 n,.slice A d.length c,.slice B ks.length c2]] w fun r w'=>r=.returned (.tuple #[])∧Keeps (KS wb q) w w'∧Wr w' wb q cap w0.heap.size (placeF cur a (.mk 2 7 n d ks)):=by
 have hq:=h.q
 have hwlt:=h.blk.lt
 obtain⟨g1,g2,g3,g4,g5,-⟩:=head_lst hv
 obtain⟨g6,g7⟩:=g5 (by decide)
 subst g7
 have hT:targN (.mk 2 7 ks.length d ks)=kk ks:=by rw [targN_mk,if_pos ⟨rfl,rfl⟩]
 have hvk:∀y∈kk ks,validN y=true:=fun y hy=>valid_targ hv y (by rw [hT];exact hy)
 have hcn:=canK_nn hvk
 have hE:=canN_eq (.mk 2 7 ks.length d ks)
 have hO:=comp_canO hv
 rw [hT] at hE
 obtain⟨hu1,hu2⟩:=uni_bd hv
 have hfit:=comp_fit hv
 have hNB:¬KS wb q w.heap.size:=by unfold KS;omega
 have HNB:Hid (∀b,w.heap.size≤b→¬KS wb q b):=Lib.hid (fun b hb=>by unfold KS;omega)
 have HNQ:Hid (w.heap.size≠q):=Lib.hid (fun e=>hNB (.inr e))
 have HW:=Lib.hid (fun (W:World) (h:Keeps (KS wb q) w W)=>hb.trans (ks_below h hb.size hwb hq.1))
 have HNE:=Lib.hid hne
 have hal:(a:Int)<(cur.length:Int):=by omega
 have hcl:cur.length≤268435456:=by omega
 obtain⟨O,hOO⟩:∃O,O=(cur.length:Int)-a-1:=⟨_,rfl⟩
 have HOO:=Lib.hid hOO
 have hO1:-536870912≤O∧O≤536870911:=by omega
 have HTV:=Lib.hid (tag_vld hv)
 have HUN:=Lib.hid (fun W (h2:Below w0.heap.size w0 W)=>trimUniform_any (.mk 2 7 ks.length d ks) A c B c2 W (hx.on h2 (Nat.le_refl _)) hs)
 simp only [Nd.k,Nd.e,Nd.n,Nd.d,Nd.ks] at HUN
 have hst:=comp_start hv cur a
 have HST:=Lib.hid (fun i hi=>comp_step hv cur a i hi)
 have HEN:=Lib.hid (comp_end hv cur a)
 have HLE:=Lib.hid (fun i hi=>compG_length hv cur a i hi)
 have HEL:Hid (∀i,i≤ks.length→(elsO (uniD ks ks.length) (uniP ks ks.length) (ks.take i)).length=i*(uniD ks ks.length+uniP ks ks.length)):=Lib.hid (fun i hi=>by
  rw [elsO_length (fun y hy=>(hfit y (List.mem_of_mem_take hy)).1),List.length_take]
  congr 1
  omega)
 have HES:=Lib.hid (fun i hi=>elsO_take (uniD ks ks.length) (uniP ks ks.length) ks i hi)
 have HKE:Hid (∀j (hj:j<ks.length),(ks[j]).d.length % 8=0∧(ks[j]).d.length≤8*uniD ks ks.length∧(ks[j]).ks.length≤uniP ks ks.length∧(∀y∈(ks[j]).ks,DispC w0 wb q cap y)∧(∀y∈(ks[j]).ks,validN y=true)):=Lib.hid (fun j hj=>by
  have hm:=List.getElem_mem hj
  refine⟨?_,(hfit _ hm).1,(hfit _ hm).2,fun y hy=>hD y (List.mem_flatMap.2 ⟨_,hm,hy⟩),fun y hy=>hvk y (List.mem_flatMap.2 ⟨_,hm,hy⟩)⟩
  obtain⟨hvj,-⟩:=valid_mem hv hm
  have hk:=(valid_elem hv hm).1
  generalize ks[j]=y at *
  obtain⟨k',e',n',d',ks'⟩:=y
  simp only [Nd.k] at hk
  subst hk
  obtain⟨rfl,rfl,h8,-⟩:=head_str hvj
  exact h8)
 have HKS:=Lib.hid hx.kids
 have HC2:=Lib.hid hx.open.2.2.2.2.2.2.2.2.1
 have HKT:=Lib.hid (canKK_tk hvk)
 have HKK:=Lib.hid (fun i hi=>kk_take ks i hi)
 have hPW:ptrW (.mk 2 7 ks.length d ks) O=encW ⟨1,O,0,0,7,((ks.length*(uniD ks ks.length+uniP ks ks.length):Nat):Int),false,0,0,0⟩:=by
  rw [ptrW_lst14,if_pos rfl,hO]
  congr 2
  omega
 rw [←hOO,hPW] at hst
 obtain⟨pw,hpw⟩:∃pw,encW ⟨1,O,0,0,7,((ks.length*(uniD ks ks.length+uniP ks ks.length):Nat):Int),false,0,0,0⟩=pw:=⟨_,rfl⟩
 rw [hpw] at hst
 obtain⟨tg,htg⟩:∃tg,tagW ks.length (uniD ks ks.length) (uniP ks ks.length)=tg:=⟨_,rfl⟩
 rw [htg] at hst
 have HSTART:=Lib.hid hst
 have hcE:canO (.mk 2 7 ks.length d ks)≤268435456:=by omega
 have HE:Hid (canN (.mk 2 7 ks.length d ks)=canO (.mk 2 7 ks.length d ks)+canK (kk ks)):=Lib.hid hE
 have HRM:=Lib.hid hroom
 have HTG:Hid (∀wc,Calls Tryz.prog 103 #[.agg #[.int .i64 0,.int .i64 (ks.length:Nat),.int .i64 (uniD ks ks.length:Nat),.int .i64 (uniP ks ks.length:Nat),.int .i64 0,.int .i64 0,.bool false,.int .i64 0,.int .u32 0,.int .u32 0]] wc fun r w'=>r=.returned (.int .u64 tg)∧Below wc.heap.size wc w'):=Lib.hid (fun wc=>by
  rw [←htg]
  exact Wencoded_any 0 ks.length (uniD ks ks.length:Nat) (uniP ks ks.length:Nat) 0 0 wc HTV.out)
 have HPT:Hid (∀wc,Calls Tryz.prog 103 #[.agg #[.int .i64 1,.int .i64 O,.int .i64 0,.int .i64 0,.int .i64 7,.int .i64 ((ks.length*(uniD ks ks.length+uniP ks ks.length):Nat):Int),.bool false,.int .i64 0,.int .u32 0,.int .u32 0]] wc fun r w'=>r=.returned (.int .u64 pw)∧Below wc.heap.size wc w'):=Lib.hid (fun wc=>by
  rw [←hpw]
  exact Wencoded_any 1 O 0 0 7 _ wc (lst_vld (by omega) (by omega) (by decide) (by decide) O hO1.1 hO1.2))
 have HS1:Hid (Std wb q cap w0.heap.size w cur w.heap.size #[.int .i64 2,.int .i64 7,.int .i64 (ks.length:Nat),.slice A d.length c,.slice B ks.length c2] (w.alloc (.cells #[.int .i64 2,.int .i64 7,.int .i64 (ks.length:Nat),.slice A d.length c,.slice B ks.length c2] 39))):=Lib.hid ⟨ks_alloc (Keeps.refl _ _) _,h.alloc _,Blk.fresh _ _ _⟩
 have HDA:=Lib.hid (fun (A:Option Addr) (c:Nat) (b cu:List Int) (W:World) (g1:Ri w0 .u8 A b) (g2:Bts b) (g3:A=none→c=0) (g4:b.length≤c) (g5:c≤maxLen) (g6:cu.length+(b.length+7) / 8≤cap) (g7:Wr W wb q cap w0.heap.size cu) (g8:Below w0.heap.size w0 W)=>Wdata_any w0 wb q cap hwb hne (by omega) A c b cu W g1 g2 g3 g4 g5 g6 g7 g8)
 have HRF:=Lib.hid (fun (ts:List Nd) (B:Option Addr) (c:Nat) (W:World) (cu:List Int) (a:Nat) (g0:KsR w0 B ts) (g1:∀y∈ts,DispC w0 wb q cap y) (g2:∀y∈ts,validN y=true) (g3:ts.length≤c) (h1:Wr W wb q cap w0.heap.size cu) (h2:Below w0.heap.size w0 W) (h3:a+ts.length≤cu.length) (h4:(cu.length:Int)+canK ts≤cap)=>Wrefer_any w0 wb q cap hwb hq.1 hcap ts g1 g2 cu a B c W g3 (ReadS.of_ks g0 h2 hwb hq.1) h3 h4 h1 h2)
 have hkl:ks.length≤536870911:=by omega
 clear hOO hx h hb hD hv hroom hq hcn hwb hvk hT hE hPW hNB hfit hst hpw htg hne hO1 hs g1 g2 g3 g4 g5 g6
 generalize compG cur a (.mk 2 7 ks.length d ks)=cf at *
 generalize placeF cur a (.mk 2 7 ks.length d ks)=res at *
 generalize canO (.mk 2 7 ks.length d ks)=co at *
 generalize canN (.mk 2 7 ks.length d ks)=cn at *
 generalize uniD ks ks.length=X at *
 generalize uniP ks ks.length=P at *
 obtain⟨S,hS⟩:∃S,ks.length*(X+P)=S:=⟨_,rfl⟩
 rw [hS] at hO HPT
 have HMUL:Hid ((ks.length:Int)*((X:Int)+(P:Int))=(S:Int)):=Lib.hid (by rw [←hS];simp)
 have HSS:=Lib.hid hS
 have HCO:=Lib.hid hO
 have hS28:S≤268435456:=by omega
 clear hS hO
 go_enter Tryz.func83,Tryz.ntmps83
 go_wp2_with fail
 refine(HUN.out _ (HW.out _ HS1.out.keeps)).mono ?_
 rintro r w2 ⟨rfl,hb2⟩
 have HS2:=Lib.hid (HS1.out.below hb2)
 clear HS1 hb2
 go_wp2_with fail
 have HSd:Hid (∀wc,Below w2.drew.heap.size w2.drew wc→Std wb q cap w0.heap.size w cur w.heap.size #[.int .i64 2,.int .i64 7,.int .i64 (ks.length:Nat),.slice A d.length c,.slice B ks.length c2] wc):=Lib.hid (fun wc h=>HS2.out.below (bel_undrew13 h))
 clear HS2
 refine wp_region_n17k (by kernel_rfl) (by kernel_rfl) ?_
 refine n_val (u:=?_) [0] (by kernel_rfl) rfl (by kernel_rfl) trivial (fun ρ wc hbc hcn hk=>?_) ?_;rotate_left
 ·obtain⟨hcn,-⟩:=hcn
  simp at hk
  go_simp
  rfl
 refine n_val (u:=?_) [23] (by kernel_rfl) rfl (by kernel_rfl) trivial (fun ρ wc hbc hcn hk=>?_) ?_;rotate_left
 ·obtain⟨hcn,-⟩:=hcn
  simp at hk
  go_simp
  rfl
 refine n_val (u:=?_) [24] (by kernel_rfl) rfl (by kernel_rfl) trivial (fun ρ wc hbc hcn hk=>?_) ?_;rotate_left
 ·obtain⟨hcn,-⟩:=hcn
  simp at hk
  go_simp
  rfl
 refine n_val (u:=?_) [25] (by kernel_rfl) rfl (by kernel_rfl) trivial (fun ρ wc hbc hcn hk=>?_) ?_;rotate_left
 ·obtain⟨hcn,-⟩:=hcn
  simp at hk
  have x1:=(HSd.out wc hbc).wr.blk.cell
  have y1:=(HSd.out wc hbc).wr.blk.free
  go_simp
  rfl
 refine n_val (u:=?_) [1] (by kernel_rfl) rfl (by kernel_rfl) trivial (fun ρ wc hbc hcn hk=>?_) ?_;rotate_left
 ·obtain⟨hcn,-⟩:=hcn
  simp at hk
  go_simp
  rfl
 refine n_val (u:=?_) [0] (by kernel_rfl) rfl (by kernel_rfl) trivial (fun ρ wc hbc hcn hk=>?_) ?_;rotate_left
 ·obtain⟨hcn,-⟩:=hcn
  simp at hk
  go_simp
  rfl
 refine n_val (u:=?_) [1] (by kernel_rfl) rfl (by kernel_rfl) trivial (fun ρ wc hbc hcn hk=>?_) ?_;rotate_left
 ·obtain⟨hcn,-⟩:=hcn
  simp at hk
  go_simp
  rfl
 refine n_call (T:=Is (.int .i64 O)) 102 [28,29] (by kernel_rfl) rfl (by kernel_rfl) trivial (stable_is _) (fun ρ wc hbc hcn hk=>?_) ?_
 ·obtain⟨hcn,hfn⟩:=hcn
  simp at hk
  refine⟨_,by go_simp;rfl,?_⟩
  refine(Woffset_any wb q cap w0.heap.size a cur wc (HSd.out wc hbc).wr (by omega) (by omega) (by omega)).mono ?_
  rintro e w' ⟨rfl,rfl⟩
  exact⟨_,rfl,by rw [HOO.out];rfl,Below.refl _ _⟩
 refine n_val (u:=?_) [5] (by kernel_rfl) rfl (by kernel_rfl) trivial (fun ρ wc hbc hcn hk=>?_) ?_;rotate_left
 ·obtain⟨hcn,-⟩:=hcn
  simp at hk
  go_simp
  rfl
 refine n_val (u:=?_) [31] (by kernel_rfl) rfl (by kernel_rfl) trivial (fun ρ wc hbc hcn hk=>?_) ?_;rotate_left
 ·obtain⟨hcn,-⟩:=hcn
  simp at hk
  have x1:=(HSd.out wc hbc).box.cell
  go_simp
  rfl
 refine n_val (u:=?_) [5] (by kernel_rfl) rfl (by kernel_rfl) trivial (fun ρ wc hbc hcn hk=>?_) ?_;rotate_left
 ·obtain⟨hcn,-⟩:=hcn
  simp at hk
  go_simp
  rfl
 refine n_val (u:=?_) [33] (by kernel_rfl) rfl (by kernel_rfl) trivial (fun ρ wc hbc hcn hk=>?_) ?_;rotate_left
 ·obtain⟨hcn,-⟩:=hcn
  simp at hk
  have x1:=(HSd.out wc hbc).box.cell
  go_simp
  rfl
 refine n_val (u:=?_) [8] (by kernel_rfl) rfl (by kernel_rfl) trivial (fun ρ wc hbc hcn hk=>?_) ?_;rotate_left
 ·obtain⟨hcn,-⟩:=hcn
  simp at hk
  go_simp
  rfl
 refine n_val (u:=.int .i64 (S:Nat)) [34,35] (by kernel_rfl) rfl (by kernel_rfl) trivial (fun ρ wc hbc hcn hk=>?_) ?_
 ·obtain⟨hcn,-⟩:=hcn
  simp at hk
  have hm:=HMUL.out
  go_simp
  try rw [IntKind.wrap_i64]
  try rw [HMUL.out]
  try omega
 refine n_val (u:=?_) [30,32,36] (by kernel_rfl) rfl (by kernel_rfl) trivial (fun ρ wc hbc hcn hk=>?_) ?_;rotate_left
 ·obtain⟨hcn,-⟩:=hcn
  simp at hk
  go_simp
  rfl
 refine n_call (T:=Is (.int .u64 pw)) 103 [37] (by kernel_rfl) rfl (by kernel_rfl) trivial (stable_is _) (fun ρ wc hbc hcn hk=>?_) ?_
 ·obtain⟨hcn,hfn⟩:=hcn
  simp at hk
  refine⟨_,by go_simp;rfl,?_⟩
  refine(HPT.out wc).mono ?_
  rintro e w' ⟨rfl,hbq⟩
  exact⟨_,rfl,rfl,hbq⟩
 refine n_val (u:=.pointer (some ⟨q,a,none⟩)) [26,27] (by kernel_rfl) rfl (by kernel_rfl) trivial (fun ρ wc hbc hcn hk=>?_) ?_
 ·obtain⟨hcn,-⟩:=hcn
  simp at hk
  go_simp
  try rfl
 refine a_end_lit 101 (by kernel_rfl) (fun ff w9 hb9 hk=>?_)
 simp [AllN] at hk
 simp only [frameL,hk,Nat.zero_add,Nat.reduceAdd]
 have HS9:=Lib.hid (HSd.out w9 (keeps_none hb9))
 clear hk hb9 HSd
 refine split_store (fun W=>Std wb q cap w0.heap.size w (cur.set a pw) w.heap.size #[.int .i64 2,.int .i64 7,.int .i64 (ks.length:Nat),.slice A d.length c,.slice B ks.length c2] W) rfl ?_ ?_
 ·have c9:=HS9.out.wr.got.cell a ha
  have f9:=HS9.out.wr.got.free a
  go_wp2
  exact⟨rfl,rfl,HS9.out.put HNE.out HNQ.out _ _⟩
 rename_i K2 hK2
 rintro W4 hs4
 refine hK2 _ _ ?_
 clear hK2 HS9
 have HS4:=Lib.hid hs4
 obtain⟨x4,y4,z4⟩:=hs4.box
 clear hs4
 go_wp2_with fail
 refine(HTG.out _).mono ?_
 rintro r w5 ⟨rfl,hb5⟩
 have HS5:=Lib.hid (HS4.out.below hb5)
 clear hb5 x4 y4 z4 HS4 HTG HPT HUN HTV
 have hcw:(cur.set a pw).length=cur.length:=List.length_set
 have HCW:=Lib.hid hcw
 have HRM1:Hid ((cur.set a pw).length+1+S≤cap):=Lib.hid (by rw [hcw];have h1:=HE.out;have h2:=HRM.out;have h3:=HCO.out;have h4:=(HKT.out 0);omega)
 have hb0:(cur.set a pw++[tg]).length=cur.length+1:=by rw [List.length_append,hcw];rfl
 have HB0:=Lib.hid hb0
 clear hcw hb0
 generalize hcu:cur.set a pw=cu at *
 clear hcu
 obtain⟨x5,y5,z5⟩:=HS5.out.wr.blk
 obtain⟨p5,q5,r5⟩:=HS5.out.box
 go_wp2_with (at_builtin;refine wpList_wr1 rfl (.tmp 50) (.tmp 52) rfl HS5.out.wr HNE.out rfl rfl (by have h1:=HRM1.out;omega) ?_;intro w6 hg6 hb6 hk6;have HS6:Hid (Std wb q cap w0.heap.size w (cu++[tg]) w.heap.size #[.int .i64 2,.int .i64 7,.int .i64 (ks.length:Nat),.slice A d.length c,.slice B ks.length c2] (w6.setCell ⟨wb,0,none⟩ (.slice (some ⟨q,0,none⟩) (cu.length+1) cap))):=Lib.hid ⟨ks_set (HS5.out.keeps.trans hk6) (.inl (.inl rfl)) _,Wr.grow hg6 hb6 HNE.out (by simp),(HS5.out.box.keepsS hk6 (HNB.out _ (Nat.le_refl _))).other (fun e=>HNB.out _ (Nat.le_refl _) (.inl e.symm)) _⟩;obtain⟨x6,y6,z6⟩:=hb6;obtain⟨p6,q6,r6⟩:=HS5.out.box.keepsS hk6 (HNB.out _ (Nat.le_refl _));clear hg6 hk6 x5 y5 z5 p5 q5 r5)
 go_loopw [64] (fun i wr=>∃j:Nat,j≤ks.length∧i=.int .i64 j∧Std wb q cap w0.heap.size w ((cu++[tg])++elsO X P (ks.take j)) w.heap.size #[.int .i64 2,.int .i64 7,.int .i64 (ks.length:Nat),.slice A d.length c,.slice B ks.length c2] wr) (fun i _=>ks.length-(intOf i).toNat)
 case atStart=>exact⟨0,by omega,rfl,by simpa [elsO] using HS6.out⟩
 case round=>
  clear x6 y6 z6 p6 q6 r6 HS6
  obtain⟨j,hj,rfl,hstd⟩:=hrel
  by_cases hlt:j<ks.length
  ·have hlt':(j:Int)<(ks.length:Int):=by omega
   obtain⟨b,off,A',c',B',c2',rfl,k0,k1,k2,k3,k4,hnd⟩:=HKS.out.atIn (HW.out _ hstd.keeps) (Nat.le_refl _) hlt
   have hke:=HKE.out j hlt
   have hes:=HES.out j hlt
   have hel:=HEL.out j hj
   have hjs:j*(X+P)+(X+P)≤S:=by
    have h:=Nat.mul_le_mul_right (X+P) (show j+1≤ks.length by omega)
    rw [Nat.add_mul,Nat.one_mul,HSS.out] at h
    exact h
   generalize ks[j]=y at *
   obtain⟨hk8,hkd,hkp,-,-⟩:=hke
   have hdat:=hnd.datX
   have hcl2:((cu++[tg])++elsO X P (ks.take j)).length=cu.length+1+j*(X+P):=by rw [List.length_append,hel];simp
   have hpl:(padW y.d ((y.d.length+7) / 8)).length=(y.d.length+7) / 8:=padW_length (by omega)
   have hwe:(((cu++[tg])++elsO X P (ks.take j))++padW y.d ((y.d.length+7) / 8))++List.replicate (X+P-y.d.length / 8) 0=(cu++[tg])++elsO X P (ks.take (j+1)):=by
    rw [hes,List.append_assoc (_++_) (padW _ _),elem_words hk8 hkd,List.append_assoc (cu++[tg])]
   have hr1:=HRM1.out
   have hroom1:((cu++[tg])++elsO X P (ks.take j)).length+(y.d.length+7) / 8≤cap:=by omega
   have hroom2:(((cu++[tg])++elsO X P (ks.take j))++padW y.d ((y.d.length+7) / 8)).length+(X+P-y.d.length / 8)≤cap:=by
    rw [List.length_append,hpl]
    omega
   have HWE:=Lib.hid hwe
   have HR1:=Lib.hid hroom1
   have HR2:=Lib.hid hroom2
   have HI:Hid ((X:Int)+(P:Int)-(y.d.length:Int) / 8=((X+P-y.d.length / 8:Nat):Int)):=Lib.hid (by omega)
   have HDT:=Lib.hid hdat
   have hXb:(y.d.length:Int) / 8≤(X:Int):=by omega
   have hXc:(X:Int)+(P:Int)≤268435456:=by omega
   generalize hn1:(cu++[tg])++elsO X P (ks.take (j+1))=nx at *
   have HNX:=Lib.hid hn1
   clear hn1
   generalize (cu++[tg])++elsO X P (ks.take j)=cj at *
   have HS7:Hid (Std wb q cap w0.heap.size w cj w.heap.size #[.int .i64 2,.int .i64 7,.int .i64 (ks.length:Nat),.slice A d.length c,.slice (some ⟨b,off,none⟩) ks.length c2] (wr.alloc (.cells #[.int .i64 y.k,.int .i64 y.e,.int .i64 y.n,.slice A' y.d.length c',.slice B' y.ks.length c2'] 39))):=Lib.hid ⟨ks_alloc hstd.keeps _,hstd.wr.alloc _,hstd.box.alloc _⟩
   have HY7:=Lib.hid (Blk.fresh wr #[.int .i64 y.k,.int .i64 y.e,.int .i64 y.n,.slice A' y.d.length c',.slice B' y.ks.length c2'] 39)
   have HNY:Hid (¬KS wb q wr.heap.size):=Lib.hid (HNB.out _ hstd.keeps.size)
   clear hstd hdat hwe hroom1 hroom2 hcl2 hpl hes hel hk8 hkd hkp hnd hjs hr1
   go_wp2_with fail
   refine(HDA.out A' c' y.d cj _ HDT.out.1 HDT.out.2.1 HDT.out.2.2.2.2 HDT.out.2.2.1 HDT.out.2.2.2.1 HR1.out HS7.out.wr (HW.out _ HS7.out.keeps)).mono ?_
   rintro r w7 ⟨rfl,hk7,hw7⟩
   have HS8:Hid (Std wb q cap w0.heap.size w (cj++padW y.d ((y.d.length+7) / 8)) w.heap.size #[.int .i64 2,.int .i64 7,.int .i64 (ks.length:Nat),.slice A d.length c,.slice (some ⟨b,off,none⟩) ks.length c2] w7):=Lib.hid ⟨HS7.out.keeps.trans hk7,hw7,HS7.out.box.keepsS hk7 (HNB.out _ (Nat.le_refl _))⟩
   obtain⟨x7,y7,z7⟩:=HY7.out.keepsS hk7 HNY.out
   clear hk7 hw7 k0 k1 k2 k3 k4 HY7 HS7
   generalize padW y.d ((y.d.length+7) / 8)=pd at *
   go_wp2_with fail
   rw [HI.out]
   refine(Wzeros_any wb q cap w0.heap.size (X+P-y.d.length / 8) (cj++pd) w7 HS8.out.wr HNE.out HR2.out (by omega)).mono ?_
   rintro r w8 ⟨rfl,hk8,hw8⟩
   rw [HWE.out] at hw8
   have HS9:Hid (Std wb q cap w0.heap.size w nx w.heap.size #[.int .i64 2,.int .i64 7,.int .i64 (ks.length:Nat),.slice A d.length c,.slice (some ⟨b,off,none⟩) ks.length c2] w8):=Lib.hid ⟨HS8.out.keeps.trans hk8,hw8,HS8.out.box.keepsS hk8 (HNB.out _ (Nat.le_refl _))⟩
   clear hk8 hw8 x7 y7 z7 HS8
   go_wp2
   go_roundw
   case rel=>exact⟨j+1,by omega,by go_num,by rw [HNX.out];exact HS9.out⟩
   case measure=>simp [intOf];omega
  ·obtain rfl:j=ks.length:=by omega
   rw [List.take_length,HSTART.out] at hstd
   have HS7:=Lib.hid hstd
   obtain⟨x7,y7,z7⟩:=hstd.box
   clear hstd
   go_wp2
   go_loopw [84] (fun i wr=>∃j:Nat,j≤ks.length∧i=.int .i64 j∧Std wb q cap w0.heap.size w (cf j) w.heap.size #[.int .i64 2,.int .i64 7,.int .i64 (ks.length:Nat),.slice A d.length c,.slice B ks.length c2] wr) (fun i _=>ks.length-(intOf i).toNat)
   case atStart=>exact⟨0,by omega,rfl,HS7.out⟩
   case round=>
    clear x7 y7 z7 HS7
    obtain⟨j,hj,rfl,hstd⟩:=hrel
    by_cases hlt:j<ks.length
    ·have hlt':(j:Int)<(ks.length:Int):=by omega
     obtain⟨b,off,A',c',B',c2',rfl,k0,k1,k2,k3,k4,hnd⟩:=HKS.out.atIn (HW.out _ hstd.keeps) (Nat.le_refl _) hlt
     have hke:=HKE.out j hlt
     have hst:=HST.out j hlt
     have hle:=HLE.out j hj
     have hkk:=HKK.out j hlt
     have hkt:=HKT.out j
     have hkt1:=HKT.out (j+1)
     have hjs:j*(X+P)+(X+P)≤S:=by
      have h:=Nat.mul_le_mul_right (X+P) (show j+1≤ks.length by omega)
      rw [Nat.add_mul,Nat.one_mul,HSS.out] at h
      exact h
     have hmul0:(j:Int)*((X:Int)+(P:Int))=((j*(X+P):Nat):Int):=by simp
     generalize ks[j]=y at *
     obtain⟨-,-,hkp,hkD,hkV⟩:=hke
     rw [hkk,canK_append] at hkt1
     obtain⟨m,hm⟩:∃m,j*(X+P)=m:=⟨_,rfl⟩
     rw [hm] at hjs hmul0 hst
     have hr1:cur.length+1+m+X+y.ks.length≤(cf j).length:=by have h1:=HCO.out;omega
     have hr2:((cf j).length:Int)+canK y.ks≤cap:=by have h1:=HE.out;have h2:=HRM.out;omega
     have HR1:=Lib.hid hr1
     have HR2:=Lib.hid hr2
     have HSTJ:=Lib.hid hst
     have HKD:=Lib.hid hkD
     have HKV:=Lib.hid hkV
     have HKX:=Lib.hid hnd.kidsX
     have hmb:m≤268435456:=by omega
     have hcu28:cu.length≤268435456:=by rw [HCW.out];exact hcl
     have HI:Hid ((cu.length:Int)+1+(m:Int)+(X:Int)=((cur.length+1+m+X:Nat):Int)):=Lib.hid (by rw [HCW.out];omega)
     obtain⟨nx,hnx⟩:∃nx,cf (j+1)=nx:=⟨_,rfl⟩
     rw [hnx] at HSTJ
     have HNX:=Lib.hid hnx
     have HCJ:Hid (((cf j).length:Int)≤cap):=Lib.hid (by have h1:=HE.out;have h2:=HRM.out;omega)
     generalize cf j=cj at *
     have HS8:Hid (Std wb q cap w0.heap.size w cj w.heap.size #[.int .i64 2,.int .i64 7,.int .i64 (ks.length:Nat),.slice A d.length c,.slice (some ⟨b,off,none⟩) ks.length c2] (wr.alloc (.cells #[.int .i64 y.k,.int .i64 y.e,.int .i64 y.n,.slice A' y.d.length c',.slice B' y.ks.length c2'] 39))):=Lib.hid ⟨ks_alloc hstd.keeps _,hstd.wr.alloc _,hstd.box.alloc _⟩
     clear hstd hst hle hkk hkt hkt1 hkD hkV hnd hjs hr1 hr2 hm hnx
     go_wp2_with fail
     rw [HI.out]
     refine(HRF.out y.ks B' c2' _ cj _ HKX.out.1 HKD.out HKV.out HKX.out.2.2 HS8.out.wr (HW.out _ HS8.out.keeps) HR1.out HR2.out).mono ?_
     rintro r w9 ⟨rfl,hk9,hw9⟩
     rw [HSTJ.out] at hw9
     have HS9:Hid (Std wb q cap w0.heap.size w nx w.heap.size #[.int .i64 2,.int .i64 7,.int .i64 (ks.length:Nat),.slice A d.length c,.slice (some ⟨b,off,none⟩) ks.length c2] w9):=Lib.hid ⟨HS8.out.keeps.trans hk9,hw9,HS8.out.box.keepsS hk9 (HNB.out _ (Nat.le_refl _))⟩
     clear hk9 hw9 k0 k1 k2 k3 k4 HS8
     go_wp2
     go_roundw
     case rel=>exact⟨j+1,by omega,by go_num,by rw [HNX.out];exact HS9.out⟩
     case measure=>simp [intOf];omega
    ·obtain rfl:j=ks.length:=by omega
     rw [HEN.out] at hstd
     have HS8:=Lib.hid hstd
     clear hstd
     go_wp2
     go_end0
     exact⟨rfl,HS8.out.keeps,HS8.out.wr⟩
end
end Go.Proofs.YtbpmeppdjicmhaaGreatDoor
