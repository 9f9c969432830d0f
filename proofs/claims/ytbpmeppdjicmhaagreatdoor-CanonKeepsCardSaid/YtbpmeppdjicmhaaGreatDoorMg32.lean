/- The texts Ref12m (what is wanted of them), one after the other. -/
import Derived.Test.YtbpmeppdjicmhaaGreatDoorMg25
import Derived.Test.YtbpmeppdjicmhaaGreatDoorMg26
import Derived.Test.YtbpmeppdjicmhaaGreatDoorMg31
namespace Go.Proofs.YtbpmeppdjicmhaaGreatDoor
open Go.ChangeShapes Go.WideShapes Go.ChangeAt Go.RowKit
set_option linter.unusedVariables false
set_option linter.unusedSimpArgs false
set_option maxRecDepth 100000
section
attribute [local simp] AllK KnowsV look Is
def msgV (ls:List (List Int))(D X:Int):Nd×Int:=if 0<ls.length∧(seg ls 0).length=0 then (nd0,0) else if (valV ls D.toNat (startI X) 0 0).e≠0 then (nd0,(valV ls D.toNat (startI X) 0 0).e) else (trimN (valV ls D.toNat (startI X) 0 0).n,0)
set_option maxHeartbeats 8000000 in
set_option maxRecDepth 100000 in
theorem RefMessage12_some (A:Option Addr)(c:Nat)(ls:List (List Int))(D X O:Int)(hw:Wd2 ls)(hm:ls.length≤40)(hf:∀j,(seg ls j).length≤20000000)(hD:D≤900)(hX:X≤1000000)(w:World)(hs:Sg w A ls)(hz:¬(seg ls 0).length=0)(hl:0<ls.length):
  Calls Tryz.prog 14 #[.slice A ls.length c,.agg #[.int .i64 D,.int .i64 X,.int .i64 O]] w fun e w'=>∃v,e=.returned (.tuple #[v,.int .i64 (msgV ls D X).2])∧NodF w.heap.size (msgV ls D X).1 v w'∧Below w.heap.size w w':=by
 have hx0:0≤startI X∧startI X≤1000000:=by unfold startI;split<;>omega
 have Hs:=Lib.hid hs
 have HVC:=Lib.hid (fun w' hs'=>RefValue12 A c ls D X O hw hm hf hD D.toNat (startI X) 0 0 1 w' hs' hx0.1 (by omega) (by omega) (by omega) (by congr 1;omega))
 have HSZ:=Lib.hid (valV_size hw hm hf D.toNat (startI X) 0 0)
 have HVA:=Lib.hid (valV_valid hw hm hf D.toNat (startI X) 0 0)
 have HVM:=Lib.hid (valV_m hw hm hf D.toNat (startI X) 0 0 hx0.1)
 have HMS:Hid (msgV ls D X=if (valV ls D.toNat (startI X) 0 0).e≠0 then (nd0,(valV ls D.toNat (startI X) 0 0).e) else (trimN (valV ls D.toNat (startI X) 0 0).n,0)):=Lib.hid (by unfold msgV;rw [if_neg (by omega)])
 generalize valV ls D.toNat (startI X) 0 0=sv at *
 generalize msgV ls D X=mv at *
 obtain⟨b,off,A',c',rfl,hc,-,-,-,-⟩:=(((Hs.out.below ((Below.refl _ _).alloc (Nat.le_refl _) (.cells #[.int .i64 D,.int .i64 X,.int .i64 O] 24)) (Nat.le_refl _)).below ((Below.refl _ _).alloc (Nat.le_refl _) (.cells #[.int .i64 0,.int .i64 0,.int .i64 0,.slice none 0 0,.slice none 0 0] 39)) (Nat.le_refl _))).one hl
 simp only [Nat.add_zero] at hc
 have t1:decide ((0:Int)<ls.length)=true:=decide_eq_true (by omega)
 have t2:(((seg ls 0).length:Int)==0)=false:=beq_eq_false_iff_ne.2 (by omega)
 clear hs hw hf
 generalize (seg ls 0).length=l0 at *
 go_enter Tryz.func14,Tryz.ntmps14
 go_wp2_with fail
 refine abs_code10 (F:=fun W=>Blk W w.heap.size #[.int .i64 D,.int .i64 X,.int .i64 O]∧Blk W (w.heap.size+1) #[.int .i64 0,.int .i64 0,.int .i64 0,.slice none 0 0,.slice none 0 0]∧Below w.heap.size w W) ⟨?_,?_,?_⟩ ?_
 ·exact(Blk.fresh _ _ _).alloc _
 ·exact Blk.new (by simp)
 ·exact((Below.refl _ _).alloc (Nat.le_refl _) _).alloc (by simp) _
 rintro W ⟨h0,h1,hb⟩
 have K1:=Lib.hid h1
 have hz1:=h1.lt
 obtain⟨x0,y0,z0⟩:=h0
 refine wp_region_u11_3 [7,8] (by kernel_rfl) (by kernel_rfl) ?_
 refine u_val (u:=?_) [0] (by kernel_rfl) rfl (by kernel_rfl) (fun _=>trivial) (fun av ρ wc hbc hcn hq=>?_) ?_;rotate_left
 ·obtain⟨hcn,-⟩:=hcn
  simp at hq
  obtain⟨hcc,-⟩:=bcell hbc
  simp at hcc
  go_simp
  rfl
 refine u_val (u:=?_) [3] (by kernel_rfl) rfl (by kernel_rfl) (fun _=>trivial) (fun av ρ wc hbc hcn hq=>?_) ?_;rotate_left
 ·obtain⟨hcn,-⟩:=hcn
  simp at hq
  obtain⟨hcc,-⟩:=bcell hbc
  simp at hcc
  go_simp
  rfl
 refine u_val (u:=?_) [3] (by kernel_rfl) rfl (by kernel_rfl) (fun _=>trivial) (fun av ρ wc hbc hcn hq=>?_) ?_;rotate_left
 ·obtain⟨hcn,-⟩:=hcn
  simp at hq
  obtain⟨hcc,-⟩:=bcell hbc
  simp at hcc
  go_simp
  rfl
 refine u_call (T:=fun _=>Is (.agg #[.int .i64 (startI X)])) (Is (.agg #[.int .i64 (startI X)])) 27 [23] (by kernel_rfl) rfl (by kernel_rfl) (fun _=>trivial) (stableU_of (stable_is _)) (free_is _) (fun _ _ _ h=>h) (fun av ρ wc hav hbc hcn hq=>?_) ?_
 ·obtain⟨hcn,hfn⟩:=hcn
  simp at hq
  refine⟨_,by go_simp;rfl,?_⟩
  refine(RefStart_any D X O _).mono ?_
  rintro e w' ⟨rfl,hbq⟩
  exact⟨_,rfl,rfl,hbq⟩
 refine u_call (T:=Tup3Av W.heap.size sv.n (.agg #[.int .i64 sv.m]) (.int .i64 sv.e)) (Tup3W (.agg #[.int .i64 sv.m]) (.int .i64 sv.e)) 26 [21,22,24] (by kernel_rfl) rfl (by kernel_rfl) (fun _=>trivial) (stable_tup3Av _ _ _ _) (free_tup3W _ _) (fun _ _ _ h=>h.w) (fun av ρ wc hav hbc hcn hq=>?_) ?_
 ·obtain⟨hcn,hfn⟩:=hcn
  simp at hq
  refine⟨_,by go_simp;rfl,?_⟩
  refine(HVC.out wc (Hs.out.below (bel_on (bel_drew hb) hbc) (Nat.le_refl _))).mono ?_
  rintro e w' ⟨v,rfl,hn,hbq⟩
  exact⟨_,rfl,⟨v,rfl,NodAv.of hn hav hbc.size⟩,hbq⟩
 refine u_new (T:=Tup3Av W.heap.size sv.n (.agg #[.int .i64 sv.m]) (.int .i64 sv.e)) (Tup3W (.agg #[.int .i64 sv.m]) (.int .i64 sv.e)) [25] (by kernel_rfl) rfl (by kernel_rfl) (fun _=>trivial) (stable_tup3Av _ _ _ _) (free_tup3W _ _) (fun _ _ _ h=>h.w) (fun av ρ wc hav hbc hcn hq=>?_) ?_
 ·obtain⟨hcn,hfn⟩:=hcn
  simp at hq
  exact⟨ρ (.tmp 25),wc,by go_simp,hq,Below.refl _ _⟩
 refine u_new (T:=NodAv W.heap.size sv.n) Any [20] (by kernel_rfl) rfl (by kernel_rfl) (fun _=>trivial) (stable_nodAv _ _) free_any (fun _ _ _ _=>trivial) (fun av ρ wc hav hbc hcn hq=>?_) ?_
 ·obtain⟨hcn,hfn⟩:=hcn
  simp at hq
  obtain⟨x,hx,hn⟩:=hq
  exact⟨x,wc,by go_simp,hn,Below.refl _ _⟩
 refine u_pure (u:=.agg #[.int .i64 sv.m]) [20] (by kernel_rfl) rfl (by kernel_rfl) rfl (fun ρ wc hcn hq=>?_) ?_
 ·obtain⟨hcn,hfn⟩:=hcn
  simp at hq
  obtain⟨x,hx⟩:=hq
  go_simp
 refine u_pure (u:=.int .i64 sv.e) [20] (by kernel_rfl) rfl (by kernel_rfl) rfl (fun ρ wc hcn hq=>?_) ?_
 ·obtain⟨hcn,hfn⟩:=hcn
  simp at hq
  obtain⟨x,hx⟩:=hq
  go_simp
 refine u_alloc (T:=VarAv W.heap.size #[.int .i64 0,.int .i64 0,.int .i64 0,.slice none 0 0,.slice none 0 0]) Any [] (by kernel_rfl) rfl (by kernel_rfl) (fun _=>trivial) (stable_varAv _ _) free_any (fun _ _ _ _=>trivial) (fun av ρ wc hav hbc hcn hq=>?_) ?_
 ·obtain⟨hcn,-⟩:=hcn
  exact⟨.pointer (some ⟨wc.heap.size,0,none⟩),wc.alloc (.cells #[.int .i64 0,.int .i64 0,.int .i64 0,.slice none 0 0,.slice none 0 0] 39),by go_simp,⟨_,List.mem_cons_self ..,rfl,hbc.size,Blk.fresh _ _ _⟩,(Below.refl _ _).alloc (Nat.le_refl _) _,by simp⟩
 refine u_alloc (T:=VarAv W.heap.size #[.int .i64 0]) Any [] (by kernel_rfl) rfl (by kernel_rfl) (fun _=>trivial) (stable_varAv _ _) free_any (fun _ _ _ _=>trivial) (fun av ρ wc hav hbc hcn hq=>?_) ?_
 ·obtain⟨hcn,-⟩:=hcn
  exact⟨.pointer (some ⟨wc.heap.size,0,none⟩),wc.alloc (.cells #[.int .i64 0] 56),by go_simp,⟨_,List.mem_cons_self ..,rfl,hbc.size,Blk.fresh _ _ _⟩,(Below.refl _ _).alloc (Nat.le_refl _) _,by simp⟩
 refine u_end_lit 35 rfl (fun av ff w4 hav hb7 hq=>?_)
 have h26:NodAv W.heap.size sv.n av (ff 26) w4:=allN_atF hq 26 (by decide) (by decide)
 have h6:VarAv W.heap.size #[.int .i64 0,.int .i64 0,.int .i64 0,.slice none 0 0,.slice none 0 0] av (ff 6) w4:=allN_atF hq 6 (by decide) (by decide)
 have h7:VarAv W.heap.size #[.int .i64 0] av (ff 7) w4:=allN_atF hq 7 (by decide) (by decide)
 have hb4:Below W.heap.size W w4:=⟨hb7.os,hb7.tape,hb7.output,hb7.size,hb7.block⟩
 simp [AllN] at hq
 simp only [frameL,hq,Nat.zero_add,Nat.reduceAdd]
 clear hq hb7 x0 y0 z0
 obtain⟨Ak,ck,Bk,ek,lok,hik,e26,hlk,hhk,hok,hapart⟩:=h26
 obtain⟨b6,m6,e6,hb6,hv6⟩:=h6
 obtain⟨b7,m7,e7,hb7,hv7⟩:=h7
 have a6:=hapart b6 m6
 have a7:=hapart b7 m7
 generalize ff 20=u20
 generalize ff 25=u25
 generalize ff 26=u26 at *
 generalize ff 6=u6 at *
 generalize ff 7=u7 at *
 subst e26 e6 e7
 have n1:b6≠b7:=by
  rintro rfl
  have h1:=hv6.cell 1
  rw [hv7.cell 1] at h1
  simp at h1
 have n2:b7≠b6:=fun h=>n1 h.symm
 have k1:=h1.below hb4
 have K1:=Lib.hid k1
 have HB:=Lib.hid (bel_on hb hb4)
 have hsz4:=hb4.size
 have HNK:=Lib.hid hok
 have K6:=Lib.hid hv6
 have K7:=Lib.hid hv7
 clear h1 hb hb4 hok hapart m6 m7 hav
 obtain⟨x6,y6,z6⟩:=hv6
 obtain⟨x7,y7,z7⟩:=hv7
 obtain⟨x1,y1,z1⟩:=k1
 have n3:b6≠w.heap.size+1:=by omega
 have n4:b7≠w.heap.size+1:=by omega
 by_cases he:sv.e=0
 ·have HE:=Lib.hid he
  have t3:(sv.e != 0)=false:=by rw [he];rfl
  rw [if_neg (by rw [he];simp)] at HMS
  clear he
  go_wp2_with fail
  refine⟨rfl,?_⟩
  go_wp2_with fail
  refine abs_world (F:=fun V=>Blk V (w.heap.size+1) #[.int .i64 0,.int .i64 0,.int .i64 0,.slice none 0 0,.slice none 0 0]∧NdR V Ak ck Bk ek sv.n∧Below w.heap.size w V) ⟨?_,?_,?_⟩ ?_
  ·exact(((((K1.out.other (by simp;omega) _).other (by simp;omega) _).other (by simp;omega) _).other (by simp;omega) _).other (by simp;omega) _).other (by simp;omega) _
  ·refine(HNK.out.to fun g h1 h2=>?_).nd
   rw [Below.heap_setCell _ _ _ _ (by simp;omega),Below.heap_setCell _ _ _ _ (by simp;omega),Below.heap_setCell _ _ _ _ (by simp;omega),Below.heap_setCell _ _ _ _ (by simp;omega),Below.heap_setCell _ _ _ _ (by simp;omega),Below.heap_setCell _ _ _ _ (by simp;omega)]
  ·refine Below.setCell (Below.setCell (Below.setCell (Below.setCell (Below.setCell (Below.setCell HB.out ?_ _) ?_ _) ?_ _) ?_ _) ?_ _) ?_ _<;>(simp;omega)
  clear K1 HB HNK K6 K7 x6 y6 z6 x7 y7 z7 x1 y1 z1
  rintro V ⟨h1,hnk,hbv⟩
  refine(RefTrim11_node sv.n Ak ck Bk ek V hnk (by have:=HSZ.out;have:=HVM.out;omega) HVA.out).mono ?_
  rintro e V2 ⟨v,rfl,⟨At,ct,Bt,et,hit,rfl,hht,hot⟩,hbt⟩
  have B1:=h1.below hbt
  have HB:=Lib.hid (hbv.trans (hbt.mono hbv.size))
  have K1:=Lib.hid B1
  have hl1:=h1.lt
  have HOT:=Lib.hid hot
  clear h1 hnk hbv hbt hot
  obtain⟨x1,y1,z1⟩:=B1
  go_wp2_with fail
  refine abs_post (F:=fun U=>Blk U (w.heap.size+1) #[.int .i64 (trimN sv.n).k,.int .i64 (trimN sv.n).e,.int .i64 (trimN sv.n).n,.slice At (trimN sv.n).d.length ct,.slice Bt (trimN sv.n).ks.length et]∧NodF V.heap.size (trimN sv.n) (.agg #[.int .i64 (trimN sv.n).k,.int .i64 (trimN sv.n).e,.int .i64 (trimN sv.n).n,.slice At (trimN sv.n).d.length ct,.slice Bt (trimN sv.n).ks.length et]) U∧Below w.heap.size w U) ⟨?_,?_,?_⟩ ?_
  ·exact((((K1.out.set 0 (by simp) _).set 1 (by simp) _).set 2 (by simp) _).set 3 (by simp) _).set 4 (by simp) _
  ·refine⟨At,ct,Bt,et,hit,rfl,by simpa [World.setCell] using hht,HOT.out.to fun g h1 h2=>?_⟩
   rw [Below.heap_setCell _ _ _ _ (by simp;omega),Below.heap_setCell _ _ _ _ (by simp;omega),Below.heap_setCell _ _ _ _ (by simp;omega),Below.heap_setCell _ _ _ _ (by simp;omega),Below.heap_setCell _ _ _ _ (by simp;omega)]
  ·refine Below.setCell (Below.setCell (Below.setCell (Below.setCell (Below.setCell HB.out ?_ _) ?_ _) ?_ _) ?_ _) ?_ _<;>(simp)
  rintro U ⟨B6,hnt,hbw⟩
  exact bodyPost_ret (v:=.tuple #[.agg #[.int .i64 (trimN sv.n).k,.int .i64 (trimN sv.n).e,.int .i64 (trimN sv.n).n,.slice At (trimN sv.n).d.length ct,.slice Bt (trimN sv.n).ks.length et],.int .i64 0]) (by simp [results,Tryz.results14,go_sem,B6.cell]) rfl ⟨_,by rw [HMS.out],by rw [HMS.out];exact hnt.lower (by omega),hbw⟩
 ·have t3:(sv.e != 0)=true:=bne_iff_ne.2 he
  rw [if_pos he] at HMS
  clear he
  go_wp2_with fail
  refine⟨rfl,?_⟩
  go_wp2_with fail
  refine abs_post (F:=fun U=>Blk U (w.heap.size+1) #[.int .i64 0,.int .i64 0,.int .i64 0,.slice none 0 0,.slice none 0 0]∧Below w.heap.size w U) ⟨?_,?_⟩ ?_
  ·have h:=(((((K1.out.other (p:=⟨b6,0,none⟩) (by simp;omega) (.int .i64 sv.n.k)).other (p:=⟨b6,1,none⟩) (by simp;omega) (.int .i64 sv.n.e)).other (p:=⟨b6,2,none⟩) (by simp;omega) (.int .i64 sv.n.n)).other (p:=⟨b6,3,none⟩) (by simp;omega) (.slice Ak sv.n.d.length ck)).other (p:=⟨b6,4,none⟩) (by simp;omega) (.slice Bk sv.n.ks.length ek)).other (p:=⟨b7,0,none⟩) (by simp;omega) (.int .i64 sv.m)
   exact((((h.set 0 (by simp) _).set 1 (by simp) _).set 2 (by simp) _).set 3 (by simp) _).set 4 (by simp) _
  ·refine Below.setCell (Below.setCell (Below.setCell (Below.setCell (Below.setCell (Below.setCell (Below.setCell (Below.setCell (Below.setCell (Below.setCell (Below.setCell HB.out ?_ _) ?_ _) ?_ _) ?_ _) ?_ _) ?_ _) ?_ _) ?_ _) ?_ _) ?_ _) ?_ _<;>(simp;try omega)
  rintro U ⟨B6,hbw⟩
  exact bodyPost_ret (v:=.tuple #[.agg #[.int .i64 0,.int .i64 0,.int .i64 0,.slice none 0 0,.slice none 0 0],.int .i64 sv.e]) (by simp [results,Tryz.results14,go_sem,B6.cell]) rfl ⟨_,by rw [HMS.out],by rw [HMS.out];exact nod_zero _ _,hbw⟩
set_option maxHeartbeats 8000000 in
set_option maxRecDepth 100000 in
theorem RefMessage12_none (A:Option Addr)(c:Nat)(ls:List (List Int))(D X O:Int)(hw:Wd2 ls)(hm:ls.length≤40)(hf:∀j,(seg ls j).length≤20000000)(hD:D≤900)(hX:X≤1000000)(w:World)(hs:Sg w A ls)(hl:ls.length=0):
  Calls Tryz.prog 14 #[.slice A ls.length c,.agg #[.int .i64 D,.int .i64 X,.int .i64 O]] w fun e w'=>∃v,e=.returned (.tuple #[v,.int .i64 (msgV ls D X).2])∧NodF w.heap.size (msgV ls D X).1 v w'∧Below w.heap.size w w':=by
 have hx0:0≤startI X∧startI X≤1000000:=by unfold startI;split<;>omega
 have Hs:=Lib.hid hs
 have HVC:=Lib.hid (fun w' hs'=>RefValue12 A c ls D X O hw hm hf hD D.toNat (startI X) 0 0 1 w' hs' hx0.1 (by omega) (by omega) (by omega) (by congr 1;omega))
 have HSZ:=Lib.hid (valV_size hw hm hf D.toNat (startI X) 0 0)
 have HVA:=Lib.hid (valV_valid hw hm hf D.toNat (startI X) 0 0)
 have HVM:=Lib.hid (valV_m hw hm hf D.toNat (startI X) 0 0 hx0.1)
 have HMS:Hid (msgV ls D X=if (valV ls D.toNat (startI X) 0 0).e≠0 then (nd0,(valV ls D.toNat (startI X) 0 0).e) else (trimN (valV ls D.toNat (startI X) 0 0).n,0)):=Lib.hid (by unfold msgV;rw [if_neg (by omega)])
 generalize valV ls D.toNat (startI X) 0 0=sv at *
 generalize msgV ls D X=mv at *
 have t1:¬((0:Int)<ls.length):=by omega
 clear hs hw hf hl
 go_enter Tryz.func14,Tryz.ntmps14
 go_wp2_with fail
 refine abs_code10 (F:=fun W=>Blk W w.heap.size #[.int .i64 D,.int .i64 X,.int .i64 O]∧Blk W (w.heap.size+1) #[.int .i64 0,.int .i64 0,.int .i64 0,.slice none 0 0,.slice none 0 0]∧Below w.heap.size w W) ⟨?_,?_,?_⟩ ?_
 ·exact(Blk.fresh _ _ _).alloc _
 ·exact Blk.new (by simp)
 ·exact((Below.refl _ _).alloc (Nat.le_refl _) _).alloc (by simp) _
 rintro W ⟨h0,h1,hb⟩
 have K1:=Lib.hid h1
 have hz1:=h1.lt
 obtain⟨x0,y0,z0⟩:=h0
 refine wp_region_u11_3 [7,8] (by kernel_rfl) (by kernel_rfl) ?_
 refine u_val (u:=?_) [0] (by kernel_rfl) rfl (by kernel_rfl) (fun _=>trivial) (fun av ρ wc hbc hcn hq=>?_) ?_;rotate_left
 ·obtain⟨hcn,-⟩:=hcn
  simp at hq
  obtain⟨hcc,-⟩:=bcell hbc
  simp at hcc
  go_simp
  rfl
 refine u_val (u:=?_) [3] (by kernel_rfl) rfl (by kernel_rfl) (fun _=>trivial) (fun av ρ wc hbc hcn hq=>?_) ?_;rotate_left
 ·obtain⟨hcn,-⟩:=hcn
  simp at hq
  obtain⟨hcc,-⟩:=bcell hbc
  simp at hcc
  go_simp
  rfl
 refine u_val (u:=?_) [3] (by kernel_rfl) rfl (by kernel_rfl) (fun _=>trivial) (fun av ρ wc hbc hcn hq=>?_) ?_;rotate_left
 ·obtain⟨hcn,-⟩:=hcn
  simp at hq
  obtain⟨hcc,-⟩:=bcell hbc
  simp at hcc
  go_simp
  rfl
 refine u_call (T:=fun _=>Is (.agg #[.int .i64 (startI X)])) (Is (.agg #[.int .i64 (startI X)])) 27 [23] (by kernel_rfl) rfl (by kernel_rfl) (fun _=>trivial) (stableU_of (stable_is _)) (free_is _) (fun _ _ _ h=>h) (fun av ρ wc hav hbc hcn hq=>?_) ?_
 ·obtain⟨hcn,hfn⟩:=hcn
  simp at hq
  refine⟨_,by go_simp;rfl,?_⟩
  refine(RefStart_any D X O _).mono ?_
  rintro e w' ⟨rfl,hbq⟩
  exact⟨_,rfl,rfl,hbq⟩
 refine u_call (T:=Tup3Av W.heap.size sv.n (.agg #[.int .i64 sv.m]) (.int .i64 sv.e)) (Tup3W (.agg #[.int .i64 sv.m]) (.int .i64 sv.e)) 26 [21,22,24] (by kernel_rfl) rfl (by kernel_rfl) (fun _=>trivial) (stable_tup3Av _ _ _ _) (free_tup3W _ _) (fun _ _ _ h=>h.w) (fun av ρ wc hav hbc hcn hq=>?_) ?_
 ·obtain⟨hcn,hfn⟩:=hcn
  simp at hq
  refine⟨_,by go_simp;rfl,?_⟩
  refine(HVC.out wc (Hs.out.below (bel_on (bel_drew hb) hbc) (Nat.le_refl _))).mono ?_
  rintro e w' ⟨v,rfl,hn,hbq⟩
  exact⟨_,rfl,⟨v,rfl,NodAv.of hn hav hbc.size⟩,hbq⟩
 refine u_new (T:=Tup3Av W.heap.size sv.n (.agg #[.int .i64 sv.m]) (.int .i64 sv.e)) (Tup3W (.agg #[.int .i64 sv.m]) (.int .i64 sv.e)) [25] (by kernel_rfl) rfl (by kernel_rfl) (fun _=>trivial) (stable_tup3Av _ _ _ _) (free_tup3W _ _) (fun _ _ _ h=>h.w) (fun av ρ wc hav hbc hcn hq=>?_) ?_
 ·obtain⟨hcn,hfn⟩:=hcn
  simp at hq
  exact⟨ρ (.tmp 25),wc,by go_simp,hq,Below.refl _ _⟩
 refine u_new (T:=NodAv W.heap.size sv.n) Any [20] (by kernel_rfl) rfl (by kernel_rfl) (fun _=>trivial) (stable_nodAv _ _) free_any (fun _ _ _ _=>trivial) (fun av ρ wc hav hbc hcn hq=>?_) ?_
 ·obtain⟨hcn,hfn⟩:=hcn
  simp at hq
  obtain⟨x,hx,hn⟩:=hq
  exact⟨x,wc,by go_simp,hn,Below.refl _ _⟩
 refine u_pure (u:=.agg #[.int .i64 sv.m]) [20] (by kernel_rfl) rfl (by kernel_rfl) rfl (fun ρ wc hcn hq=>?_) ?_
 ·obtain⟨hcn,hfn⟩:=hcn
  simp at hq
  obtain⟨x,hx⟩:=hq
  go_simp
 refine u_pure (u:=.int .i64 sv.e) [20] (by kernel_rfl) rfl (by kernel_rfl) rfl (fun ρ wc hcn hq=>?_) ?_
 ·obtain⟨hcn,hfn⟩:=hcn
  simp at hq
  obtain⟨x,hx⟩:=hq
  go_simp
 refine u_alloc (T:=VarAv W.heap.size #[.int .i64 0,.int .i64 0,.int .i64 0,.slice none 0 0,.slice none 0 0]) Any [] (by kernel_rfl) rfl (by kernel_rfl) (fun _=>trivial) (stable_varAv _ _) free_any (fun _ _ _ _=>trivial) (fun av ρ wc hav hbc hcn hq=>?_) ?_
 ·obtain⟨hcn,-⟩:=hcn
  exact⟨.pointer (some ⟨wc.heap.size,0,none⟩),wc.alloc (.cells #[.int .i64 0,.int .i64 0,.int .i64 0,.slice none 0 0,.slice none 0 0] 39),by go_simp,⟨_,List.mem_cons_self ..,rfl,hbc.size,Blk.fresh _ _ _⟩,(Below.refl _ _).alloc (Nat.le_refl _) _,by simp⟩
 refine u_alloc (T:=VarAv W.heap.size #[.int .i64 0]) Any [] (by kernel_rfl) rfl (by kernel_rfl) (fun _=>trivial) (stable_varAv _ _) free_any (fun _ _ _ _=>trivial) (fun av ρ wc hav hbc hcn hq=>?_) ?_
 ·obtain⟨hcn,-⟩:=hcn
  exact⟨.pointer (some ⟨wc.heap.size,0,none⟩),wc.alloc (.cells #[.int .i64 0] 56),by go_simp,⟨_,List.mem_cons_self ..,rfl,hbc.size,Blk.fresh _ _ _⟩,(Below.refl _ _).alloc (Nat.le_refl _) _,by simp⟩
 refine u_end_lit 35 rfl (fun av ff w4 hav hb7 hq=>?_)
 have h26:NodAv W.heap.size sv.n av (ff 26) w4:=allN_atF hq 26 (by decide) (by decide)
 have h6:VarAv W.heap.size #[.int .i64 0,.int .i64 0,.int .i64 0,.slice none 0 0,.slice none 0 0] av (ff 6) w4:=allN_atF hq 6 (by decide) (by decide)
 have h7:VarAv W.heap.size #[.int .i64 0] av (ff 7) w4:=allN_atF hq 7 (by decide) (by decide)
 have hb4:Below W.heap.size W w4:=⟨hb7.os,hb7.tape,hb7.output,hb7.size,hb7.block⟩
 simp [AllN] at hq
 simp only [frameL,hq,Nat.zero_add,Nat.reduceAdd]
 clear hq hb7 x0 y0 z0
 obtain⟨Ak,ck,Bk,ek,lok,hik,e26,hlk,hhk,hok,hapart⟩:=h26
 obtain⟨b6,m6,e6,hb6,hv6⟩:=h6
 obtain⟨b7,m7,e7,hb7,hv7⟩:=h7
 have a6:=hapart b6 m6
 have a7:=hapart b7 m7
 generalize ff 20=u20
 generalize ff 25=u25
 generalize ff 26=u26 at *
 generalize ff 6=u6 at *
 generalize ff 7=u7 at *
 subst e26 e6 e7
 have n1:b6≠b7:=by
  rintro rfl
  have h1:=hv6.cell 1
  rw [hv7.cell 1] at h1
  simp at h1
 have n2:b7≠b6:=fun h=>n1 h.symm
 have k1:=h1.below hb4
 have K1:=Lib.hid k1
 have HB:=Lib.hid (bel_on hb hb4)
 have hsz4:=hb4.size
 have HNK:=Lib.hid hok
 have K6:=Lib.hid hv6
 have K7:=Lib.hid hv7
 clear h1 hb hb4 hok hapart m6 m7 hav
 obtain⟨x6,y6,z6⟩:=hv6
 obtain⟨x7,y7,z7⟩:=hv7
 obtain⟨x1,y1,z1⟩:=k1
 have n3:b6≠w.heap.size+1:=by omega
 have n4:b7≠w.heap.size+1:=by omega
 by_cases he:sv.e=0
 ·have HE:=Lib.hid he
  have t3:(sv.e != 0)=false:=by rw [he];rfl
  rw [if_neg (by rw [he];simp)] at HMS
  clear he
  go_wp2_with fail
  refine⟨rfl,?_⟩
  go_wp2_with fail
  refine abs_world (F:=fun V=>Blk V (w.heap.size+1) #[.int .i64 0,.int .i64 0,.int .i64 0,.slice none 0 0,.slice none 0 0]∧NdR V Ak ck Bk ek sv.n∧Below w.heap.size w V) ⟨?_,?_,?_⟩ ?_
  ·exact(((((K1.out.other (by simp;omega) _).other (by simp;omega) _).other (by simp;omega) _).other (by simp;omega) _).other (by simp;omega) _).other (by simp;omega) _
  ·refine(HNK.out.to fun g h1 h2=>?_).nd
   rw [Below.heap_setCell _ _ _ _ (by simp;omega),Below.heap_setCell _ _ _ _ (by simp;omega),Below.heap_setCell _ _ _ _ (by simp;omega),Below.heap_setCell _ _ _ _ (by simp;omega),Below.heap_setCell _ _ _ _ (by simp;omega),Below.heap_setCell _ _ _ _ (by simp;omega)]
  ·refine Below.setCell (Below.setCell (Below.setCell (Below.setCell (Below.setCell (Below.setCell HB.out ?_ _) ?_ _) ?_ _) ?_ _) ?_ _) ?_ _<;>(simp;omega)
  clear K1 HB HNK K6 K7 x6 y6 z6 x7 y7 z7 x1 y1 z1
  rintro V ⟨h1,hnk,hbv⟩
  refine(RefTrim11_node sv.n Ak ck Bk ek V hnk (by have:=HSZ.out;have:=HVM.out;omega) HVA.out).mono ?_
  rintro e V2 ⟨v,rfl,⟨At,ct,Bt,et,hit,rfl,hht,hot⟩,hbt⟩
  have B1:=h1.below hbt
  have HB:=Lib.hid (hbv.trans (hbt.mono hbv.size))
  have K1:=Lib.hid B1
  have hl1:=h1.lt
  have HOT:=Lib.hid hot
  clear h1 hnk hbv hbt hot
  obtain⟨x1,y1,z1⟩:=B1
  go_wp2_with fail
  refine abs_post (F:=fun U=>Blk U (w.heap.size+1) #[.int .i64 (trimN sv.n).k,.int .i64 (trimN sv.n).e,.int .i64 (trimN sv.n).n,.slice At (trimN sv.n).d.length ct,.slice Bt (trimN sv.n).ks.length et]∧NodF V.heap.size (trimN sv.n) (.agg #[.int .i64 (trimN sv.n).k,.int .i64 (trimN sv.n).e,.int .i64 (trimN sv.n).n,.slice At (trimN sv.n).d.length ct,.slice Bt (trimN sv.n).ks.length et]) U∧Below w.heap.size w U) ⟨?_,?_,?_⟩ ?_
  ·exact((((K1.out.set 0 (by simp) _).set 1 (by simp) _).set 2 (by simp) _).set 3 (by simp) _).set 4 (by simp) _
  ·refine⟨At,ct,Bt,et,hit,rfl,by simpa [World.setCell] using hht,HOT.out.to fun g h1 h2=>?_⟩
   rw [Below.heap_setCell _ _ _ _ (by simp;omega),Below.heap_setCell _ _ _ _ (by simp;omega),Below.heap_setCell _ _ _ _ (by simp;omega),Below.heap_setCell _ _ _ _ (by simp;omega),Below.heap_setCell _ _ _ _ (by simp;omega)]
  ·refine Below.setCell (Below.setCell (Below.setCell (Below.setCell (Below.setCell HB.out ?_ _) ?_ _) ?_ _) ?_ _) ?_ _<;>(simp)
  rintro U ⟨B6,hnt,hbw⟩
  exact bodyPost_ret (v:=.tuple #[.agg #[.int .i64 (trimN sv.n).k,.int .i64 (trimN sv.n).e,.int .i64 (trimN sv.n).n,.slice At (trimN sv.n).d.length ct,.slice Bt (trimN sv.n).ks.length et],.int .i64 0]) (by simp [results,Tryz.results14,go_sem,B6.cell]) rfl ⟨_,by rw [HMS.out],by rw [HMS.out];exact hnt.lower (by omega),hbw⟩
 ·have t3:(sv.e != 0)=true:=bne_iff_ne.2 he
  rw [if_pos he] at HMS
  clear he
  go_wp2_with fail
  refine⟨rfl,?_⟩
  go_wp2_with fail
  refine abs_post (F:=fun U=>Blk U (w.heap.size+1) #[.int .i64 0,.int .i64 0,.int .i64 0,.slice none 0 0,.slice none 0 0]∧Below w.heap.size w U) ⟨?_,?_⟩ ?_
  ·have h:=(((((K1.out.other (p:=⟨b6,0,none⟩) (by simp;omega) (.int .i64 sv.n.k)).other (p:=⟨b6,1,none⟩) (by simp;omega) (.int .i64 sv.n.e)).other (p:=⟨b6,2,none⟩) (by simp;omega) (.int .i64 sv.n.n)).other (p:=⟨b6,3,none⟩) (by simp;omega) (.slice Ak sv.n.d.length ck)).other (p:=⟨b6,4,none⟩) (by simp;omega) (.slice Bk sv.n.ks.length ek)).other (p:=⟨b7,0,none⟩) (by simp;omega) (.int .i64 sv.m)
   exact((((h.set 0 (by simp) _).set 1 (by simp) _).set 2 (by simp) _).set 3 (by simp) _).set 4 (by simp) _
  ·refine Below.setCell (Below.setCell (Below.setCell (Below.setCell (Below.setCell (Below.setCell (Below.setCell (Below.setCell (Below.setCell (Below.setCell (Below.setCell HB.out ?_ _) ?_ _) ?_ _) ?_ _) ?_ _) ?_ _) ?_ _) ?_ _) ?_ _) ?_ _) ?_ _<;>(simp;try omega)
  rintro U ⟨B6,hbw⟩
  exact bodyPost_ret (v:=.tuple #[.agg #[.int .i64 0,.int .i64 0,.int .i64 0,.slice none 0 0,.slice none 0 0],.int .i64 sv.e]) (by simp [results,Tryz.results14,go_sem,B6.cell]) rfl ⟨_,by rw [HMS.out],by rw [HMS.out];exact nod_zero _ _,hbw⟩
set_option maxRecDepth 100000 in
set_option maxHeartbeats 1000000 in
theorem RefMessage12_nul (A:Option Addr)(c:Nat)(ls:List (List Int))(D X O:Int)(w:World)(hs:Sg w A ls)(hz:(seg ls 0).length=0)(hl:0<ls.length):
  Calls Tryz.prog 14 #[.slice A ls.length c,.agg #[.int .i64 D,.int .i64 X,.int .i64 O]] w fun e w'=>∃v,e=.returned (.tuple #[v,.int .i64 (msgV ls D X).2])∧NodF w.heap.size (msgV ls D X).1 v w'∧Below w.heap.size w w':=by
 have HMS:Hid (msgV ls D X=(nd0,0)):=Lib.hid (by unfold msgV;rw [if_pos ⟨hl,hz⟩])
 generalize msgV ls D X=mv at *
 obtain⟨b,off,A',c',rfl,hc,-,-,-,-⟩:=(((hs.below ((Below.refl _ _).alloc (Nat.le_refl _) (.cells #[.int .i64 D,.int .i64 X,.int .i64 O] 24)) (Nat.le_refl _)).below ((Below.refl _ _).alloc (Nat.le_refl _) (.cells #[.int .i64 0,.int .i64 0,.int .i64 0,.slice none 0 0,.slice none 0 0] 39)) (Nat.le_refl _))).one hl
 simp only [Nat.add_zero] at hc
 have t1:decide ((0:Int)<ls.length)=true:=decide_eq_true (by omega)
 rw [hz] at hc
 clear hs hz
 go_enter Tryz.func14,Tryz.ntmps14
 go_wp2_with fail
 refine abs_post (F:=fun U=>Blk U (w.heap.size+1) #[.int .i64 0,.int .i64 0,.int .i64 0,.slice none 0 0,.slice none 0 0]∧Below w.heap.size w U) ⟨?_,?_⟩ ?_
 ·exact Blk.new (by simp)
 ·exact((Below.refl _ _).alloc (Nat.le_refl _) _).alloc (by simp) _
 rintro U ⟨B6,hbw⟩
 exact bodyPost_ret (v:=.tuple #[.agg #[.int .i64 0,.int .i64 0,.int .i64 0,.slice none 0 0,.slice none 0 0],.int .i64 0]) (by simp [results,Tryz.results14,go_sem,B6.cell]) rfl ⟨_,by rw [HMS.out],by rw [HMS.out];exact nod_zero _ _,hbw⟩
theorem RefMessage12 (A:Option Addr)(c:Nat)(ls:List (List Int))(D X O:Int)(w:World)(hs:Sg w A ls)(hw:Wd2 ls)(hm:ls.length≤40)(hf:∀j,(seg ls j).length≤20000000)(hD:D≤900)(hX:X≤1000000):
  Calls Tryz.prog 14 #[.slice A ls.length c,.agg #[.int .i64 D,.int .i64 X,.int .i64 O]] w fun e w'=>∃v,e=.returned (.tuple #[v,.int .i64 (msgV ls D X).2])∧NodF w.heap.size (msgV ls D X).1 v w'∧Below w.heap.size w w':=by
 by_cases hl:ls.length=0
 ·exact RefMessage12_none A c ls D X O hw hm hf hD hX w hs hl
 ·by_cases hz:(seg ls 0).length=0
  ·exact RefMessage12_nul A c ls D X O w hs hz (by omega)
  ·exact RefMessage12_some A c ls D X O hw hm hf hD hX w hs hz (by omega)
end
end Go.Proofs.YtbpmeppdjicmhaaGreatDoor
