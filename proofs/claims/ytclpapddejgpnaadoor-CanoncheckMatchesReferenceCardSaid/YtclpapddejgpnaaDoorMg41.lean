/- The texts Ref12m, DenM, Can2, Cost, CanonN, Chk10, Chk11, Byt (what is wanted of them), one after the other. -/
import Derived.Test.YtclpapddejgpnaaDoorMg19
import Derived.Test.YtclpapddejgpnaaDoorMg31
import Derived.Test.YtclpapddejgpnaaDoorMg40
namespace Go.Proofs.YtclpapddejgpnaaDoor
open Go.ChangeShapes Go.WideShapes Go.ChangeAt Go.RowKit
set_option linter.unusedVariables false
set_option linter.unusedSimpArgs false
set_option maxRecDepth 100000
section
attribute [local simp] AllK KnowsV look Is
def msgV (ls:List (List Int))(D X:Int):Nd×Int:=if 0<ls.length∧(seg ls 0).length=0 then (nd0,0) else if (valV ls D.toNat (startI X) 0 0).e≠0 then (nd0,(valV ls D.toNat (startI X) 0 0).e) else (trimN (valV ls D.toNat (startI X) 0 0).n,0)
set_option maxHeartbeats 8000000 in
set_option maxRecDepth 100000 in
theorem RefMessage12_some (A:Option Addr)(c:Nat)(ls:List (List Int))(D X O:Int)(hw:Wd2 ls)(hm:ls.length≤40)(hf:∀j,(seg ls j).length≤20000000)(hD:D≤900)(hX:X≤1000000)(w:World)(hs:Sg w A ls)(hz:¬(seg ls 0).length=0)(hl:0<ls.length):
  Calls Tryd.prog 16 #[.slice A ls.length c,.agg #[.int .i64 D,.int .i64 X,.int .i64 O]] w fun e w'=>∃v,e=.returned (.tuple #[v,.int .i64 (msgV ls D X).2])∧NodF w.heap.size (msgV ls D X).1 v w'∧Below w.heap.size w w':=by
 have hx0:0≤startI X∧startI X≤1000000:=by unfold startI;split<;>omega
 have Hs:=Lib.hid hs
 have HVC:=Lib.hid (fun w' hs'=>RefValue12 A c ls D X O hw hm hf hD D.toNat (startI X) 0 0 1 w' hs' hx0.1 (by omega) (by omega) (by omega) (by congr 1;omega))
 have HSZ:=Lib.hid (valV_size hw hm hf D.toNat (startI X) 0 0)
 have HVA:=Lib.hid (valV_valid hw hm hf D.toNat (startI X) 0 0)
 have HVM:=Lib.hid (valV_m hw hm hf D.toNat (startI X) 0 0 hx0.1)
 have HMS:Hid (msgV ls D X=if (valV ls D.toNat (startI X) 0 0).e≠0 then (nd0,(valV ls D.toNat (startI X) 0 0).e) else (trimN (valV ls D.toNat (startI X) 0 0).n,0)):=Lib.hid (by unfold msgV;rw [if_neg (by omega)])
 generalize valV ls D.toNat (startI X) 0 0=sv at *
 generalize msgV ls D X=mv at *
 obtain⟨b,off,A',c',rfl,hc,-,-,-,-⟩:=(((Hs.out.below ((Below.refl _ _).alloc (Nat.le_refl _) (.cells #[.int .i64 D,.int .i64 X,.int .i64 O] 24)) (Nat.le_refl _)).below ((Below.refl _ _).alloc (Nat.le_refl _) (.cells #[.int .i64 0,.int .i64 0,.int .i64 0,.slice none 0 0,.slice none 0 0] 37)) (Nat.le_refl _))).one hl
 simp only [Nat.add_zero] at hc
 have t1:decide ((0:Int)<ls.length)=true:=decide_eq_true (by omega)
 have t2:(((seg ls 0).length:Int)==0)=false:=beq_eq_false_iff_ne.2 (by omega)
 clear hs hw hf
 generalize (seg ls 0).length=l0 at *
 go_enter Tryd.func16,Tryd.ntmps16
 go_wp2_with fail
 refine abs_code10 (F:=fun W=>Blk W w.heap.size #[.int .i64 D,.int .i64 X,.int .i64 O]∧Blk W (w.heap.size+1) #[.int .i64 0,.int .i64 0,.int .i64 0,.slice none 0 0,.slice none 0 0]∧Below w.heap.size w W) ⟨?_,?_,?_⟩ ?_
 ·exact(Blk.fresh _ _ _).alloc _
 ·exact Blk.new (by simp)
 ·exact((Below.refl _ _).alloc (Nat.le_refl _) _).alloc (by simp) _
 rintro W ⟨h0,h1,hb⟩
 have K1:=Lib.hid h1
 have hz1:=h1.lt
 obtain⟨x0,y0,z0⟩:=h0
 refine wp_region_u11_3 [7,8] (by kernel_rfl) (by kernel_rfl) ?_
 refine u_val (u:=?_) [0] (by kernel_rfl) rfl (by kernel_rfl) (fun _=>trivial) (fun av ρ wc hbc hcn hq=>?_) ?_;rotate_left
 ·obtain⟨hcn,-⟩:=hcn
  simp at hq
  obtain⟨hcc,-⟩:=bcell hbc
  simp at hcc
  go_simp
  rfl
 refine u_val (u:=?_) [3] (by kernel_rfl) rfl (by kernel_rfl) (fun _=>trivial) (fun av ρ wc hbc hcn hq=>?_) ?_;rotate_left
 ·obtain⟨hcn,-⟩:=hcn
  simp at hq
  obtain⟨hcc,-⟩:=bcell hbc
  simp at hcc
  go_simp
  rfl
 refine u_val (u:=?_) [3] (by kernel_rfl) rfl (by kernel_rfl) (fun _=>trivial) (fun av ρ wc hbc hcn hq=>?_) ?_;rotate_left
 ·obtain⟨hcn,-⟩:=hcn
  simp at hq
  obtain⟨hcc,-⟩:=bcell hbc
  simp at hcc
  go_simp
  rfl
 refine u_call (T:=fun _=>Is (.agg #[.int .i64 (startI X)])) (Is (.agg #[.int .i64 (startI X)])) 27 [23] (by kernel_rfl) rfl (by kernel_rfl) (fun _=>trivial) (stableU_of (stable_is _)) (free_is _) (fun _ _ _ h=>h) (fun av ρ wc hav hbc hcn hq=>?_) ?_
 ·obtain⟨hcn,hfn⟩:=hcn
  simp at hq
  refine⟨_,by go_simp;rfl,?_⟩
  refine(RefStart_any D X O _).mono ?_
  rintro e w' ⟨rfl,hbq⟩
  exact⟨_,rfl,rfl,hbq⟩
 refine u_call (T:=Tup3Av W.heap.size sv.n (.agg #[.int .i64 sv.m]) (.int .i64 sv.e)) (Tup3W (.agg #[.int .i64 sv.m]) (.int .i64 sv.e)) 26 [21,22,24] (by kernel_rfl) rfl (by kernel_rfl) (fun _=>trivial) (stable_tup3Av _ _ _ _) (free_tup3W _ _) (fun _ _ _ h=>h.w) (fun av ρ wc hav hbc hcn hq=>?_) ?_
 ·obtain⟨hcn,hfn⟩:=hcn
  simp at hq
  refine⟨_,by go_simp;rfl,?_⟩
  refine(HVC.out wc (Hs.out.below (bel_on (bel_drew hb) hbc) (Nat.le_refl _))).mono ?_
  rintro e w' ⟨v,rfl,hn,hbq⟩
  exact⟨_,rfl,⟨v,rfl,NodAv.of hn hav hbc.size⟩,hbq⟩
 refine u_new (T:=Tup3Av W.heap.size sv.n (.agg #[.int .i64 sv.m]) (.int .i64 sv.e)) (Tup3W (.agg #[.int .i64 sv.m]) (.int .i64 sv.e)) [25] (by kernel_rfl) rfl (by kernel_rfl) (fun _=>trivial) (stable_tup3Av _ _ _ _) (free_tup3W _ _) (fun _ _ _ h=>h.w) (fun av ρ wc hav hbc hcn hq=>?_) ?_
 ·obtain⟨hcn,hfn⟩:=hcn
  simp at hq
  exact⟨ρ (.tmp 25),wc,by go_simp,hq,Below.refl _ _⟩
 refine u_new (T:=NodAv W.heap.size sv.n) Any [20] (by kernel_rfl) rfl (by kernel_rfl) (fun _=>trivial) (stable_nodAv _ _) free_any (fun _ _ _ _=>trivial) (fun av ρ wc hav hbc hcn hq=>?_) ?_
 ·obtain⟨hcn,hfn⟩:=hcn
  simp at hq
  obtain⟨x,hx,hn⟩:=hq
  exact⟨x,wc,by go_simp,hn,Below.refl _ _⟩
 refine u_pure (u:=.agg #[.int .i64 sv.m]) [20] (by kernel_rfl) rfl (by kernel_rfl) rfl (fun ρ wc hcn hq=>?_) ?_
 ·obtain⟨hcn,hfn⟩:=hcn
  simp at hq
  obtain⟨x,hx⟩:=hq
  go_simp
 refine u_pure (u:=.int .i64 sv.e) [20] (by kernel_rfl) rfl (by kernel_rfl) rfl (fun ρ wc hcn hq=>?_) ?_
 ·obtain⟨hcn,hfn⟩:=hcn
  simp at hq
  obtain⟨x,hx⟩:=hq
  go_simp
 refine u_alloc (T:=VarAv W.heap.size #[.int .i64 0,.int .i64 0,.int .i64 0,.slice none 0 0,.slice none 0 0]) Any [] (by kernel_rfl) rfl (by kernel_rfl) (fun _=>trivial) (stable_varAv _ _) free_any (fun _ _ _ _=>trivial) (fun av ρ wc hav hbc hcn hq=>?_) ?_
 ·obtain⟨hcn,-⟩:=hcn
  exact⟨.pointer (some ⟨wc.heap.size,0,none⟩),wc.alloc (.cells #[.int .i64 0,.int .i64 0,.int .i64 0,.slice none 0 0,.slice none 0 0] 37),by go_simp,⟨_,List.mem_cons_self ..,rfl,hbc.size,Blk.fresh _ _ _⟩,(Below.refl _ _).alloc (Nat.le_refl _) _,by simp⟩
 refine u_alloc (T:=VarAv W.heap.size #[.int .i64 0]) Any [] (by kernel_rfl) rfl (by kernel_rfl) (fun _=>trivial) (stable_varAv _ _) free_any (fun _ _ _ _=>trivial) (fun av ρ wc hav hbc hcn hq=>?_) ?_
 ·obtain⟨hcn,-⟩:=hcn
  exact⟨.pointer (some ⟨wc.heap.size,0,none⟩),wc.alloc (.cells #[.int .i64 0] 51),by go_simp,⟨_,List.mem_cons_self ..,rfl,hbc.size,Blk.fresh _ _ _⟩,(Below.refl _ _).alloc (Nat.le_refl _) _,by simp⟩
 refine u_end_lit 35 rfl (fun av ff w4 hav hb7 hq=>?_)
 have h26:NodAv W.heap.size sv.n av (ff 26) w4:=allN_atF hq 26 (by decide) (by decide)
 have h6:VarAv W.heap.size #[.int .i64 0,.int .i64 0,.int .i64 0,.slice none 0 0,.slice none 0 0] av (ff 6) w4:=allN_atF hq 6 (by decide) (by decide)
 have h7:VarAv W.heap.size #[.int .i64 0] av (ff 7) w4:=allN_atF hq 7 (by decide) (by decide)
 have hb4:Below W.heap.size W w4:=⟨hb7.os,hb7.tape,hb7.output,hb7.size,hb7.block⟩
 simp [AllN] at hq
 simp only [frameL,hq,Nat.zero_add,Nat.reduceAdd]
 clear hq hb7 x0 y0 z0
 obtain⟨Ak,ck,Bk,ek,lok,hik,e26,hlk,hhk,hok,hapart⟩:=h26
 obtain⟨b6,m6,e6,hb6,hv6⟩:=h6
 obtain⟨b7,m7,e7,hb7,hv7⟩:=h7
 have a6:=hapart b6 m6
 have a7:=hapart b7 m7
 generalize ff 20=u20
 generalize ff 25=u25
 generalize ff 26=u26 at *
 generalize ff 6=u6 at *
 generalize ff 7=u7 at *
 subst e26 e6 e7
 have n1:b6≠b7:=by
  rintro rfl
  have h1:=hv6.cell 1
  rw [hv7.cell 1] at h1
  simp at h1
 have n2:b7≠b6:=fun h=>n1 h.symm
 have k1:=h1.below hb4
 have K1:=Lib.hid k1
 have HB:=Lib.hid (bel_on hb hb4)
 have hsz4:=hb4.size
 have HNK:=Lib.hid hok
 have K6:=Lib.hid hv6
 have K7:=Lib.hid hv7
 clear h1 hb hb4 hok hapart m6 m7 hav
 obtain⟨x6,y6,z6⟩:=hv6
 obtain⟨x7,y7,z7⟩:=hv7
 obtain⟨x1,y1,z1⟩:=k1
 have n3:b6≠w.heap.size+1:=by omega
 have n4:b7≠w.heap.size+1:=by omega
 by_cases he:sv.e=0
 ·have HE:=Lib.hid he
  have t3:(sv.e != 0)=false:=by rw [he];rfl
  rw [if_neg (by rw [he];simp)] at HMS
  clear he
  go_wp2_with fail
  refine⟨rfl,?_⟩
  go_wp2_with fail
  refine abs_world (F:=fun V=>Blk V (w.heap.size+1) #[.int .i64 0,.int .i64 0,.int .i64 0,.slice none 0 0,.slice none 0 0]∧NdR V Ak ck Bk ek sv.n∧Below w.heap.size w V) ⟨?_,?_,?_⟩ ?_
  ·exact(((((K1.out.other (by simp;omega) _).other (by simp;omega) _).other (by simp;omega) _).other (by simp;omega) _).other (by simp;omega) _).other (by simp;omega) _
  ·refine(HNK.out.to fun g h1 h2=>?_).nd
   rw [Below.heap_setCell _ _ _ _ (by simp;omega),Below.heap_setCell _ _ _ _ (by simp;omega),Below.heap_setCell _ _ _ _ (by simp;omega),Below.heap_setCell _ _ _ _ (by simp;omega),Below.heap_setCell _ _ _ _ (by simp;omega),Below.heap_setCell _ _ _ _ (by simp;omega)]
  ·refine Below.setCell (Below.setCell (Below.setCell (Below.setCell (Below.setCell (Below.setCell HB.out ?_ _) ?_ _) ?_ _) ?_ _) ?_ _) ?_ _<;>(simp;omega)
  clear K1 HB HNK K6 K7 x6 y6 z6 x7 y7 z7 x1 y1 z1
  rintro V ⟨h1,hnk,hbv⟩
  refine(RefTrim11_node sv.n Ak ck Bk ek V hnk (by have:=HSZ.out;have:=HVM.out;omega) HVA.out).mono ?_
  rintro e V2 ⟨v,rfl,⟨At,ct,Bt,et,hit,rfl,hht,hot⟩,hbt⟩
  have B1:=h1.below hbt
  have HB:=Lib.hid (hbv.trans (hbt.mono hbv.size))
  have K1:=Lib.hid B1
  have hl1:=h1.lt
  have HOT:=Lib.hid hot
  clear h1 hnk hbv hbt hot
  obtain⟨x1,y1,z1⟩:=B1
  go_wp2_with fail
  refine abs_post (F:=fun U=>Blk U (w.heap.size+1) #[.int .i64 (trimN sv.n).k,.int .i64 (trimN sv.n).e,.int .i64 (trimN sv.n).n,.slice At (trimN sv.n).d.length ct,.slice Bt (trimN sv.n).ks.length et]∧NodF V.heap.size (trimN sv.n) (.agg #[.int .i64 (trimN sv.n).k,.int .i64 (trimN sv.n).e,.int .i64 (trimN sv.n).n,.slice At (trimN sv.n).d.length ct,.slice Bt (trimN sv.n).ks.length et]) U∧Below w.heap.size w U) ⟨?_,?_,?_⟩ ?_
  ·exact((((K1.out.set 0 (by simp) _).set 1 (by simp) _).set 2 (by simp) _).set 3 (by simp) _).set 4 (by simp) _
  ·refine⟨At,ct,Bt,et,hit,rfl,by simpa [World.setCell] using hht,HOT.out.to fun g h1 h2=>?_⟩
   rw [Below.heap_setCell _ _ _ _ (by simp;omega),Below.heap_setCell _ _ _ _ (by simp;omega),Below.heap_setCell _ _ _ _ (by simp;omega),Below.heap_setCell _ _ _ _ (by simp;omega),Below.heap_setCell _ _ _ _ (by simp;omega)]
  ·refine Below.setCell (Below.setCell (Below.setCell (Below.setCell (Below.setCell HB.out ?_ _) ?_ _) ?_ _) ?_ _) ?_ _<;>(simp)
  rintro U ⟨B6,hnt,hbw⟩
  exact bodyPost_ret (v:=.tuple #[.agg #[.int .i64 (trimN sv.n).k,.int .i64 (trimN sv.n).e,.int .i64 (trimN sv.n).n,.slice At (trimN sv.n).d.length ct,.slice Bt (trimN sv.n).ks.length et],.int .i64 0]) (by simp [results,Tryd.results16,go_sem,B6.cell]) rfl ⟨_,by rw [HMS.out],by rw [HMS.out];exact hnt.lower (by omega),hbw⟩
 ·have t3:(sv.e != 0)=true:=bne_iff_ne.2 he
  rw [if_pos he] at HMS
  clear he
  go_wp2_with fail
  refine⟨rfl,?_⟩
  go_wp2_with fail
  refine abs_post (F:=fun U=>Blk U (w.heap.size+1) #[.int .i64 0,.int .i64 0,.int .i64 0,.slice none 0 0,.slice none 0 0]∧Below w.heap.size w U) ⟨?_,?_⟩ ?_
  ·have h:=(((((K1.out.other (p:=⟨b6,0,none⟩) (by simp;omega) (.int .i64 sv.n.k)).other (p:=⟨b6,1,none⟩) (by simp;omega) (.int .i64 sv.n.e)).other (p:=⟨b6,2,none⟩) (by simp;omega) (.int .i64 sv.n.n)).other (p:=⟨b6,3,none⟩) (by simp;omega) (.slice Ak sv.n.d.length ck)).other (p:=⟨b6,4,none⟩) (by simp;omega) (.slice Bk sv.n.ks.length ek)).other (p:=⟨b7,0,none⟩) (by simp;omega) (.int .i64 sv.m)
   exact((((h.set 0 (by simp) _).set 1 (by simp) _).set 2 (by simp) _).set 3 (by simp) _).set 4 (by simp) _
  ·refine Below.setCell (Below.setCell (Below.setCell (Below.setCell (Below.setCell (Below.setCell (Below.setCell (Below.setCell (Below.setCell (Below.setCell (Below.setCell HB.out ?_ _) ?_ _) ?_ _) ?_ _) ?_ _) ?_ _) ?_ _) ?_ _) ?_ _) ?_ _) ?_ _<;>(simp;try omega)
  rintro U ⟨B6,hbw⟩
  exact bodyPost_ret (v:=.tuple #[.agg #[.int .i64 0,.int .i64 0,.int .i64 0,.slice none 0 0,.slice none 0 0],.int .i64 sv.e]) (by simp [results,Tryd.results16,go_sem,B6.cell]) rfl ⟨_,by rw [HMS.out],by rw [HMS.out];exact nod_zero _ _,hbw⟩
set_option maxHeartbeats 8000000 in
set_option maxRecDepth 100000 in
theorem RefMessage12_none (A:Option Addr)(c:Nat)(ls:List (List Int))(D X O:Int)(hw:Wd2 ls)(hm:ls.length≤40)(hf:∀j,(seg ls j).length≤20000000)(hD:D≤900)(hX:X≤1000000)(w:World)(hs:Sg w A ls)(hl:ls.length=0):
  Calls Tryd.prog 16 #[.slice A ls.length c,.agg #[.int .i64 D,.int .i64 X,.int .i64 O]] w fun e w'=>∃v,e=.returned (.tuple #[v,.int .i64 (msgV ls D X).2])∧NodF w.heap.size (msgV ls D X).1 v w'∧Below w.heap.size w w':=by
 have hx0:0≤startI X∧startI X≤1000000:=by unfold startI;split<;>omega
 have Hs:=Lib.hid hs
 have HVC:=Lib.hid (fun w' hs'=>RefValue12 A c ls D X O hw hm hf hD D.toNat (startI X) 0 0 1 w' hs' hx0.1 (by omega) (by omega) (by omega) (by congr 1;omega))
 have HSZ:=Lib.hid (valV_size hw hm hf D.toNat (startI X) 0 0)
 have HVA:=Lib.hid (valV_valid hw hm hf D.toNat (startI X) 0 0)
 have HVM:=Lib.hid (valV_m hw hm hf D.toNat (startI X) 0 0 hx0.1)
 have HMS:Hid (msgV ls D X=if (valV ls D.toNat (startI X) 0 0).e≠0 then (nd0,(valV ls D.toNat (startI X) 0 0).e) else (trimN (valV ls D.toNat (startI X) 0 0).n,0)):=Lib.hid (by unfold msgV;rw [if_neg (by omega)])
 generalize valV ls D.toNat (startI X) 0 0=sv at *
 generalize msgV ls D X=mv at *
 have t1:¬((0:Int)<ls.length):=by omega
 clear hs hw hf hl
 go_enter Tryd.func16,Tryd.ntmps16
 go_wp2_with fail
 refine abs_code10 (F:=fun W=>Blk W w.heap.size #[.int .i64 D,.int .i64 X,.int .i64 O]∧Blk W (w.heap.size+1) #[.int .i64 0,.int .i64 0,.int .i64 0,.slice none 0 0,.slice none 0 0]∧Below w.heap.size w W) ⟨?_,?_,?_⟩ ?_
 ·exact(Blk.fresh _ _ _).alloc _
 ·exact Blk.new (by simp)
 ·exact((Below.refl _ _).alloc (Nat.le_refl _) _).alloc (by simp) _
 rintro W ⟨h0,h1,hb⟩
 have K1:=Lib.hid h1
 have hz1:=h1.lt
 obtain⟨x0,y0,z0⟩:=h0
 refine wp_region_u11_3 [7,8] (by kernel_rfl) (by kernel_rfl) ?_
 refine u_val (u:=?_) [0] (by kernel_rfl) rfl (by kernel_rfl) (fun _=>trivial) (fun av ρ wc hbc hcn hq=>?_) ?_;rotate_left
 ·obtain⟨hcn,-⟩:=hcn
  simp at hq
  obtain⟨hcc,-⟩:=bcell hbc
  simp at hcc
  go_simp
  rfl
 refine u_val (u:=?_) [3] (by kernel_rfl) rfl (by kernel_rfl) (fun _=>trivial) (fun av ρ wc hbc hcn hq=>?_) ?_;rotate_left
 ·obtain⟨hcn,-⟩:=hcn
  simp at hq
  obtain⟨hcc,-⟩:=bcell hbc
  simp at hcc
  go_simp
  rfl
 refine u_val (u:=?_) [3] (by kernel_rfl) rfl (by kernel_rfl) (fun _=>trivial) (fun av ρ wc hbc hcn hq=>?_) ?_;rotate_left
 ·obtain⟨hcn,-⟩:=hcn
  simp at hq
  obtain⟨hcc,-⟩:=bcell hbc
  simp at hcc
  go_simp
  rfl
 refine u_call (T:=fun _=>Is (.agg #[.int .i64 (startI X)])) (Is (.agg #[.int .i64 (startI X)])) 27 [23] (by kernel_rfl) rfl (by kernel_rfl) (fun _=>trivial) (stableU_of (stable_is _)) (free_is _) (fun _ _ _ h=>h) (fun av ρ wc hav hbc hcn hq=>?_) ?_
 ·obtain⟨hcn,hfn⟩:=hcn
  simp at hq
  refine⟨_,by go_simp;rfl,?_⟩
  refine(RefStart_any D X O _).mono ?_
  rintro e w' ⟨rfl,hbq⟩
  exact⟨_,rfl,rfl,hbq⟩
 refine u_call (T:=Tup3Av W.heap.size sv.n (.agg #[.int .i64 sv.m]) (.int .i64 sv.e)) (Tup3W (.agg #[.int .i64 sv.m]) (.int .i64 sv.e)) 26 [21,22,24] (by kernel_rfl) rfl (by kernel_rfl) (fun _=>trivial) (stable_tup3Av _ _ _ _) (free_tup3W _ _) (fun _ _ _ h=>h.w) (fun av ρ wc hav hbc hcn hq=>?_) ?_
 ·obtain⟨hcn,hfn⟩:=hcn
  simp at hq
  refine⟨_,by go_simp;rfl,?_⟩
  refine(HVC.out wc (Hs.out.below (bel_on (bel_drew hb) hbc) (Nat.le_refl _))).mono ?_
  rintro e w' ⟨v,rfl,hn,hbq⟩
  exact⟨_,rfl,⟨v,rfl,NodAv.of hn hav hbc.size⟩,hbq⟩
 refine u_new (T:=Tup3Av W.heap.size sv.n (.agg #[.int .i64 sv.m]) (.int .i64 sv.e)) (Tup3W (.agg #[.int .i64 sv.m]) (.int .i64 sv.e)) [25] (by kernel_rfl) rfl (by kernel_rfl) (fun _=>trivial) (stable_tup3Av _ _ _ _) (free_tup3W _ _) (fun _ _ _ h=>h.w) (fun av ρ wc hav hbc hcn hq=>?_) ?_
 ·obtain⟨hcn,hfn⟩:=hcn
  simp at hq
  exact⟨ρ (.tmp 25),wc,by go_simp,hq,Below.refl _ _⟩
 refine u_new (T:=NodAv W.heap.size sv.n) Any [20] (by kernel_rfl) rfl (by kernel_rfl) (fun _=>trivial) (stable_nodAv _ _) free_any (fun _ _ _ _=>trivial) (fun av ρ wc hav hbc hcn hq=>?_) ?_
 ·obtain⟨hcn,hfn⟩:=hcn
  simp at hq
  obtain⟨x,hx,hn⟩:=hq
  exact⟨x,wc,by go_simp,hn,Below.refl _ _⟩
 refine u_pure (u:=.agg #[.int .i64 sv.m]) [20] (by kernel_rfl) rfl (by kernel_rfl) rfl (fun ρ wc hcn hq=>?_) ?_
 ·obtain⟨hcn,hfn⟩:=hcn
  simp at hq
  obtain⟨x,hx⟩:=hq
  go_simp
 refine u_pure (u:=.int .i64 sv.e) [20] (by kernel_rfl) rfl (by kernel_rfl) rfl (fun ρ wc hcn hq=>?_) ?_
 ·obtain⟨hcn,hfn⟩:=hcn
  simp at hq
  obtain⟨x,hx⟩:=hq
  go_simp
 refine u_alloc (T:=VarAv W.heap.size #[.int .i64 0,.int .i64 0,.int .i64 0,.slice none 0 0,.slice none 0 0]) Any [] (by kernel_rfl) rfl (by kernel_rfl) (fun _=>trivial) (stable_varAv _ _) free_any (fun _ _ _ _=>trivial) (fun av ρ wc hav hbc hcn hq=>?_) ?_
 ·obtain⟨hcn,-⟩:=hcn
  exact⟨.pointer (some ⟨wc.heap.size,0,none⟩),wc.alloc (.cells #[.int .i64 0,.int .i64 0,.int .i64 0,.slice none 0 0,.slice none 0 0] 37),by go_simp,⟨_,List.mem_cons_self ..,rfl,hbc.size,Blk.fresh _ _ _⟩,(Below.refl _ _).alloc (Nat.le_refl _) _,by simp⟩
 refine u_alloc (T:=VarAv W.heap.size #[.int .i64 0]) Any [] (by kernel_rfl) rfl (by kernel_rfl) (fun _=>trivial) (stable_varAv _ _) free_any (fun _ _ _ _=>trivial) (fun av ρ wc hav hbc hcn hq=>?_) ?_
 ·obtain⟨hcn,-⟩:=hcn
  exact⟨.pointer (some ⟨wc.heap.size,0,none⟩),wc.alloc (.cells #[.int .i64 0] 51),by go_simp,⟨_,List.mem_cons_self ..,rfl,hbc.size,Blk.fresh _ _ _⟩,(Below.refl _ _).alloc (Nat.le_refl _) _,by simp⟩
 refine u_end_lit 35 rfl (fun av ff w4 hav hb7 hq=>?_)
 have h26:NodAv W.heap.size sv.n av (ff 26) w4:=allN_atF hq 26 (by decide) (by decide)
 have h6:VarAv W.heap.size #[.int .i64 0,.int .i64 0,.int .i64 0,.slice none 0 0,.slice none 0 0] av (ff 6) w4:=allN_atF hq 6 (by decide) (by decide)
 have h7:VarAv W.heap.size #[.int .i64 0] av (ff 7) w4:=allN_atF hq 7 (by decide) (by decide)
 have hb4:Below W.heap.size W w4:=⟨hb7.os,hb7.tape,hb7.output,hb7.size,hb7.block⟩
 simp [AllN] at hq
 simp only [frameL,hq,Nat.zero_add,Nat.reduceAdd]
 clear hq hb7 x0 y0 z0
 obtain⟨Ak,ck,Bk,ek,lok,hik,e26,hlk,hhk,hok,hapart⟩:=h26
 obtain⟨b6,m6,e6,hb6,hv6⟩:=h6
 obtain⟨b7,m7,e7,hb7,hv7⟩:=h7
 have a6:=hapart b6 m6
 have a7:=hapart b7 m7
 generalize ff 20=u20
 generalize ff 25=u25
 generalize ff 26=u26 at *
 generalize ff 6=u6 at *
 generalize ff 7=u7 at *
 subst e26 e6 e7
 have n1:b6≠b7:=by
  rintro rfl
  have h1:=hv6.cell 1
  rw [hv7.cell 1] at h1
  simp at h1
 have n2:b7≠b6:=fun h=>n1 h.symm
 have k1:=h1.below hb4
 have K1:=Lib.hid k1
 have HB:=Lib.hid (bel_on hb hb4)
 have hsz4:=hb4.size
 have HNK:=Lib.hid hok
 have K6:=Lib.hid hv6
 have K7:=Lib.hid hv7
 clear h1 hb hb4 hok hapart m6 m7 hav
 obtain⟨x6,y6,z6⟩:=hv6
 obtain⟨x7,y7,z7⟩:=hv7
 obtain⟨x1,y1,z1⟩:=k1
 have n3:b6≠w.heap.size+1:=by omega
 have n4:b7≠w.heap.size+1:=by omega
 by_cases he:sv.e=0
 ·have HE:=Lib.hid he
  have t3:(sv.e != 0)=false:=by rw [he];rfl
  rw [if_neg (by rw [he];simp)] at HMS
  clear he
  go_wp2_with fail
  refine⟨rfl,?_⟩
  go_wp2_with fail
  refine abs_world (F:=fun V=>Blk V (w.heap.size+1) #[.int .i64 0,.int .i64 0,.int .i64 0,.slice none 0 0,.slice none 0 0]∧NdR V Ak ck Bk ek sv.n∧Below w.heap.size w V) ⟨?_,?_,?_⟩ ?_
  ·exact(((((K1.out.other (by simp;omega) _).other (by simp;omega) _).other (by simp;omega) _).other (by simp;omega) _).other (by simp;omega) _).other (by simp;omega) _
  ·refine(HNK.out.to fun g h1 h2=>?_).nd
   rw [Below.heap_setCell _ _ _ _ (by simp;omega),Below.heap_setCell _ _ _ _ (by simp;omega),Below.heap_setCell _ _ _ _ (by simp;omega),Below.heap_setCell _ _ _ _ (by simp;omega),Below.heap_setCell _ _ _ _ (by simp;omega),Below.heap_setCell _ _ _ _ (by simp;omega)]
  ·refine Below.setCell (Below.setCell (Below.setCell (Below.setCell (Below.setCell (Below.setCell HB.out ?_ _) ?_ _) ?_ _) ?_ _) ?_ _) ?_ _<;>(simp;omega)
  clear K1 HB HNK K6 K7 x6 y6 z6 x7 y7 z7 x1 y1 z1
  rintro V ⟨h1,hnk,hbv⟩
  refine(RefTrim11_node sv.n Ak ck Bk ek V hnk (by have:=HSZ.out;have:=HVM.out;omega) HVA.out).mono ?_
  rintro e V2 ⟨v,rfl,⟨At,ct,Bt,et,hit,rfl,hht,hot⟩,hbt⟩
  have B1:=h1.below hbt
  have HB:=Lib.hid (hbv.trans (hbt.mono hbv.size))
  have K1:=Lib.hid B1
  have hl1:=h1.lt
  have HOT:=Lib.hid hot
  clear h1 hnk hbv hbt hot
  obtain⟨x1,y1,z1⟩:=B1
  go_wp2_with fail
  refine abs_post (F:=fun U=>Blk U (w.heap.size+1) #[.int .i64 (trimN sv.n).k,.int .i64 (trimN sv.n).e,.int .i64 (trimN sv.n).n,.slice At (trimN sv.n).d.length ct,.slice Bt (trimN sv.n).ks.length et]∧NodF V.heap.size (trimN sv.n) (.agg #[.int .i64 (trimN sv.n).k,.int .i64 (trimN sv.n).e,.int .i64 (trimN sv.n).n,.slice At (trimN sv.n).d.length ct,.slice Bt (trimN sv.n).ks.length et]) U∧Below w.heap.size w U) ⟨?_,?_,?_⟩ ?_
  ·exact((((K1.out.set 0 (by simp) _).set 1 (by simp) _).set 2 (by simp) _).set 3 (by simp) _).set 4 (by simp) _
  ·refine⟨At,ct,Bt,et,hit,rfl,by simpa [World.setCell] using hht,HOT.out.to fun g h1 h2=>?_⟩
   rw [Below.heap_setCell _ _ _ _ (by simp;omega),Below.heap_setCell _ _ _ _ (by simp;omega),Below.heap_setCell _ _ _ _ (by simp;omega),Below.heap_setCell _ _ _ _ (by simp;omega),Below.heap_setCell _ _ _ _ (by simp;omega)]
  ·refine Below.setCell (Below.setCell (Below.setCell (Below.setCell (Below.setCell HB.out ?_ _) ?_ _) ?_ _) ?_ _) ?_ _<;>(simp)
  rintro U ⟨B6,hnt,hbw⟩
  exact bodyPost_ret (v:=.tuple #[.agg #[.int .i64 (trimN sv.n).k,.int .i64 (trimN sv.n).e,.int .i64 (trimN sv.n).n,.slice At (trimN sv.n).d.length ct,.slice Bt (trimN sv.n).ks.length et],.int .i64 0]) (by simp [results,Tryd.results16,go_sem,B6.cell]) rfl ⟨_,by rw [HMS.out],by rw [HMS.out];exact hnt.lower (by omega),hbw⟩
 ·have t3:(sv.e != 0)=true:=bne_iff_ne.2 he
  rw [if_pos he] at HMS
  clear he
  go_wp2_with fail
  refine⟨rfl,?_⟩
  go_wp2_with fail
  refine abs_post (F:=fun U=>Blk U (w.heap.size+1) #[.int .i64 0,.int .i64 0,.int .i64 0,.slice none 0 0,.slice none 0 0]∧Below w.heap.size w U) ⟨?_,?_⟩ ?_
  ·have h:=(((((K1.out.other (p:=⟨b6,0,none⟩) (by simp;omega) (.int .i64 sv.n.k)).other (p:=⟨b6,1,none⟩) (by simp;omega) (.int .i64 sv.n.e)).other (p:=⟨b6,2,none⟩) (by simp;omega) (.int .i64 sv.n.n)).other (p:=⟨b6,3,none⟩) (by simp;omega) (.slice Ak sv.n.d.length ck)).other (p:=⟨b6,4,none⟩) (by simp;omega) (.slice Bk sv.n.ks.length ek)).other (p:=⟨b7,0,none⟩) (by simp;omega) (.int .i64 sv.m)
   exact((((h.set 0 (by simp) _).set 1 (by simp) _).set 2 (by simp) _).set 3 (by simp) _).set 4 (by simp) _
  ·refine Below.setCell (Below.setCell (Below.setCell (Below.setCell (Below.setCell (Below.setCell (Below.setCell (Below.setCell (Below.setCell (Below.setCell (Below.setCell HB.out ?_ _) ?_ _) ?_ _) ?_ _) ?_ _) ?_ _) ?_ _) ?_ _) ?_ _) ?_ _) ?_ _<;>(simp;try omega)
  rintro U ⟨B6,hbw⟩
  exact bodyPost_ret (v:=.tuple #[.agg #[.int .i64 0,.int .i64 0,.int .i64 0,.slice none 0 0,.slice none 0 0],.int .i64 sv.e]) (by simp [results,Tryd.results16,go_sem,B6.cell]) rfl ⟨_,by rw [HMS.out],by rw [HMS.out];exact nod_zero _ _,hbw⟩
set_option maxRecDepth 100000 in
set_option maxHeartbeats 1000000 in
theorem RefMessage12_nul (A:Option Addr)(c:Nat)(ls:List (List Int))(D X O:Int)(w:World)(hs:Sg w A ls)(hz:(seg ls 0).length=0)(hl:0<ls.length):
  Calls Tryd.prog 16 #[.slice A ls.length c,.agg #[.int .i64 D,.int .i64 X,.int .i64 O]] w fun e w'=>∃v,e=.returned (.tuple #[v,.int .i64 (msgV ls D X).2])∧NodF w.heap.size (msgV ls D X).1 v w'∧Below w.heap.size w w':=by
 have HMS:Hid (msgV ls D X=(nd0,0)):=Lib.hid (by unfold msgV;rw [if_pos ⟨hl,hz⟩])
 generalize msgV ls D X=mv at *
 obtain⟨b,off,A',c',rfl,hc,-,-,-,-⟩:=(((hs.below ((Below.refl _ _).alloc (Nat.le_refl _) (.cells #[.int .i64 D,.int .i64 X,.int .i64 O] 24)) (Nat.le_refl _)).below ((Below.refl _ _).alloc (Nat.le_refl _) (.cells #[.int .i64 0,.int .i64 0,.int .i64 0,.slice none 0 0,.slice none 0 0] 37)) (Nat.le_refl _))).one hl
 simp only [Nat.add_zero] at hc
 have t1:decide ((0:Int)<ls.length)=true:=decide_eq_true (by omega)
 rw [hz] at hc
 clear hs hz
 go_enter Tryd.func16,Tryd.ntmps16
 go_wp2_with fail
 refine abs_post (F:=fun U=>Blk U (w.heap.size+1) #[.int .i64 0,.int .i64 0,.int .i64 0,.slice none 0 0,.slice none 0 0]∧Below w.heap.size w U) ⟨?_,?_⟩ ?_
 ·exact Blk.new (by simp)
 ·exact((Below.refl _ _).alloc (Nat.le_refl _) _).alloc (by simp) _
 rintro U ⟨B6,hbw⟩
 exact bodyPost_ret (v:=.tuple #[.agg #[.int .i64 0,.int .i64 0,.int .i64 0,.slice none 0 0,.slice none 0 0],.int .i64 0]) (by simp [results,Tryd.results16,go_sem,B6.cell]) rfl ⟨_,by rw [HMS.out],by rw [HMS.out];exact nod_zero _ _,hbw⟩
theorem RefMessage12 (A:Option Addr)(c:Nat)(ls:List (List Int))(D X O:Int)(w:World)(hs:Sg w A ls)(hw:Wd2 ls)(hm:ls.length≤40)(hf:∀j,(seg ls j).length≤20000000)(hD:D≤900)(hX:X≤1000000):
  Calls Tryd.prog 16 #[.slice A ls.length c,.agg #[.int .i64 D,.int .i64 X,.int .i64 O]] w fun e w'=>∃v,e=.returned (.tuple #[v,.int .i64 (msgV ls D X).2])∧NodF w.heap.size (msgV ls D X).1 v w'∧Below w.heap.size w w':=by
 by_cases hl:ls.length=0
 ·exact RefMessage12_none A c ls D X O hw hm hf hD hX w hs hl
 ·by_cases hz:(seg ls 0).length=0
  ·exact RefMessage12_nul A c ls D X O w hs hz (by omega)
  ·exact RefMessage12_some A c ls D X O hw hm hf hD hX w hs hz (by omega)
end
section
def nulM (ls:List (List Int)):Prop:=0<ls.length∧(seg ls 0).length=0
section
variable {ls:List (List Int)} (hw:Wd2 ls) (hm:ls.length≤40) (hf:∀j,(seg ls j).length≤20000000) (D X:Int)
theorem startI_bd (X:Int):0≤startI X:=by unfold startI;split<;>omega
include hw hm hf
theorem msg_valid:validN (msgV ls D X).1=true∧trimmedN (msgV ls D X).1=true∧depthN (msgV ls D X).1≤D.toNat:=by
 have h0:validN nd0=true∧trimmedN nd0=true∧depthN nd0≤D.toNat:=⟨by decide,by decide,Nat.zero_le _⟩
 unfold msgV
 split
 ·exact h0
 ·split
  ·exact h0
  ·have hv:=valV_valid hw hm hf D.toNat (startI X) 0 0
   refine⟨valid_trim _ hv,trimmed_trim _ hv,?_⟩
   rw [depth_trim]
   exact valV_depth hw hm hf _ _ _ _
theorem msg_size:(sizeN (msgV ls D X).1:Int)≤1+10*startI X:=by
 have h0:(sizeN nd0:Int)=1:=by decide
 have h1:=startI_bd X
 unfold msgV
 split
 ·show (sizeN nd0:Int)≤_;omega
 ·split
  ·show (sizeN nd0:Int)≤_;omega
  ·have hs:=(valV_size hw hm hf D.toNat (startI X) 0 0).2
   have hv:=valV_m hw hm hf D.toNat (startI X) 0 0 h1
   have ht:=size_trim (valV ls D.toNat (startI X) 0 0).n
   show (sizeN (trimN (valV ls D.toNat (startI X) 0 0).n):Int)≤_
   omega
theorem meas_bd:0≤(measV ls D X).1∧(measV ls D X).1≤startI X:=by
 have h1:=startI_bd X
 have hv:=valV_m hw hm hf D.toNat (startI X) 0 0 h1
 unfold measV
 split
 ·exact⟨Int.le_refl _,h1⟩
 ·split
  ·exact⟨Int.le_refl _,h1⟩
  ·show 0≤startI X-_∧startI X-_≤startI X
   omega
theorem msg_sim {ls':List (List Int)}(h:ExtM ls ls')(hn:nulM ls'↔nulM ls)(D' X':Int)(hD:D.toNat≤D'.toNat)(he:(msgV ls D X).2=0)(hX:(measV ls D X).1≤startI X'):msgV ls' D' X'=msgV ls D X∧measV ls' D' X'=measV ls D X:=by
 unfold nulM at hn
 unfold msgV at he ⊢
 unfold measV at hX ⊢
 by_cases h1:0<ls.length∧(seg ls 0).length=0
 ·rw [if_pos h1,if_pos (hn.2 h1),if_pos h1,if_pos (hn.2 h1)]
  exact⟨rfl,rfl⟩
 ·rw [if_neg h1] at he hX
  rw [if_neg h1,if_neg (fun h=>h1 (hn.1 h)),if_neg h1,if_neg (fun h=>h1 (hn.1 h))]
  by_cases h2:(valV ls D.toNat (startI X) 0 0).e≠0
  ·rw [if_pos h2] at he;exact absurd he h2
  ·rw [if_neg h2] at hX
   simp only at hX
   have hs:=valV_sim h hw hm hf (k:=startI X'-startI X) D.toNat D'.toNat (startI X) 0 0 hD (startI_bd X) (Classical.byContradiction h2) (by omega)
   rw [show startI X+(startI X'-startI X)=startI X' by omega] at hs
   rw [hs,if_neg h2,if_neg h2]
   rw [if_neg (fun h=>h rfl)]
   refine⟨rfl,?_⟩
   rw [if_neg (fun h=>h rfl)]
   exact Prod.ext (by simp only;omega) rfl
end
end
def sumI (G:Nd→Int):List Nd→Int
 | []=>0
 | x::xs=>G x+sumI G xs
theorem sumI_append (G:Nd→Int)(a b:List Nd):sumI G (a++b)=sumI G a+sumI G b:=by
 induction a with
 | nil=>simp [sumI]
 | cons x xs ih=>simp only [List.cons_append,sumI,ih];omega
theorem sumI_nonneg {G:Nd→Int}:∀l:List Nd,(∀y∈l,0≤G y)→0≤sumI G l
 | [],_=>Int.le_refl _
 | x::xs,h=>by
  have h1:=h x (List.mem_cons_self ..)
  have h2:=sumI_nonneg xs fun y hy=>h y (List.mem_cons_of_mem _ hy)
  show 0≤G x+sumI G xs
  omega
theorem canK_sum (l:List Nd):canK l=sumI canN l:=by
 induction l with
 | nil=>simp [canK,sumI]
 | cons x xs ih=>simp only [canK,sumI,ih]
theorem canG_sum (l:List Nd):canG l=sumI (fun y=>canK y.ks) l:=by
 induction l with
 | nil=>simp [canG,sumI]
 | cons x xs ih=>
  obtain⟨k,e,n,d,ks⟩:=x
  simp only [canG,sumI,ih,Nd.ks]
theorem sumI_map (G:Nd→Int)(t:Nd→Nd)(l:List Nd):sumI G (l.map t)=sumI (fun y=>G (t y)) l:=by
 induction l with
 | nil=>simp [sumI]
 | cons x xs ih=>simp only [List.map_cons,sumI,ih]
theorem valid_list {k e n:Int}{d:List Int}{ks:List Nd}(h:validN (.mk k e n d ks)=true)(hk:k=2):0≤n∧n≤536870911∧0≤e∧e≤7:=by
 subst hk
 simp only [validN,Bool.and_eq_true] at h
 have h2:=h.2
 unfold headB at h2
 rw [if_neg (by omega),if_neg (by omega),if_pos rfl,decide_eq_true_iff] at h2
 omega
theorem canO_nonneg {x:Nd}(h:validN x=true):0≤canO x:=by
 obtain⟨k,e,n,d,ks⟩:=x
 show 0≤canOf k e n d ks
 unfold canOf
 by_cases h0:k=0
 ·rw [if_pos h0]
  exact Int.le_refl _
 rw [if_neg h0]
 by_cases h1:k=1
 ·rw [if_pos h1]
  omega
 rw [if_neg h1]
 have h2:=valid_k h
 simp only [Nd.k] at h2
 obtain⟨a1,a2,a3,a4⟩:=valid_list h (by omega)
 by_cases h7:e=7
 ·rw [if_pos h7]
  have:0≤n*((uniD ks ks.length+uniP ks ks.length:Nat):Int):=Int.mul_nonneg a1 (by omega)
  omega
 ·rw [if_neg h7]
  have:=bitsI_mul e n a1
  unfold wordsI
  split<;>omega
theorem can_nonneg:∀x:Nd,validN x=true→0≤canN x∧0≤canK x.ks:=Nd.ind (by
 intro k e n d ks ih h
 have hv:=(valid_kids11 h).1
 have h1:0≤canK ks:=by rw [canK_sum];exact sumI_nonneg _ fun y hy=>(ih y hy (hv y hy)).1
 have h2:0≤canG ks:=by rw [canG_sum];exact sumI_nonneg _ fun y hy=>(ih y hy (hv y hy)).2
 have h3:=canO_nonneg h
 refine⟨?_,h1⟩
 simp only [canN]
 have h4:canOf k e n d ks=canO (.mk k e n d ks):=rfl
 rw [h4]
 split<;>omega)
theorem canK_take_le (l:List Nd)(j:Nat)(h:∀y∈l,validN y=true):canK (l.take j)≤canK l:=by
 have h1:canK l=canK (l.take j)+canK (l.drop j):=by rw [←canK_append,List.take_append_drop]
 have h2:0≤canK (l.drop j):=by rw [canK_sum];exact sumI_nonneg _ fun y hy=>(can_nonneg y (h y (List.mem_of_mem_drop hy))).1
 omega
theorem can_struct {d:List Int}{ks:List Nd}(h:validN (.mk 1 0 0 d ks)=true):canN (trimN (.mk 1 0 0 d ks))≤(d.length / 8+ks.length:Nat)+canK (trimK ks)∧(trimN (.mk 1 0 0 d ks)).d.length / 8≤d.length / 8∧(trimN (.mk 1 0 0 d ks)).ks.length≤ks.length∧canK (trimN (.mk 1 0 0 d ks)).ks≤canK (trimK ks):=by
 have hv:=valid_kids11 h
 have h8:=hv.2 rfl
 have hw:=wordsT_le d h8
 have hp:=ptrsT_le ks
 have hvt:∀y∈trimK ks,validN y=true:=by
  intro y hy
  rw [trimK_map] at hy
  obtain⟨z,hz,rfl⟩:=List.mem_map.1 hy
  exact valid_trim z (hv.1 z hz)
 have ht:canK ((trimK ks).take (ptrsT ks))≤canK (trimK ks):=canK_take_le _ _ hvt
 have e1:(d.take (8*wordsT d)).length=8*wordsT d:=by rw [List.length_take];omega
 have e2:((trimK ks).take (ptrsT ks)).length=ptrsT ks:=by rw [List.length_take,trimK_length];omega
 refine⟨?_,?_,?_,?_⟩
 ·simp only [trimN,if_pos,canN]
  rw [if_neg (by omega)]
  unfold canOf
  rw [if_neg (by omega),if_pos rfl,e1,e2]
  omega
 ·simp only [trimN,if_pos,Nd.d]
  rw [e1]
  omega
 ·simp only [trimN,if_pos,Nd.ks]
  rw [e2]
  exact hp
 ·simp only [trimN,if_pos,Nd.ks]
  exact ht
theorem runK_can {f:Int→Nat→Val}{m:Int}(G:Nd→Int):∀n,(∀m i,i<n→(f m i).e=0→G (f m i).n≤m-(f m i).m)→(runK f m n).e=0→sumI G (runK f m n).ks≤m-(runK f m n).m
 | 0,_,_=>by simp [runK,sumI]
 | n+1,h,he=>by
  obtain⟨e1,e2⟩:=runK_succ0 he
  have ih:=runK_can G n (fun m i hi=>h m i (by omega)) e1
  have h1:=h (runK f m n).m n (by omega) e2
  rw [runK_ok e1 e2]
  simp only
  rw [sumI_append]
  simp only [sumI]
  omega
theorem structV_can {ls:List (List Int)}{val:Int→Int→Int→Val}(hv:∀m s a,validN (val m s a).n=true)(hc:∀m s a,(val m s a).e=0→canN (trimN (val m s a).n)≤m-(val m s a).m)(m:Int)(o:Ob)(h1:0≤o.d)(h2:o.d≤65535)(h3:0≤o.p)(h4:o.p≤65535)(he:(structV val ls m o).e=0):
  canN (trimN (structV val ls m o).n)≤o.d+o.p+(m-(structV val ls m o).m)∧((trimN (structV val ls m o).n).d.length / 8:Nat)≤o.d∧(trimN (structV val ls m o).n).ks.length≤o.p∧canK (trimN (structV val ls m o).n).ks≤m-(structV val ls m o).m:=by
 have hval:=(structV_valid hv ls m o h1 h2 h3 h4).1
 unfold structV at he hval ⊢
 by_cases h:(runK (fun m i=>val m o.sg (o.at'+o.d+i)) m o.p.toNat).e=0
 ·rw [if_neg (fun h'=>h' h)] at hval ⊢
  have hr:=runK_can (fun y=>canN (trimN y)) (f:=fun m i=>val m o.sg (o.at'+o.d+i)) (m:=m) o.p.toNat (fun m i _ he=>hc m _ _ he) h
  have hs:=can_struct hval
  have hl:=runK_length h
  have hdl:=datW_le ls o.sg o.at' o.d
  have e1:canK (trimK (runK (fun m i=>val m o.sg (o.at'+o.d+i)) m o.p.toNat).ks)=sumI (fun y=>canN (trimN y)) (runK (fun m i=>val m o.sg (o.at'+o.d+i)) m o.p.toNat).ks:=by rw [canK_sum,trimK_map,sumI_map]
  have e2:(bytesOf (datW ls o.sg o.at' o.d)).length=8*(datW ls o.sg o.at' o.d).length:=bytesOf_length _
  rw [e1,hl,e2] at hs
  simp only
  omega
 ·rw [if_pos h] at he
  exact absurd he h
theorem listV_can {ls:List (List Int)}{val:Int→Int→Int→Val}(hv:∀m s a,validN (val m s a).n=true)(hc:∀m s a,(val m s a).e=0→canN (trimN (val m s a).n)≤m-(val m s a).m)(m:Int)(o:Ob)(h1:0≤o.d)(h2:o.d≤65535)(h3:0≤o.p)(h4:o.p≤65535)(h5:0≤o.n)(h6:6≤o.el)(h7:o.el≤7)(he:(listV val ls m o).e=0):
  canN (trimN (listV val ls m o).n)≤(if o.el=6 then o.n else 1+o.n*(o.d+o.p))+(m-(listV val ls m o).m):=by
 unfold listV at he ⊢
 by_cases h:(runK (elemV val ls o) m o.n.toNat).e=0
 ·rw [if_neg (fun h'=>h' h)]
  by_cases h66:o.el=6
  ·rw [if_pos h66]
   have hr:=runK_can (fun y=>canN (trimN y)) (f:=elemV val ls o) (m:=m) o.n.toNat (fun m i _ he=>by
    unfold elemV at he ⊢
    rw [if_pos h66] at he ⊢
    exact hc m _ _ he) h
   simp only [trimN,canN]
   rw [if_neg (by omega),if_neg (by omega),if_neg (by omega)]
   unfold canOf
   rw [if_neg (by omega),if_neg (by omega),if_neg (by omega),canK_sum,trimK_map,sumI_map,h66]
   have e3:wordsI 6 o.n=o.n:=by unfold wordsI bitsI;simp;omega
   omega
  ·have h77:o.el=7:=by omega
   rw [if_neg h66]
   have hk:∀y∈(runK (elemV val ls o) m o.n.toNat).ks,((trimN y).d.length / 8:Nat)≤o.d∧(trimN y).ks.length≤o.p:=runK_all (fun y=>(((trimN y).d.length / 8:Nat):Int)≤o.d∧((trimN y).ks.length:Int)≤o.p) _ (fun m i _ he=>by
    unfold elemV at he ⊢
    rw [if_neg h66] at he ⊢
    have:=structV_can hv hc m (eleO o i) h1 h2 h3 h4 he
    exact⟨this.2.1,this.2.2.1⟩)
   have hr:=runK_can (fun y=>canK (trimN y).ks) (f:=elemV val ls o) (m:=m) o.n.toNat (fun m i _ he=>by
    unfold elemV at he ⊢
    rw [if_neg h66] at he ⊢
    exact(structV_can hv hc m (eleO o i) h1 h2 h3 h4 he).2.2.2) h
   have hl:=runK_length h
   generalize (runK (elemV val ls o) m o.n.toNat).ks=ks at *
   have hkt:∀y∈trimK ks,y.d.length / 8≤o.d.toNat∧y.ks.length≤o.p.toNat:=by
    intro y hy
    rw [trimK_map] at hy
    obtain⟨z,hz,rfl⟩:=List.mem_map.1 hy
    have:=hk z hz
    omega
   have hu:=uniD_le (trimK ks) o.d.toNat (trimK ks).length (Nat.le_refl _) (fun y hy=>(hkt y hy).1)
   have hp:=uniP_le (trimK ks) o.p.toNat (trimK ks).length (Nat.le_refl _) (fun y hy=>(hkt y hy).2)
   simp only [trimN,canN]
   rw [if_neg (by omega),if_neg (by omega),if_pos ⟨trivial,h77⟩]
   unfold canOf
   rw [if_neg (by omega),if_neg (by omega),if_pos h77,canG_sum,trimK_map,sumI_map]
   rw [trimK_map] at hu hp
   have hmul:o.n*((uniD (ks.map trimN) (ks.map trimN).length+uniP (ks.map trimN) (ks.map trimN).length:Nat):Int)≤o.n*(o.d+o.p):=Int.mul_le_mul_of_nonneg_left (by omega) h5
   omega
 ·rw [if_pos h] at he
  exact absurd he h
theorem objF_cost {ls:List (List Int)}(hw:Wd2 ls)(hm:ls.length≤40)(hf:∀j,(seg ls j).length≤20000000)(s a:Int)(q:Ob×Int)(hq:objF ls s a=q)(h1:¬q.2≠0)(h0:q.1≠ob0):
  (q.1.k=1→q.1.d+q.1.p=q.1.cost)∧(¬q.1.k=1→q.1.el<7→q.1.cost=wordsI q.1.el q.1.n)∧(¬q.1.k=1→q.1.el=7→1+q.1.n*(q.1.d+q.1.p)≤q.1.cost):=by
 have h:=objF_cases hw (by omega) (fun j=>by have:=hf j;omega) s a
 rw [hq] at h
 obtain⟨⟨k,sg,at',d,p,el,n,cost⟩,e⟩:=q
 simp only [ob0,Ob.mk.injEq,ne_eq] at h h1 h0 ⊢
 rcases h with ⟨h2,h4⟩|⟨-,rfl,rfl,rfl,h5,h6,h7,h8,rfl,h9⟩|⟨-,rfl,h4,h5,h6,h7,rfl,rfl,rfl,h8⟩|⟨-,rfl,rfl,h4,h5,h6,h7,h8,h9,c,h10,h11,h12,h13,rfl⟩
 ·exact absurd h2 h0
 ·exact⟨fun _=>rfl,fun h=>absurd rfl h,fun h=>absurd rfl h⟩
 ·exact⟨fun h=>by omega,fun _ _=>rfl,fun _ h=>by omega⟩
 ·exact⟨fun h=>by omega,fun _ h=>by omega,fun _ _=>by split<;>omega⟩
theorem can_nd0:canN (trimN nd0)=0:=by decide
theorem valV_can {ls:List (List Int)}(hw:Wd2 ls)(hm:ls.length≤40)(hf:∀j,(seg ls j).length≤20000000):∀r m s a,(valV ls r m s a).e=0→canN (trimN (valV ls r m s a).n)≤m-(valV ls r m s a).m
 | 0,m,s,a,he=>by
  unfold valV at he ⊢
  by_cases hn:(followF ls s a).e≠0∨(followF ls s a).w=0
  ·rw [if_pos hn]
   show canN (trimN nd0)≤m-m
   rw [can_nd0]
   omega
  ·rw [if_neg hn] at he
   exact absurd he (by simp [errV])
 | r+1,m,s,a,he=>by
  have ih:=fun m s a he=>valV_can hw hm hf r m s a he
  have hv:=fun m s a=>valV_valid hw hm hf r m s a
  have hb:=objF_num hw hm hf s a rfl
  unfold valV at he ⊢
  by_cases hn:(followF ls s a).e≠0∨(followF ls s a).w=0
  ·rw [if_pos hn]
   show canN (trimN nd0)≤m-m
   rw [can_nd0]
   omega
  ·rw [if_neg hn] at he
   rw [if_neg hn]
   have hco:=objF_cost hw hm hf s a _ rfl
   unfold bodyV at he ⊢
   generalize objF ls s a=q at *
   by_cases h1:q.2≠0
   ·rw [if_pos h1] at he
    exact absurd he h1
   rw [if_neg h1] at he
   rw [if_neg h1]
   by_cases h2:m<q.1.cost
   ·rw [if_pos h2] at he
    exact absurd he (by simp [errV])
   rw [if_neg h2] at he
   rw [if_neg h2]
   by_cases hz:q.1=ob0
   ·rw [hz]
    rw [if_neg (by simp [ob0]),if_pos (by simp [ob0])]
    show canN (trimN (.mk 2 0 0 (trimL (bytesOf (datW ls 0 0 0)) 0 0) []))≤m-(m-0)
    simp only [trimN,canN]
    rw [if_neg (by omega),if_neg (by omega),if_neg (by omega)]
    simp only [trimK,canK]
    unfold canOf
    rw [if_neg (by omega),if_neg (by omega),if_neg (by omega)]
    simp [wordsI,bitsI]
   obtain⟨c1,c2,c3⟩:=hco h1 hz
   by_cases h3:q.1.k=1
   ·rw [if_pos h3] at he
    rw [if_pos h3]
    have:=(structV_can hv ih (m-q.1.cost) q.1 (by omega) (by omega) (by omega) (by omega) he).1
    have:=c1 h3
    omega
   rw [if_neg h3] at he
   rw [if_neg h3]
   by_cases h4:q.1.el<6
   ·rw [if_pos h4]
    have hc2:=c2 h3 (by omega)
    simp only [trimN,canN]
    rw [if_neg (by omega),if_neg (by omega),if_neg (by omega)]
    simp only [trimK,canK]
    unfold canOf
    rw [if_neg (by omega),if_neg (by omega),if_neg (by omega)]
    omega
   ·rw [if_neg h4] at he
    rw [if_neg h4]
    have hl:=listV_can hv ih (m-q.1.cost) q.1 (by omega) (by omega) (by omega) (by omega) (by omega) (by omega) (by omega) he
    by_cases h66:q.1.el=6
    ·rw [if_pos h66] at hl
     have hc2:=c2 h3 (by omega)
     rw [h66] at hc2
     have e3:wordsI 6 q.1.n=q.1.n:=by unfold wordsI bitsI;simp;omega
     omega
    ·rw [if_neg h66] at hl
     have hc3:=c3 h3 (by omega)
     omega
theorem msg_can {ls:List (List Int)}(hw:Wd2 ls)(hm:ls.length≤40)(hf:∀j,(seg ls j).length≤20000000)(D X:Int)(he:(msgV ls D X).2=0):canN (msgV ls D X).1≤(measV ls D X).1:=by
 have h0:canN nd0=0:=by decide
 unfold msgV at he ⊢
 unfold measV
 by_cases h1:0<ls.length∧(seg ls 0).length=0
 ·rw [if_pos h1,if_pos h1]
  show canN nd0≤0
  omega
 ·rw [if_neg h1] at he
  rw [if_neg h1,if_neg h1]
  by_cases h2:(valV ls D.toNat (startI X) 0 0).e≠0
  ·rw [if_pos h2] at he;exact absurd he h2
  ·rw [if_neg h2,if_neg h2]
   exact valV_can hw hm hf _ _ _ _ (Classical.byContradiction h2)
def exF (k e n:Int)(ks:List Nd):Int:=if k=2∧e=7∧uniD ks ks.length+uniP ks ks.length=0 then n else 0
def costG (l:List Nd):Int:=canG l+exG l
theorem costN_mk (k e n:Int)(d:List Int)(ks:List Nd):costN (.mk k e n d ks)=canOf k e n d ks+exF k e n ks+if k=2∧e=7 then costG ks else costK ks:=by
 have h:exN (.mk k e n d ks)=exF k e n ks+if k=2∧e=7 then exG ks else exK ks:=by simp only [exN];rfl
 unfold costN
 rw [h]
 simp only [canN,costG,costK]
 split<;>omega
theorem costK_nil:costK []=0:=by simp [costK,canK,exK]
theorem exK_sum (l:List Nd):exK l=sumI exN l:=by
 induction l with
 | nil=>rfl
 | cons y ys ih=>simp only [exK,sumI,ih]
theorem exG_sum (l:List Nd):exG l=sumI (fun y=>exK y.ks) l:=by
 induction l with
 | nil=>rfl
 | cons y ys ih=>
  obtain⟨k,e,n,d,ks⟩:=y
  simp only [exG,sumI,ih,Nd.ks]
theorem sumI_add (F G:Nd→Int)(l:List Nd):sumI F l+sumI G l=sumI (fun y=>F y+G y) l:=by
 induction l with
 | nil=>simp [sumI]
 | cons y ys ih=>simp only [sumI,←ih];omega
theorem costK_sum (l:List Nd):costK l=sumI costN l:=by
 unfold costK
 rw [canK_sum,exK_sum,sumI_add]
 rfl
theorem costG_sum (l:List Nd):costG l=sumI (fun y=>costK y.ks) l:=by
 unfold costG
 rw [canG_sum,exG_sum,sumI_add]
 rfl
theorem cost_struct {d:List Int}{ks:List Nd}(h:validN (.mk 1 0 0 d ks)=true):costN (trimN (.mk 1 0 0 d ks))≤(d.length / 8+ks.length:Nat)+costK (trimK ks)∧(trimN (.mk 1 0 0 d ks)).d.length / 8≤d.length / 8∧(trimN (.mk 1 0 0 d ks)).ks.length≤ks.length∧costK (trimN (.mk 1 0 0 d ks)).ks≤costK (trimK ks):=by
 have hv:=valid_kids11 h
 have h8:=hv.2 rfl
 have hw:=wordsT_le d h8
 have hp:=ptrsT_le ks
 have hvt:∀y∈trimK ks,validN y=true:=by
  intro y hy
  rw [trimK_map] at hy
  obtain⟨z,hz,rfl⟩:=List.mem_map.1 hy
  exact valid_trim z (hv.1 z hz)
 have ht:costK ((trimK ks).take (ptrsT ks))≤costK (trimK ks):=(costK_take_le hvt _).2
 have e1:(d.take (8*wordsT d)).length=8*wordsT d:=by rw [List.length_take];omega
 have e2:((trimK ks).take (ptrsT ks)).length=ptrsT ks:=by rw [List.length_take,trimK_length];omega
 refine⟨?_,?_,?_,?_⟩
 ·simp only [trimN,if_pos,costN_mk]
  rw [if_neg (by omega)]
  unfold canOf exF
  rw [if_neg (by omega),if_pos rfl,e1,e2]
  omega
 ·simp only [trimN,if_pos,Nd.d]
  rw [e1]
  omega
 ·simp only [trimN,if_pos,Nd.ks]
  rw [e2]
  exact hp
 ·simp only [trimN,if_pos,Nd.ks]
  exact ht
theorem structV_cost {ls:List (List Int)}{val:Int→Int→Int→Val}(hv:∀m s a,validN (val m s a).n=true)(hc:∀m s a,(val m s a).e=0→costN (trimN (val m s a).n)≤m-(val m s a).m)(m:Int)(o:Ob)(h1:0≤o.d)(h2:o.d≤65535)(h3:0≤o.p)(h4:o.p≤65535)(he:(structV val ls m o).e=0):
  costN (trimN (structV val ls m o).n)≤o.d+o.p+(m-(structV val ls m o).m)∧((trimN (structV val ls m o).n).d.length / 8:Nat)≤o.d∧(trimN (structV val ls m o).n).ks.length≤o.p∧costK (trimN (structV val ls m o).n).ks≤m-(structV val ls m o).m:=by
 have hval:=(structV_valid hv ls m o h1 h2 h3 h4).1
 unfold structV at he hval ⊢
 by_cases h:(runK (fun m i=>val m o.sg (o.at'+o.d+i)) m o.p.toNat).e=0
 ·rw [if_neg (fun h'=>h' h)] at hval ⊢
  have hr:=runK_can (fun y=>costN (trimN y)) (f:=fun m i=>val m o.sg (o.at'+o.d+i)) (m:=m) o.p.toNat (fun m i _ he=>hc m _ _ he) h
  have hs:=cost_struct hval
  have hl:=runK_length h
  have hdl:=datW_le ls o.sg o.at' o.d
  have e1:costK (trimK (runK (fun m i=>val m o.sg (o.at'+o.d+i)) m o.p.toNat).ks)=sumI (fun y=>costN (trimN y)) (runK (fun m i=>val m o.sg (o.at'+o.d+i)) m o.p.toNat).ks:=by rw [costK_sum,trimK_map,sumI_map]
  have e2:(bytesOf (datW ls o.sg o.at' o.d)).length=8*(datW ls o.sg o.at' o.d).length:=bytesOf_length _
  rw [e1,hl,e2] at hs
  simp only
  omega
 ·rw [if_pos h] at he
  exact absurd he h
theorem listV_cost {ls:List (List Int)}{val:Int→Int→Int→Val}(hv:∀m s a,validN (val m s a).n=true)(hc:∀m s a,(val m s a).e=0→costN (trimN (val m s a).n)≤m-(val m s a).m)(m:Int)(o:Ob)(h1:0≤o.d)(h2:o.d≤65535)(h3:0≤o.p)(h4:o.p≤65535)(h5:0≤o.n)(h6:6≤o.el)(h7:o.el≤7)(he:(listV val ls m o).e=0):
  costN (trimN (listV val ls m o).n)≤(if o.el=6 then o.n else 1+o.n*(o.d+o.p)+(if o.d+o.p=0 then o.n else 0))+(m-(listV val ls m o).m):=by
 unfold listV at he ⊢
 by_cases h:(runK (elemV val ls o) m o.n.toNat).e=0
 ·rw [if_neg (fun h'=>h' h)]
  by_cases h66:o.el=6
  ·rw [if_pos h66]
   have hr:=runK_can (fun y=>costN (trimN y)) (f:=elemV val ls o) (m:=m) o.n.toNat (fun m i _ he=>by
    unfold elemV at he ⊢
    rw [if_pos h66] at he ⊢
    exact hc m _ _ he) h
   simp only [trimN,costN_mk]
   rw [if_neg (by omega),if_neg (by omega),if_neg (by omega)]
   unfold canOf exF
   rw [if_neg (by omega),if_neg (by omega),if_neg (by omega),costK_sum,trimK_map,sumI_map,h66]
   have e3:wordsI 6 o.n=o.n:=by unfold wordsI bitsI;simp;omega
   omega
  ·have h77:o.el=7:=by omega
   rw [if_neg h66]
   have hk:∀y∈(runK (elemV val ls o) m o.n.toNat).ks,((trimN y).d.length / 8:Nat)≤o.d∧(trimN y).ks.length≤o.p:=runK_all (fun y=>(((trimN y).d.length / 8:Nat):Int)≤o.d∧((trimN y).ks.length:Int)≤o.p) _ (fun m i _ he=>by
    unfold elemV at he ⊢
    rw [if_neg h66] at he ⊢
    have:=structV_cost hv hc m (eleO o i) h1 h2 h3 h4 he
    exact⟨this.2.1,this.2.2.1⟩)
   have hr:=runK_can (fun y=>costK (trimN y).ks) (f:=elemV val ls o) (m:=m) o.n.toNat (fun m i _ he=>by
    unfold elemV at he ⊢
    rw [if_neg h66] at he ⊢
    exact(structV_cost hv hc m (eleO o i) h1 h2 h3 h4 he).2.2.2) h
   have hl:=runK_length h
   generalize (runK (elemV val ls o) m o.n.toNat).ks=ks at *
   have hkt:∀y∈trimK ks,y.d.length / 8≤o.d.toNat∧y.ks.length≤o.p.toNat:=by
    intro y hy
    rw [trimK_map] at hy
    obtain⟨z,hz,rfl⟩:=List.mem_map.1 hy
    have:=hk z hz
    omega
   have hu:=uniD_le (trimK ks) o.d.toNat (trimK ks).length (Nat.le_refl _) (fun y hy=>(hkt y hy).1)
   have hp:=uniP_le (trimK ks) o.p.toNat (trimK ks).length (Nat.le_refl _) (fun y hy=>(hkt y hy).2)
   simp only [trimN,costN_mk]
   rw [if_neg (by omega),if_neg (by omega),if_pos ⟨trivial,h77⟩]
   unfold canOf exF
   rw [if_neg (by omega),if_neg (by omega),if_pos h77,costG_sum,trimK_map,sumI_map]
   rw [trimK_map] at hu hp
   have hmul:o.n*((uniD (ks.map trimN) (ks.map trimN).length+uniP (ks.map trimN) (ks.map trimN).length:Nat):Int)≤o.n*(o.d+o.p):=Int.mul_le_mul_of_nonneg_left (by omega) h5
   by_cases hU:uniD (ks.map trimN) (ks.map trimN).length+uniP (ks.map trimN) (ks.map trimN).length=0
   ·have hz0:o.n*((uniD (ks.map trimN) (ks.map trimN).length+uniP (ks.map trimN) (ks.map trimN).length:Nat):Int)=0:=by rw [hU];simp
    rw [if_pos ⟨rfl,h77,hU⟩]
    rcases(by omega:o.d+o.p=0∨0<o.d+o.p) with h0|h0
    ·rw [if_pos h0]
     omega
    ·have h1n:o.n*1≤o.n*(o.d+o.p):=Int.mul_le_mul_of_nonneg_left (by omega) h5
     rw [if_neg (show ¬(o.d+o.p=0) by omega)]
     omega
   ·rw [if_neg (fun h=>hU h.2.2)]
    split<;>omega
 ·rw [if_pos h] at he
  exact absurd he h
theorem objF_cost2 {ls:List (List Int)}(hw:Wd2 ls)(hm:ls.length≤40)(hf:∀j,(seg ls j).length≤20000000)(s a:Int)(q:Ob×Int)(hq:objF ls s a=q)(h1:¬q.2≠0)(h0:q.1≠ob0):
  (q.1.k=1→q.1.d+q.1.p=q.1.cost)∧(¬q.1.k=1→q.1.el<7→q.1.cost=wordsI q.1.el q.1.n)∧(¬q.1.k=1→q.1.el=7→1+q.1.n*(q.1.d+q.1.p)+(if q.1.d+q.1.p=0 then q.1.n else 0)≤q.1.cost):=by
 have h:=objF_cases hw (by omega) (fun j=>by have:=hf j;omega) s a
 rw [hq] at h
 obtain⟨⟨k,sg,at',d,p,el,n,cost⟩,e⟩:=q
 simp only [ob0,Ob.mk.injEq,ne_eq] at h h1 h0 ⊢
 rcases h with ⟨h2,h4⟩|⟨-,rfl,rfl,rfl,h5,h6,h7,h8,rfl,h9⟩|⟨-,rfl,h4,h5,h6,h7,rfl,rfl,rfl,h8⟩|⟨-,rfl,rfl,h4,h5,h6,h7,h8,h9,c,h10,h11,h12,h13,rfl⟩
 ·exact absurd h2 h0
 ·exact⟨fun _=>rfl,fun h=>absurd rfl h,fun h=>absurd rfl h⟩
 ·exact⟨fun h=>by omega,fun _ _=>rfl,fun _ h=>by omega⟩
 ·exact⟨fun h=>by omega,fun _ h=>by omega,fun _ _=>by split<;>omega⟩
theorem cost_nd0:costN (trimN nd0)=0:=by decide
theorem valV_cost {ls:List (List Int)}(hw:Wd2 ls)(hm:ls.length≤40)(hf:∀j,(seg ls j).length≤20000000):∀r m s a,(valV ls r m s a).e=0→costN (trimN (valV ls r m s a).n)≤m-(valV ls r m s a).m
 | 0,m,s,a,he=>by
  unfold valV at he ⊢
  by_cases hn:(followF ls s a).e≠0∨(followF ls s a).w=0
  ·rw [if_pos hn]
   show costN (trimN nd0)≤m-m
   rw [cost_nd0]
   omega
  ·rw [if_neg hn] at he
   exact absurd he (by simp [errV])
 | r+1,m,s,a,he=>by
  have ih:=fun m s a he=>valV_cost hw hm hf r m s a he
  have hv:=fun m s a=>valV_valid hw hm hf r m s a
  have hb:=objF_num hw hm hf s a rfl
  unfold valV at he ⊢
  by_cases hn:(followF ls s a).e≠0∨(followF ls s a).w=0
  ·rw [if_pos hn]
   show costN (trimN nd0)≤m-m
   rw [cost_nd0]
   omega
  ·rw [if_neg hn] at he
   rw [if_neg hn]
   have hco:=objF_cost2 hw hm hf s a _ rfl
   unfold bodyV at he ⊢
   generalize objF ls s a=q at *
   by_cases h1:q.2≠0
   ·rw [if_pos h1] at he
    exact absurd he h1
   rw [if_neg h1] at he
   rw [if_neg h1]
   by_cases h2:m<q.1.cost
   ·rw [if_pos h2] at he
    exact absurd he (by simp [errV])
   rw [if_neg h2] at he
   rw [if_neg h2]
   by_cases hz:q.1=ob0
   ·rw [hz]
    rw [if_neg (by simp [ob0]),if_pos (by simp [ob0])]
    show costN (trimN (.mk 2 0 0 (trimL (bytesOf (datW ls 0 0 0)) 0 0) []))≤m-(m-0)
    simp only [trimN,costN_mk]
    rw [if_neg (by omega),if_neg (by omega),if_neg (by omega)]
    simp only [trimK,costK_nil]
    unfold canOf exF
    rw [if_neg (by omega),if_neg (by omega),if_neg (by omega)]
    simp [wordsI,bitsI]
   obtain⟨c1,c2,c3⟩:=hco h1 hz
   by_cases h3:q.1.k=1
   ·rw [if_pos h3] at he
    rw [if_pos h3]
    have:=(structV_cost hv ih (m-q.1.cost) q.1 (by omega) (by omega) (by omega) (by omega) he).1
    have:=c1 h3
    omega
   rw [if_neg h3] at he
   rw [if_neg h3]
   by_cases h4:q.1.el<6
   ·rw [if_pos h4]
    have hc2:=c2 h3 (by omega)
    simp only [trimN,costN_mk]
    rw [if_neg (by omega),if_neg (by omega),if_neg (by omega)]
    simp only [trimK,costK_nil]
    unfold canOf exF
    rw [if_neg (by omega),if_neg (by omega),if_neg (by omega)]
    omega
   ·rw [if_neg h4] at he
    rw [if_neg h4]
    have hl:=listV_cost hv ih (m-q.1.cost) q.1 (by omega) (by omega) (by omega) (by omega) (by omega) (by omega) (by omega) he
    by_cases h66:q.1.el=6
    ·rw [if_pos h66] at hl
     have hc2:=c2 h3 (by omega)
     rw [h66] at hc2
     have e3:wordsI 6 q.1.n=q.1.n:=by unfold wordsI bitsI;simp;omega
     omega
    ·rw [if_neg h66] at hl
     have hc3:=c3 h3 (by omega)
     omega
theorem msg_cost {ls:List (List Int)}(hw:Wd2 ls)(hm:ls.length≤40)(hf:∀j,(seg ls j).length≤20000000)(D X:Int)(he:(msgV ls D X).2=0):costN (msgV ls D X).1≤(measV ls D X).1:=by
 have h0:costN nd0=0:=by decide
 unfold msgV at he ⊢
 unfold measV
 by_cases h1:0<ls.length∧(seg ls 0).length=0
 ·rw [if_pos h1,if_pos h1]
  show costN nd0≤0
  omega
 ·rw [if_neg h1] at he
  rw [if_neg h1,if_neg h1]
  by_cases h2:(valV ls D.toNat (startI X) 0 0).e≠0
  ·rw [if_pos h2] at he;exact absurd he h2
  ·rw [if_neg h2,if_neg h2]
   exact valV_cost hw hm hf _ _ _ _ (Classical.byContradiction h2)
section
section
variable {ls:List (List Int)} (hw:Wd2 ls) (hm:ls.length≤40) (hf:∀j,(seg ls j).length≤20000000)
include hw hm hf
theorem canon_facts (D X:Int)(hX:X≤100000000)(he:(msgV ls D X).2=0):validN (msgV ls D X).1=true∧trimmedN (msgV ls D X).1=true∧depthN (msgV ls D X).1≤D.toNat∧0≤canN (msgV ls D X).1∧canN (msgV ls D X).1≤(measV ls D X).1∧costN (msgV ls D X).1≤(measV ls D X).1∧(measV ls D X).1≤startI X∧startI X≤100000000:=by
 obtain⟨h1,h2,h3⟩:=msg_valid hw hm hf (D:=D) (X:=X)
 have h4:=msg_can hw hm hf D X he
 have h5:=msg_cost hw hm hf D X he
 have h6:=(meas_bd hw hm hf (D:=D) (X:=X)).2
 have h7:startI X≤100000000:=by unfold startI;split<;>omega
 exact⟨h1,h2,h3,(can_size _ h1).1,h4,h5,h6,h7⟩
theorem canon_idem (D X:Int)(hX:X≤100000000)(he:(msgV ls D X).2=0)(hb:bytN (msgV ls D X).1):msgV [writeF (msgV ls D X).1] D X=((msgV ls D X).1,0)∧measV [writeF (msgV ls D X).1] D X=(costN (msgV ls D X).1,0):=by
 obtain⟨h1,h2,h3,h4,h5,h6,h7,h8⟩:=canon_facts hw hm hf D X hX he
 generalize (msgV ls D X).1=n at *
 obtain⟨v,g1,g2⟩:=write_val h1 h2 hb (by omega) h3 (m:=startI X) (by omega)
 have hl:¬(0<([writeF n]:List (List Int)).length∧(seg [writeF n] 0).length=0):=by
  rintro⟨-,h⟩
  have:(seg [writeF n] 0).length=(writeF n).length:=rfl
  rw [this] at h
  simp [writeF] at h
 unfold msgV measV
 rw [if_neg hl,if_neg hl,g1]
 simp [g2]
 omega
end
end
def ChkP (W:List Int)(D X:Int):Prop:=0<W.length∧(msgV [W] D X).2=0∧visC W D.toNat 1 0=W.length
theorem msg_one {W:List Int}(h:0<W.length)(D X:Int):msgV [W] D X=if (valV [W] D.toNat (startI X) 0 0).e≠0 then (nd0,(valV [W] D.toNat (startI X) 0 0).e) else (trimN (valV [W] D.toNat (startI X) 0 0).n,0):=by
 unfold msgV
 rw [if_neg (fun h2=>by have h3:(seg [W] 0).length=W.length:=rfl;omega)]
theorem lay_write {W:List Int}{x:Nd}:Lay W 1 0 x∧1+(objW x).length=W.length↔writeF x=W:=by
 constructor
 ·rintro⟨⟨h1,h2⟩,h3⟩
  have h4:Has W 0 (writeF x):=has_cons.2 ⟨by omega,by simpa using h1,by simpa using h2⟩
  apply ext_zat
  ·show (objW x).length+1=W.length
   omega
  ·intro i hi
   have:=h4.2 i hi
   rw [Nat.zero_add] at this
   exact this.symm
 ·rintro rfl
  have h:=Has.head (W:=writeF x) (p:=0) (x:=ptrW x 0) (l:=objW x) (Has.self _)
  refine⟨⟨by simpa using h.2.1,h.2.2⟩,?_⟩
  show 1+(objW x).length=(objW x).length+1
  omega
theorem chk_exact {W:List Int}(hW:Wds W)(hlen:W.length≤20000000)(D X:Int):ChkP W D X↔0<W.length∧(msgV [W] D X).2=0∧writeF (msgV [W] D X).1=W:=by
 unfold ChkP
 by_cases h0:0<W.length
 rotate_left
 ·exact⟨fun h=>absurd h.1 h0,fun h=>absurd h.1 h0⟩
 have hm:=msg_one h0 D X
 by_cases he:(valV [W] D.toNat (startI X) 0 0).e≠0
 ·rw [if_pos he] at hm
  rw [hm]
  exact⟨fun h=>absurd h.2.1 he,fun h=>absurd h.2.1 he⟩
 rw [if_neg he] at hm
 rw [hm]
 have ht:=tells hW hlen D.toNat (startI X) 0 1 h0 (by omega) (Classical.byContradiction he)
 have ht2:visC W D.toNat 1 0=layV W 1 0 (trimN (valV [W] D.toNat (startI X) 0 0).n):=ht
 rw [ht2]
 show _∧_∧_↔0<W.length∧(0:Int)=0∧writeF (trimN (valV [W] D.toNat (startI X) 0 0).n)=W
 rw [←lay_write (W:=W)]
 unfold layV
 constructor
 ·rintro⟨-,-,h⟩
  by_cases hl:Lay W 1 0 (trimN (valV [W] D.toNat (startI X) 0 0).n)
  ·rw [if_pos hl] at h
   exact⟨h0,rfl,hl,by omega⟩
  ·rw [if_neg hl] at h
   omega
 ·rintro⟨-,-,hl,h⟩
  rw [if_pos hl]
  exact⟨h0,rfl,by omega⟩
def chkB (W:List Int)(D X:Int):Bool:=decide (0<W.length)&&(decide ((msgV [W] D X).2=0)&&decide (writeF (msgV [W] D X).1=W))
theorem chkB_iff {W:List Int}{D X:Int}:chkB W D X=true↔0<W.length∧(msgV [W] D X).2=0∧writeF (msgV [W] D X).1=W:=by
 unfold chkB
 simp only [Bool.and_eq_true,decide_eq_true_eq]
theorem ext_one (U V:List Int):ExtM [U] [U++V]:=by
 have hl:(U++V).length=U.length+V.length:=List.length_append
 have h0:∀L:List Int,seg [L] 0=L:=fun _=>rfl
 have hs:∀{s:Int},0≤s→s<([U]:List (List Int)).length→s.toNat=0:=by
  intro s h1 h2
  simp at h2
  omega
 have hh:∀s a,hasB [U] s a=true→hasB [U++V] s a=true:=by
  intro s a h
  unfold hasB at h ⊢
  rw [decide_eq_true_iff] at h ⊢
  have e:=hs h.1 h.2.1
  rw [e,h0] at h ⊢
  refine⟨h.1,by simpa using h.2.1,h.2.2.1,?_⟩
  omega
 have hi:∀s a n,inB [U] s a n=true→inB [U++V] s a n=true:=by
  intro s a n h
  rw [inB_iff] at h ⊢
  have e:=hs h.1 h.2.1
  rw [e,h0] at h ⊢
  refine⟨h.1,by simpa using h.2.1,h.2.2.1,h.2.2.2.1,?_⟩
  omega
 refine⟨hh,fun s a h=>?_,hi,fun s a n h=>?_⟩
 ·unfold wordV
  rw [if_pos h,if_pos (hh s a h)]
  unfold hasB at h
  rw [decide_eq_true_iff] at h
  have e:=hs h.1 h.2.1
  rw [e,h0] at h ⊢
  rw [h0]
  unfold zat
  rw [List.getD_eq_getElem?_getD,List.getD_eq_getElem?_getD,List.getElem?_append_left (by omega)]
 ·rw [inB_iff] at h
  have e:=hs h.1 h.2.1
  unfold sliceL
  rw [e,h0] at h ⊢
  rw [h0,List.drop_append_of_le_length (by omega),List.take_append_of_le_length (by rw [List.length_drop];omega)]
theorem wd_one16 {l:List Int}(h:Wds l):Wd2 [l]:=by
 intro a ha
 simp at ha
 subst ha
 exact h
theorem fw_one16 {l:List Int}(h:l.length≤20000000)(j:Nat):(seg [l] j).length≤20000000:=by
 by_cases hj:j<[l].length
 ·obtain rfl:j=0:=by simp at hj;omega
  exact h
 ·rw [seg_out (by omega)];simp
theorem chk_ends {U V:List Int}{D X:Int}(hU:Wds U)(hl:U.length≤20000000)(h1:chkB U D X=true)(h2:chkB (U++V) D X=true):V=[]:=by
 obtain⟨p1,e1,g1⟩:=chkB_iff.1 h1
 obtain⟨p2,e2,g2⟩:=chkB_iff.1 h2
 have hn:nulM [U++V]↔nulM [U]:=by
  unfold nulM
  have a1:(seg [U] 0).length=U.length:=rfl
  have a2:(seg [U++V] 0).length=(U++V).length:=rfl
  rw [a1,a2]
  constructor<;>rintro⟨-,h⟩<;>omega
 have hm:=(msg_sim (wd_one16 hU) (by simp) (fw_one16 hl) D X (ext_one U V) hn D X (Nat.le_refl _) e1 (meas_bd (wd_one16 hU) (by simp) (fw_one16 hl) (D:=D) (X:=X)).2).1
 rw [hm,g1] at g2
 have h3:=congrArg List.length g2
 rw [List.length_append] at h3
 exact List.eq_nil_of_length_eq_zero (by omega)
theorem chk_more {U V:List Int}{D X:Int}(hU:Wds U)(hl:U.length≤20000000)(hV:V≠[])(h1:chkB U D X=true):chkB (U++V) D X=false:=by
 cases h2:chkB (U++V) D X with
 | false=>rfl
 | true=>exact absurd (chk_ends hU hl h1 h2) hV
theorem chk_less {W:List Int}{D X:Int}{k:Nat}(hW:Wds W)(hl:W.length≤20000000)(hk:k<W.length)(h1:chkB W D X=true):chkB (W.take k) D X=false:=by
 cases h2:chkB (W.take k) D X with
 | false=>rfl
 | true=>
  have h3:chkB (W.take k++W.drop k) D X=true:=by rw [List.take_append_drop];exact h1
  have h4:=chk_ends (fun z hz=>hW z (List.mem_of_mem_take hz)) (by rw [List.length_take];omega) h2 h3
  have h5:=congrArg List.length h4
  rw [List.length_drop] at h5
  simp at h5
  omega
theorem chk_same {W:List Int}{D X:Int}(h0:0<W.length)(he:(msgV [W] D X).2=0):chkB W D X=sameB (writeF (msgV [W] D X).1) W:=by
 unfold chkB sameB
 rw [decide_eq_true he,decide_eq_true h0,Bool.true_and,Bool.true_and]
theorem chk_no {W:List Int}{D X:Int}(he:(msgV [W] D X).2≠0):chkB W D X=false:=by
 unfold chkB
 rw [decide_eq_false he,Bool.false_and,Bool.and_false]
theorem chk_canon {ls:List (List Int)}(hw:Wd2 ls)(hm:ls.length≤40)(hf:∀j,(seg ls j).length≤20000000){D X:Int}(hX:X≤100000)(he:(msgV ls D X).2=0)(hb:bytN (msgV ls D X).1):chkB (writeF (msgV ls D X).1) D X=true:=by
 obtain⟨h1,-⟩:=canon_idem hw hm hf D X (by omega) he hb
 rw [chkB_iff,h1]
 refine⟨?_,rfl,rfl⟩
 rw [writeF]
 simp
theorem chk_limits {x:Nd}(hv:validN x=true)(ht:trimmedN x=true)(hb:bytN x)(hs:canN x≤18000000)(D X:Int):chkB (writeF x) D X=decide ((msgV [writeF x] D X).2=0):=by
 by_cases he:(msgV [writeF x] D X).2=0
 ·rw [decide_eq_true he,chkB_iff]
  have hl:=writeF_length hv
  have h0:0<(writeF x).length:=by rw [writeF];simp
  refine⟨h0,he,?_⟩
  have hm:=msg_one h0 D X
  by_cases h1:(valV [writeF x] D.toNat (startI X) 0 0).e≠0
  ·rw [if_pos h1] at hm
   rw [hm] at he
   exact absurd he h1
  ·rw [if_neg h1] at hm
   rw [hm]
   have h2:(valV [writeF x] D.toNat (startI X) 0 0).e=0:=Classical.byContradiction h1
   have hs0:=startI_bd X
   obtain⟨k,hk0,hk1,hk2⟩:∃k:Int,0≤k∧costN x≤startI X+k∧0≤(valV [writeF x] D.toNat (startI X) 0 0).m+k:=by
    by_cases g1:0≤costN x
    ·by_cases g2:0≤(valV [writeF x] D.toNat (startI X) 0 0).m
     ·exact⟨costN x,g1,by omega,by omega⟩
     ·exact⟨costN x-(valV [writeF x] D.toNat (startI X) 0 0).m,by omega,by omega,by omega⟩
    ·by_cases g2:0≤(valV [writeF x] D.toNat (startI X) 0 0).m
     ·exact⟨0,by omega,by omega,by omega⟩
     ·exact⟨- (valV [writeF x] D.toNat (startI X) 0 0).m,by omega,by omega,by omega⟩
   have h3:=valV_sim (ExtM.refl [writeF x]) (wd_one16 (writeF_wds hb)) (by simp) (fw_one16 (by omega)) (k:=k) D.toNat (max D.toNat (depthN x)) (startI X) 0 0 (Nat.le_max_left _ _) hs0 h2 hk2
   obtain⟨v,g1,g2⟩:=write_val hv ht hb (by omega) (Nat.le_max_right D.toNat (depthN x)) hk1
   rw [h3] at g1
   simp only [Val.mk.injEq] at g1
   show writeF (trimN (valV [writeF x] D.toNat (startI X) 0 0).n)=writeF x
   rw [g1.1,g2]
 ·rw [decide_eq_false he]
  exact chk_no he
theorem chk_change {W V:List Int}{D X:Int}(h0:0<V.length)(he:(msgV [V] D X).2=0)(hc:writeF (msgV [V] D X).1=W)(hne:V≠W):chkB V D X=false:=by
 rw [chk_same h0 he,hc]
 unfold sameB
 exact decide_eq_false fun h=>hne h.symm
end Go.Proofs.YtclpapddejgpnaaDoor
