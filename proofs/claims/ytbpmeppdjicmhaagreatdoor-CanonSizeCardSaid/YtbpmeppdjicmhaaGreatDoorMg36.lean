/- The texts DenE, DenF, DenG (what is wanted of them), one after the other. -/
import Derived.Test.YtbpmeppdjicmhaaGreatDoorMg7
import Derived.Test.YtbpmeppdjicmhaaGreatDoorMg35
namespace Go.Proofs.YtbpmeppdjicmhaaGreatDoor
open Go.ChangeShapes Go.WideShapes Go.ChangeAt Go.RowKit
set_option linter.unusedVariables false
set_option linter.unusedSimpArgs false
set_option maxRecDepth 100000
section
attribute [local simp] AllK KnowsV look Is
theorem keeps_undrew {b:Nat}{w wc:World}(h:Keeps (KB b) w.drew wc):Keeps (KB b) w wc:=⟨h.os,h.tape,h.output,h.size,h.block⟩
theorem keeps_on' {b:Nat}{w W wc w':World}(h1:Below w.heap.size w W)(h2:Below W.heap.size W wc)(h3:Keeps (KB b) wc w'):Keeps (KB b) w w':=(keeps_of (bel_on h1 h2)).trans h3
theorem stableK_datg {b lo:Nat}{xs:List Int}(hb:b<lo):stableK (KB b) (DatG lo xs):=fun v w w' h hk=>got_keeps h hk hb
theorem stableK_nod {b lo:Nat}{x:Nd}(hb:b<lo):stableK (KB b) (NodF lo x):=fun v w w' h hk=>NodF.keeps h hk hb
def KidF (b lo:Nat)(ks:List Nd)(cs:Array Value)(e:Int):Fact:=fun v w=>(∃q N,v=.slice (some ⟨q,0,none⟩) N N∧lo≤q∧RowG q N ks w∧ks.length=N∧N≤536870911)∧Blk w b cs∧e=0
theorem stable_kidf (b lo:Nat)(ks:List Nd)(cs:Array Value)(e:Int):stable (KidF b lo ks cs e):=fun v w w' ⟨⟨q,N,h1,h2,h3,h4,h5⟩,h6,h7⟩ hb=>⟨⟨q,N,h1,h2,h3.below hb,h4,h5⟩,h6.below hb,h7⟩
theorem nodf_lower {lo lo':Nat}{x:Nd}{v:Value}{w:World}(h:NodF lo x v w)(hl:lo'≤lo):NodF lo' x v w:=by
 obtain⟨A,c,B,c2,hi,h1,h2,h3⟩:=h
 exact⟨A,c,B,c2,hi,h1,h2,h3.wide hl (Nat.le_refl _)⟩
theorem NodF.set {lo:Nat}{x:Nd}{v:Value}{w:World}(h:NodF lo x v w){p:Addr}(hp:p.block<lo)(u:Value):NodF lo x v (w.setCell p u):=by
 obtain⟨A,c,B,c2,hi,h1,h2,h3⟩:=h
 exact⟨A,c,B,c2,hi,h1,by simpa using h2,h3.to fun k k1 k2=>Below.heap_setCell _ _ _ _ (by omega)⟩
theorem datO_bts {ls:List (List Int)}{o:Ob}(ho:ObOK ls o):Bts (datO ls o):=by
 unfold datO
 split
 ·exact bytesOf_bts _
 ·split
  ·exact trimL_bts (bytesOf_bts _) _ _
  ·intro z hz;cases hz
set_option maxHeartbeats 4000000 in
theorem contents_any (b:Nat)(A:Option Addr)(c:Nat)(ls:List (List Int))(D X O:Int)(w0:World)(r:Nat)(E:EnvD b A ls w0)(m:Int)(o:Ob)(dep:Int)(hV:0<(ptrO o).2→dep≤900∧ValL b A c ls D X O w0 r)(w:World)(hb:Below b w0 w)(hk:Blk w b #[.slice A ls.length c,.int .i64 D,.int .i64 X,.int .i64 O,.int .i64 m])
  (hm0:0≤m) (hm1:m≤4611686018427387904) (ho:ObOK ls o) (h7:o.el≠7) (hd0:0≤dep) (hd1:dep≤901) (hr:(D-dep).toNat=r) :
  Calls Tryz.prog 77 #[.pointer (some ⟨b,0,none⟩),.agg #[.int .i64 o.k,.int .i64 o.sg,.int .i64 o.at',.int .i64 o.d,.int .i64 o.p,.int .i64 o.el,.int .i64 o.n,.int .i64 o.cost],.int .i64 dep] w fun e w'=>Keeps (KB b) w w'∧Blk w' b #[.slice A ls.length c,.int .i64 D,.int .i64 X,.int .i64 O,.int .i64 (contK (valV ls r) ls m o).m] ∧
   (((contK (valV ls r) ls m o).e=0∧∃v,e=.returned v∧NodF w.heap.size (contK (valV ls r) ls m o).n v w')∨((contK (valV ls r) ls m o).e≠0∧e=failE (contK (valV ls r) ls m o).e)):=by
 have hlt:=hk.lt
 have HDA:=Lib.hid (fun w2 h1 h2=>data_any b A c ls D X O m o w0 w2 E ho h7 h1 h2)
 have HKI:=Lib.hid (fun w2 h1 h2=>kids_any b A c ls D X O w0 r E m o dep hV w2 h1 h2 hm0 hm1 ho hd0 hd1 hr)
 have hcy:(kidR (valV ls r) o m).e=0→contK (valV ls r) ls m o=⟨.mk o.k o.el o.n (datO ls o) (kidR (valV ls r) o m).ks,(kidR (valV ls r) o m).m,0⟩:=fun h=>by unfold contK;rw [if_neg (by rw [h];simp)]
 have HCE:Hid ((kidR (valV ls r) o m).e≠0→contK (valV ls r) ls m o=errV (kidR (valV ls r) o m).m (kidR (valV ls r) o m).e):=Lib.hid (fun h=>by unfold contK;rw [if_pos h])
 have HCY:=Lib.hid hcy
 have HDB:=Lib.hid (datO_bts ho)
 have HIK:Hid ((-9223372036854775808≤o.k∧o.k≤9223372036854775807)∧(-9223372036854775808≤o.el∧o.el≤9223372036854775807)∧(-9223372036854775808≤o.n∧o.n≤9223372036854775807)):=Lib.hid (by have:=ho.k;have:=ho.el;have:=ho.n;omega)
 generalize kidR (valV ls r) o m=R at *
 generalize contK (valV ls r) ls m o=CV at *
 have HB1:=Lib.hid (((Below.refl w.heap.size w).alloc (Nat.le_refl _) (.cells (obA o) 74)).alloc (by simp) (.cells #[.int .i64 0,.int .i64 0,.int .i64 0,.slice none 0 0,.slice none 0 0] 39))
 have HT1:=Lib.hid ((hk.alloc (.cells (obA o) 74)).alloc (.cells #[.int .i64 0,.int .i64 0,.int .i64 0,.slice none 0 0,.slice none 0 0] 39))
 have HO1:Hid (Blk ((w.alloc (.cells (obA o) 74)).alloc (.cells #[.int .i64 0,.int .i64 0,.int .i64 0,.slice none 0 0,.slice none 0 0] 39)) w.heap.size (obA o)):=Lib.hid ((Blk.fresh _ _ _).alloc _)
 have HR1:Hid (Blk ((w.alloc (.cells (obA o) 74)).alloc (.cells #[.int .i64 0,.int .i64 0,.int .i64 0,.slice none 0 0,.slice none 0 0] 39)) (w.heap.size+1) #[.int .i64 0,.int .i64 0,.int .i64 0,.slice none 0 0,.slice none 0 0]):=Lib.hid (Blk.new (by simp))
 have HNO:Hid (¬KB b w.heap.size):=Lib.hid (by unfold KB;omega)
 have HNR:Hid (¬KB b (w.heap.size+1)):=Lib.hid (by unfold KB;omega)
 unfold obA at HB1 HT1 HO1 HR1
 clear hk hm0 hm1 ho h7 hd0 hd1 hr hV hcy E
 go_enter Tryz.func77,Tryz.ntmps77
 go_wp2_with fail
 refine abs_code10 (F:=fun W=>W=(w.alloc (.cells #[.int .i64 o.k,.int .i64 o.sg,.int .i64 o.at',.int .i64 o.d,.int .i64 o.p,.int .i64 o.el,.int .i64 o.n,.int .i64 o.cost] 74)).alloc (.cells #[.int .i64 0,.int .i64 0,.int .i64 0,.slice none 0 0,.slice none 0 0] 39)) rfl ?_
 rintro W1 hW1
 rw [←hW1] at HB1 HT1 HO1 HR1
 have HZ1:Hid (w.heap.size+1<W1.heap.size):=Lib.hid HR1.out.lt
 have HL:Hid (b<W1.heap.size):=Lib.hid HT1.out.lt
 have HB:=Lib.hid (fun (w2:World) (h:Below W1.heap.size W1 w2)=>hb.trans ((bel_on HB1.out h).mono (Nat.le_of_lt hlt)))
 clear hW1 hb hlt
 refine wp_region_p14 12 (KB b) (by kernel_rfl) (by kernel_rfl) ?_
 refine p_val_l (u:=?_) [4] (by kernel_rfl) rfl (by kernel_rfl) trivial (fun ρ wc hkc hcn hq=>?_) ?_;rotate_left
 ·obtain⟨hcn,hfn⟩:=hcn
  simp at hq
  go_simp
  rfl
 refine p_val_l (u:=?_) [7] (by kernel_rfl) rfl (by kernel_rfl) trivial (fun ρ wc hkc hcn hq=>?_) ?_;rotate_left
 ·obtain⟨hcn,hfn⟩:=hcn
  simp at hq
  have x2:=(HO1.out.keeps (keeps_undrew hkc) HNO.out).cell
  go_simp
  rfl
 refine p_val_l (u:=?_) [4] (by kernel_rfl) rfl (by kernel_rfl) trivial (fun ρ wc hkc hcn hq=>?_) ?_;rotate_left
 ·obtain⟨hcn,hfn⟩:=hcn
  simp at hq
  go_simp
  rfl
 refine p_val_l (u:=?_) [9] (by kernel_rfl) rfl (by kernel_rfl) trivial (fun ρ wc hkc hcn hq=>?_) ?_;rotate_left
 ·obtain⟨hcn,hfn⟩:=hcn
  simp at hq
  have x2:=(HO1.out.keeps (keeps_undrew hkc) HNO.out).cell
  go_simp
  rfl
 refine p_val_l (u:=?_) [4] (by kernel_rfl) rfl (by kernel_rfl) trivial (fun ρ wc hkc hcn hq=>?_) ?_;rotate_left
 ·obtain⟨hcn,hfn⟩:=hcn
  simp at hq
  go_simp
  rfl
 refine p_val_l (u:=?_) [11] (by kernel_rfl) rfl (by kernel_rfl) trivial (fun ρ wc hkc hcn hq=>?_) ?_;rotate_left
 ·obtain⟨hcn,hfn⟩:=hcn
  simp at hq
  have x2:=(HO1.out.keeps (keeps_undrew hkc) HNO.out).cell
  go_simp
  rfl
 refine p_val_l (u:=?_) [0] (by kernel_rfl) rfl (by kernel_rfl) trivial (fun ρ wc hkc hcn hq=>?_) ?_;rotate_left
 ·obtain⟨hcn,hfn⟩:=hcn
  simp at hq
  go_simp
  rfl
 refine p_val_l (u:=?_) [4] (by kernel_rfl) rfl (by kernel_rfl) trivial (fun ρ wc hkc hcn hq=>?_) ?_;rotate_left
 ·obtain⟨hcn,hfn⟩:=hcn
  simp at hq
  have x2:=(HO1.out.keeps (keeps_undrew hkc) HNO.out).cell
  go_simp
  rfl
 refine p_call (T:=DatG W1.heap.size (datO ls o)) 98 [13,14] (by kernel_rfl) rfl rfl (by kernel_rfl) trivial (stable_datg _ _) (stableK_datg HL.out) (fun ρ wc hbc hcn hq=>?_) ?_
 ·obtain⟨hcn,hfn⟩:=hcn
  simp at hq
  refine⟨_,by go_simp;rfl,?_⟩
  refine(HDA.out _ (HB.out _ (bel_undrew hbc)) (HT1.out.drew.below hbc)).mono ?_
  rintro e w' ⟨v,rfl,hg,hbq⟩
  exact⟨_,rfl,hg.mono hbc.size,hbq⟩
 refine p_val (u:=?_) [0] (by kernel_rfl) rfl rfl (by kernel_rfl) trivial (fun ρ wc hbc hcn hq=>?_) ?_;rotate_left
 ·obtain⟨hcn,hfn⟩:=hcn
  simp at hq
  go_simp
  rfl
 refine p_val (u:=?_) [4] (by kernel_rfl) rfl rfl (by kernel_rfl) trivial (fun ρ wc hbc hcn hq=>?_) ?_;rotate_left
 ·obtain⟨hcn,hfn⟩:=hcn
  simp at hq
  have x2:=(HO1.out.drew.below hbc).cell
  go_simp
  rfl
 refine p_val (u:=?_) [2] (by kernel_rfl) rfl rfl (by kernel_rfl) trivial (fun ρ wc hbc hcn hq=>?_) ?_;rotate_left
 ·obtain⟨hcn,hfn⟩:=hcn
  simp at hq
  go_simp
  rfl
 refine p_sp (T:=KidF b W1.heap.size R.ks #[.slice A ls.length c,.int .i64 D,.int .i64 X,.int .i64 O,.int .i64 R.m] R.e) 99 [16,17,18] rfl rfl (by kernel_rfl) trivial (stable_kidf _ _ _ _ _) (fun ρ wc hbc hcn hq=>?_) ?_
 ·obtain⟨hcn,hfn⟩:=hcn
  simp at hq
  refine⟨_,by go_simp;rfl,?_⟩
  refine(HKI.out _ (HB.out _ (bel_undrew hbc)) (HT1.out.drew.below hbc)).mono ?_
  rintro e w' ⟨hkk,hbt,⟨he,q,N,rfl,hq1,hrow,hN,hN2⟩|⟨he,rfl⟩⟩
  ·exact .inl ⟨_,rfl,⟨⟨q,N,rfl,Nat.le_trans hbc.size hq1,hrow,hN,hN2⟩,hbt,he⟩,hkk⟩
  ·refine .inr ⟨_,rfl,fun a ha=>⟨ha,keeps_on' HB1.out (bel_undrew hbc) hkk,?_,?_⟩⟩
   ·rw [HCE.out he]
    exact hbt
   ·exact .inr ⟨by rw [HCE.out he];exact he,by rw [HCE.out he];rfl⟩
 refine p_new_l (T:=NodF W1.heap.size (.mk o.k o.el o.n (datO ls o) R.ks)) [8,10,12,15,19] (by kernel_rfl) rfl (by kernel_rfl) trivial (stable_nod _ _) (stableK_nod HL.out) (fun ρ wc hkc hcn hq=>?_) ?_
 ·obtain⟨hcn,hfn⟩:=hcn
  simp at hq
  obtain⟨h8,h10,h12,h15,⟨q,N,h19,hq1,hrow,hN,hN2⟩,-⟩:=hq
  obtain⟨A1,c1,e15,-⟩:=Got.full h15
  rw [e15] at h15
  refine⟨_,wc,by go_simp;rfl,?_,Below.refl _ _⟩
  exact RowG.nod hrow (Nat.le_refl _) hq1 hN (by unfold maxLen;omega) HIK.out.1 HIK.out.2.1 HIK.out.2.2 h15 HDB.out
 refine p_end_lit 21 rfl (fun ff w5 hk5 hk=>?_)
 have h19:KidF b W1.heap.size R.ks #[.slice A ls.length c,.int .i64 D,.int .i64 X,.int .i64 O,.int .i64 R.m] R.e (ff 19) w5:=allN_atF hk 19 (by decide) (by decide)
 have h20:NodF W1.heap.size (.mk o.k o.el o.n (datO ls o) R.ks) (ff 20) w5:=allN_atF hk 20 (by decide) (by decide)
 simp [AllN] at hk
 simp only [frameL,hk,Nat.zero_add,Nat.reduceAdd]
 clear hk
 obtain⟨-,hbt5,hre⟩:=h19
 have HT5:=Lib.hid hbt5
 have HK5:=Lib.hid (keeps_on' HB1.out (Below.refl _ _) (keeps_undrew hk5))
 have HR5:=Lib.hid (HR1.out.keeps (keeps_undrew hk5) HNR.out)
 have HO5:=Lib.hid (HO1.out.keeps (keeps_undrew hk5) HNO.out)
 have HN5:=Lib.hid h20
 obtain⟨A5,c5,B5,e5,hi5,e20,-⟩:=h20
 have HCV:=Lib.hid (HCY.out hre)
 rw [e20] at HN5
 rw [e20]
 simp only [Nd.k,Nd.e,Nd.n,Nd.d,Nd.ks] at HN5 ⊢
 clear e20 hbt5 hk5 hre HCE HCY HDB HDA HKI HT1 HO1 HR1 HB HB1
 generalize (datO ls o).length=dl at *
 generalize R.ks.length=kl at *
 obtain⟨x2,y2,z2⟩:=HR5.out
 go_wp2_with fail
 refine abs_post (F:=fun W=>Blk W (w.heap.size+1) #[.int .i64 o.k,.int .i64 o.el,.int .i64 o.n,.slice A5 dl c5,.slice B5 kl e5]∧Keeps (KB b) w W∧Blk W b #[.slice A ls.length c,.int .i64 D,.int .i64 X,.int .i64 O,.int .i64 R.m]∧NodF W1.heap.size (.mk o.k o.el o.n (datO ls o) R.ks) (.agg #[.int .i64 o.k,.int .i64 o.el,.int .i64 o.n,.slice A5 dl c5,.slice B5 kl e5]) W) ⟨?_,?_,?_,?_⟩ ?_
 ·exact((((HR5.out.set 0 (by simp) _).set 1 (by simp) _).set 2 (by simp) _).set 3 (by simp) _).set 4 (by simp) _
 ·refine keeps_set (keeps_set (keeps_set (keeps_set (keeps_set HK5.out ?_ _) ?_ _) ?_ _) ?_ _) ?_ _<;>exact .inr (by show w.heap.size≤w.heap.size+1;omega)
 ·have hne:w.heap.size+1≠b:=fun e=>HNR.out (by unfold KB;exact e)
  exact((((HT5.out.other (p:=⟨w.heap.size+1,0,none⟩) hne _).other (p:=⟨w.heap.size+1,1,none⟩) hne _).other (p:=⟨w.heap.size+1,2,none⟩) hne _).other (p:=⟨w.heap.size+1,3,none⟩) hne _).other (p:=⟨w.heap.size+1,4,none⟩) hne _
 ·have hl:=HZ1.out
  exact((((HN5.out.set (p:=⟨w.heap.size+1,0,none⟩) hl _).set (p:=⟨w.heap.size+1,1,none⟩) hl _).set (p:=⟨w.heap.size+1,2,none⟩) hl _).set (p:=⟨w.heap.size+1,3,none⟩) hl _).set (p:=⟨w.heap.size+1,4,none⟩) hl _
 rintro V ⟨B6,hkv,ht,hn⟩
 exact bodyPost_ret (v:=.agg #[.int .i64 o.k,.int .i64 o.el,.int .i64 o.n,.slice A5 dl c5,.slice B5 kl e5]) (by simp [results,Tryz.results77,go_sem,B6.cell]) rfl ⟨hkv,by rw [HCV.out];exact ht,.inl ⟨by rw [HCV.out],_,rfl,nodf_lower (by rw [HCV.out];exact hn) (by have:=HZ1.out;omega)⟩⟩
end
section
attribute [local simp] AllK KnowsV look Is
theorem contK_m {ls:List (List Int)}(hw:Wd2 ls)(hm:ls.length≤40)(hf:∀j,(seg ls j).length≤20000000)(r:Nat)(m:Int)(o:Ob)(h:0≤m):0≤(contK (valV ls r) ls m o).m∧(contK (valV ls r) ls m o).m≤m:=by
 have h1:0≤(kidR (valV ls r) o m).m∧(kidR (valV ls r) o m).m≤m:=runK_ind (fun z=>0≤z∧z≤m) ⟨h,Int.le_refl _⟩ _ (fun m' i _ hm'=>by
  have:=valV_m hw hm hf r m' o.sg ((ptrO o).1+i) hm'.1
  exact⟨this.1,Int.le_trans this.2 hm'.2⟩)
 unfold contK
 split
 ·exact h1
 ·exact h1
set_option maxHeartbeats 4000000 in
theorem elements_any (b:Nat)(A:Option Addr)(c:Nat)(ls:List (List Int))(D X O:Int)(w0:World)(r:Nat)(E:EnvD b A ls w0)(hV:ValL b A c ls D X O w0 r)(m:Int)(o:Ob)(dep:Int)(w:World)(hb:Below b w0 w)(hk:Blk w b #[.slice A ls.length c,.int .i64 D,.int .i64 X,.int .i64 O,.int .i64 m])
  (hm0:0≤m) (hm1:m≤4611686018427387904) (ho:ObOK ls o) (hoe:∀j:Nat,(j:Int)<o.n→ObOK ls (eleO o j)) (hat:o.at'≤281474976710656) (hd0:0≤dep) (hd1:dep≤900) (hr:(D-dep).toNat=r) :
  Calls Tryz.prog 76 #[.pointer (some ⟨b,0,none⟩),.agg #[.int .i64 o.k,.int .i64 o.sg,.int .i64 o.at',.int .i64 o.d,.int .i64 o.p,.int .i64 o.el,.int .i64 o.n,.int .i64 o.cost],.int .i64 dep] w fun e w'=>Keeps (KB b) w w'∧Blk w' b #[.slice A ls.length c,.int .i64 D,.int .i64 X,.int .i64 O,.int .i64 (elsR (valV ls r) ls o m).m] ∧
   (((elsR (valV ls r) ls o m).e=0∧∃q N,e=.returned (.slice (some ⟨q,0,none⟩) N N)∧w.heap.size≤q∧RowG q N (elsR (valV ls r) ls o m).ks w'∧(elsR (valV ls r) ls o m).ks.length=N∧N≤536870911)∨((elsR (valV ls r) ls o m).e≠0∧e=failE (elsR (valV ls r) ls o m).e)):=by
 obtain⟨i0,hi,hz0,hz1,hz2⟩:=info_parts node_info
 have hlt:=hk.lt
 obtain⟨n,hn⟩:=Int.eq_ofNat_of_zero_le ho.n.1
 have hn1:n≤536870911:=by have:=ho.n.2;omega
 have hkR:elsR (valV ls r) ls o m=runK (fun (m:Int) (i:Nat)=>contK (valV ls r) ls m (eleO o (i:Int))) m n:=by unfold elsR;rw [hn];simp
 rw [hkR]
 have hval:=contK_m E.wd E.m E.f r
 obtain⟨f,hf⟩:∃f:Int→Nat→Val,f=fun (m:Int) (i:Nat)=>contK (valV ls r) ls m (eleO o (i:Int)):=⟨_,rfl⟩
 have HMR:Hid (∀j,0≤(runK f m j).m∧(runK f m j).m≤m):=Lib.hid (fun j=>runK_ind (fun z=>0≤z∧z≤m) ⟨hm0,Int.le_refl _⟩ j (fun m' i _ hm=>by
  subst hf
  have:=hval m' (eleO o (i:Int)) hm.1
  exact⟨this.1,Int.le_trans this.2 hm.2⟩))
 have HV:Hid (∀(R:Int) (j:Nat) (wr:World),Below b w0 wr→Blk wr b #[.slice A ls.length c,.int .i64 D,.int .i64 X,.int .i64 O,.int .i64 R]→0≤R→R≤m→j<n →
   Calls Tryz.prog 77 #[.pointer (some ⟨b,0,none⟩),.agg #[.int .i64 1,.int .i64 o.sg,.int .i64 (o.at'+j*(o.d+o.p)),.int .i64 o.d,.int .i64 o.p,.int .i64 0,.int .i64 0,.int .i64 0],.int .i64 dep] wr fun e w'=>Keeps (KB b) wr w'∧Blk w' b #[.slice A ls.length c,.int .i64 D,.int .i64 X,.int .i64 O,.int .i64 (f R j).m] ∧
    (((f R j).e=0∧∃v,e=.returned v∧NodF wr.heap.size (f R j).n v w')∨((f R j).e≠0∧e=failE (f R j).e))):=Lib.hid (fun R j wr h1 h2 h3 h4 h5=>by
  subst hf
  exact contents_any b A c ls D X O w0 r E R (eleO o (j:Int)) dep (fun _=>⟨by omega,hV⟩) wr h1 h2 h3 (by omega) (hoe j (by omega)) (by show (0:Int)≠7;omega) hd0 (by omega) hr)
 rw [←hf]
 have HEM:=Lib.hid (fun w2 (j:Nat) (hj:j<n)=>RElement_any o.k o.sg o.at' o.d o.p o.el o.n o.cost j w2 (by omega) (by omega) ho.at'.1 hat ho.d.1 ho.d.2 ho.p.1 ho.p.2)
 have HB1:=Lib.hid ((Below.refl w.heap.size w).alloc (Nat.le_refl _) (.cells (obA o) 74))
 have HT1:=Lib.hid (hk.alloc (.cells (obA o) 74))
 have HO1:Hid (Blk (w.alloc (.cells (obA o) 74)) w.heap.size (obA o)):=Lib.hid (Blk.fresh _ _ _)
 have HB0:=Lib.hid (fun (wr:World) (h:Keeps (KB b) w wr)=>hb.trans (bel_keeps h (Nat.le_of_lt hlt)))
 have HL:Hid (b<w.heap.size):=Lib.hid hlt
 unfold obA at HB1 HT1 HO1
 obtain⟨on,hon⟩:∃on,on=o.n:=⟨_,rfl⟩
 rw [←hon] at HEM HB1 HT1 HO1 hn ⊢
 subst hn
 clear hb hk hlt hkR hval hV hr ho hoe hat hf E hon
 obtain⟨x2,y2,z2⟩:=HO1.out
 go_enter Tryz.func76,Tryz.ntmps76
 go_wp2_with (at_make;refine wpList_make_full _ rfl _ _ 37 rfl (w.alloc (.cells #[.int .i64 o.k,.int .i64 o.sg,.int .i64 o.at',.int .i64 o.d,.int .i64 o.p,.int .i64 o.el,.int .i64 n,.int .i64 o.cost] 74)).heap.size 39 i0 _ 5 Tryz.underlying37 hi hz0 hz1 .i64 .i64 _ _ n rfl rfl (by omega) (by omega) (by rw [hz2];omega) (by unfold maxLen;omega) (Nat.le_refl _) ?_;intro w3 hown0 hgrow0)
 have hR0:RowG (w.heap.size+1) n [] w3:=by
  have:=RowG.made hown0
  simpa using this
 have hb3:Below (w.alloc (.cells #[.int .i64 o.k,.int .i64 o.sg,.int .i64 o.at',.int .i64 o.d,.int .i64 o.p,.int .i64 o.el,.int .i64 n,.int .i64 o.cost] 74)).heap.size (w.alloc (.cells #[.int .i64 o.k,.int .i64 o.sg,.int .i64 o.at',.int .i64 o.d,.int .i64 o.p,.int .i64 o.el,.int .i64 n,.int .i64 o.cost] 74)) w3:=(Below.refl _ _).grown hgrow0 (Nat.le_refl _) (fun g hg=>by cases hg)
 have HT3:=Lib.hid (HT1.out.below hb3)
 have HO3:=Lib.hid (HO1.out.below hb3)
 have HK3:Hid (Keeps (KB b) w w3):=Lib.hid (keeps_of (bel_on HB1.out hb3))
 have hq0:w.heap.size<w.heap.size+1:=Nat.lt_succ_self _
 clear hown0 hgrow0 HT1 HO1 HB1 hb3 x2 y2 z2
 generalize w.heap.size+1=q at *
 go_loopw [14] (fun i wr=>∃j:Nat,j≤n∧i=.int .i64 j∧(runK f m j).e=0∧RowG q n (runK f m j).ks wr∧Blk wr b #[.slice A ls.length c,.int .i64 D,.int .i64 X,.int .i64 O,.int .i64 (runK f m j).m]∧Keeps (KB b) w wr∧Blk wr w.heap.size #[.int .i64 o.k,.int .i64 o.sg,.int .i64 o.at',.int .i64 o.d,.int .i64 o.p,.int .i64 o.el,.int .i64 n,.int .i64 o.cost]) (fun i _=>n-(intOf i).toNat)
 case atStart=>exact⟨0,by omega,rfl,rfl,hR0,HT3.out,HK3.out,HO3.out⟩
 case round=>
  clear hR0 HT3 HO3 HK3
  obtain⟨j,hj,rfl,he,hrow,hbt,hkp,hbo⟩:=hrel
  have HRE:=Lib.hid he
  have HW:=Lib.hid hrow
  have HT:=Lib.hid hbt
  have HK:=Lib.hid hkp
  have HO:=Lib.hid hbo
  clear he hrow hbt hkp
  by_cases hlt:j<n
  ·have hj1:(j:Int)<(n:Int):=by omega
   have hj2:(j:Int)<536870912:=by omega
   have HMJ:=Lib.hid (HMR.out j)
   have HKL:Hid ((runK f m j).ks.length=j):=Lib.hid (runK_length HRE.out)
   have HNX:Hid (∀h:(f (runK f m j).m j).e=0,runK f m (j+1)=⟨(runK f m j).ks++[(f (runK f m j).m j).n],(f (runK f m j).m j).m,0⟩):=Lib.hid (fun h=>runK_ok HRE.out h)
   have HNO:Hid (∀h:(f (runK f m j).m j).e≠0,(runK f m n).m=(f (runK f m j).m j).m∧(runK f m n).e=(f (runK f m j).m j).e):=Lib.hid (fun h=>by
    have h1:=runK_no HRE.out h
    have h2:runK f m n=runK f m (j+1):=runK_keep (by rw [h1];exact h) (by omega)
    rw [h2,h1]
    exact⟨rfl,rfl⟩)
   obtain⟨x2,y2,z2⟩:=hbo
   go_wp2_with fail
   refine(HEM.out wr j hlt).mono ?_
   rintro e wd ⟨rfl,hbd⟩
   have HVJ:=Lib.hid (HV.out (runK f m j).m j wd)
   generalize o.at'+(j:Int)*(o.d+o.p)=a2 at HVJ ⊢
   have HWd:=Lib.hid (HW.out.below hbd)
   have HTd:=Lib.hid (HT.out.below hbd)
   have HKd:=Lib.hid (keeps_on HK.out hbd)
   have HOd:=Lib.hid (HO.out.below hbd)
   clear HW HT HK HO hbd
   have HW:=HWd
   have HT:=HTd
   have HK:=HKd
   have HO:=HOd
   clear HWd HTd HKd HOd x2 y2 z2
   go_wp2_with fail
   refine(HVJ.out (HB0.out _ HK.out) HT.out HMJ.out.1 HMJ.out.2 hlt).mono ?_
   rintro e w4 ⟨hk4,hbt4,⟨he4,v,rfl,hnd⟩|⟨he4,rfl⟩⟩
   ·obtain⟨A5,c5,B5,e5,hi5,rfl,hh5,ho5⟩:=hnd
    have hqr:q<wd.heap.size:=HW.out.lt
    have HW4:=Lib.hid (HW.out.keeps hk4 (by have:=HL.out;omega))
    have HT4:=Lib.hid hbt4
    have HK4:=Lib.hid (HK.out.trans hk4)
    have HO4:=Lib.hid (HO.out.keeps hk4 (by have:=HL.out;unfold KB;omega))
    have HO5:=Lib.hid ho5
    have HN4:=Lib.hid (HNX.out he4)
    clear hk4 hbt4 ho5 hz0 HVJ HW HT HK HO HNX HNO he4
    obtain⟨u0,y0⟩:=HW4.out.cell (j*5) (by omega)
    obtain⟨u1,y1⟩:=HW4.out.cell (j*5+1) (by omega)
    obtain⟨u2,y2⟩:=HW4.out.cell (j*5+2) (by omega)
    obtain⟨u3,y3⟩:=HW4.out.cell (j*5+3) (by omega)
    obtain⟨u4,y4⟩:=HW4.out.cell (j*5+4) (by omega)
    have z:=HW4.out.free
    generalize (f (runK f m j).m j).n=kx at *
    generalize (f (runK f m j).m j).m=m4 at *
    go_wp2
    go_roundw
    case rel=>
     refine⟨j+1,by omega,by go_num,by rw [HN4.out],?_,?_,?_,?_⟩
     ·rw [HN4.out]
      exact HW4.out.next HKL.out hlt (lo:=wd.heap.size) (hi':=hi5) (by omega) hh5 HO5.out
     ·rw [HN4.out]
      have hne:q≠b:=by have:=HL.out;omega
      exact((((HT4.out.other (p:=⟨q,j*5,none⟩) hne _).other (p:=⟨q,j*5+1,none⟩) hne _).other (p:=⟨q,j*5+2,none⟩) hne _).other (p:=⟨q,j*5+3,none⟩) hne _).other (p:=⟨q,j*5+4,none⟩) hne _
     ·refine keeps_set (keeps_set (keeps_set (keeps_set (keeps_set HK4.out ?_ _) ?_ _) ?_ _) ?_ _) ?_ _<;>exact .inr (by show w.heap.size≤q;omega)
     ·have hne:q≠w.heap.size:=by omega
      exact((((HO4.out.other (p:=⟨q,j*5,none⟩) hne _).other (p:=⟨q,j*5+1,none⟩) hne _).other (p:=⟨q,j*5+2,none⟩) hne _).other (p:=⟨q,j*5+3,none⟩) hne _).other (p:=⟨q,j*5+4,none⟩) hne _
    case measure=>simp [intOf];omega
   ·obtain⟨h1,h2⟩:=HNO.out he4
    have HK4:=Lib.hid (HK.out.trans hk4)
    rw [←h1] at hbt4
    rw [←h2] at he4
    unfold failE
    go_wp2
    exact⟨rfl,HK4.out,hbt4,.inr ⟨he4,by rw [h2];rfl⟩⟩
  ·obtain rfl:j=n:=by omega
   go_wp2
   go_ret
   exact⟨HK.out,HT.out,.inl ⟨HRE.out,q,j,rfl,by omega,HW.out,runK_length HRE.out,by omega⟩⟩
end
section
attribute [local simp] AllK KnowsV look Is
theorem object_any (b:Nat)(A:Option Addr)(c:Nat)(ls:List (List Int))(D X O:Int)(w0:World)(E:EnvD b A ls w0)(m s a dep:Int)(w:World)(hb:Below b w0 w)(hk:Blk w b #[.slice A ls.length c,.int .i64 D,.int .i64 X,.int .i64 O,.int .i64 m])
  (hm0:0≤m) (hm1:m≤4611686018427387904) (hs0:0≤s) (hs1:s≤1000) (ha0:0≤a) (ha1:a≤200000000000) :
  Calls Tryz.prog 75 #[.pointer (some ⟨b,0,none⟩),.int .i64 s,.int .i64 a,.int .i64 dep] w fun e w'=>Keeps (KB b) w w'∧Blk w' b #[.slice A ls.length c,.int .i64 D,.int .i64 X,.int .i64 O,.int .i64 (locD ls D m s a dep).m] ∧
   (((locD ls D m s a dep).e=0∧e=.returned (obV (locD ls D m s a dep).o))∨((locD ls D m s a dep).e≠0∧e=failE (locD ls D m s a dep).e)):=
 object_walk b A ls.length c D X O m s a dep (followF ls s a) (objF ls s a) w0 w hb hk
  (Lib.hid (fun w2 h=>FFollow_any A c ls s a w2 (E.sgAt h) E.wd E.m2 E.f2 (by omega) (by omega) (by omega) (by omega)))
  (Lib.hid (fun w2 h=>RObject_any A c ls s a w2 (E.tabAt h) (E.sgAt h) E.wd E.m2 E.f2 (by omega) (by omega) (by omega) (by omega)))
  (Lib.hid (fun w2=>BCharge_any m _ w2 (by omega) (by omega) (objF_num E.wd E.m E.f s a rfl).2.2.2.2.2.2.2.2.2.2.2.2.2.2.1))
theorem datD_inB {ls:List (List Int)}{s a n:Int}(h:inB ls s a n=true):(datW ls s a n).length=n.toNat:=by
 have h9:=inB_iff.1 h
 unfold datW
 rw [if_pos h]
 unfold sliceL
 rw [List.length_take,List.length_drop]
 omega
theorem loc_ok {ls:List (List Int)}(hw:Wd2 ls)(hm:ls.length≤40)(hf:∀j,(seg ls j).length≤20000000)(D m s a dep:Int)(hm0:0≤m)(L:Loc)(hL:locD ls D m s a dep=L)(he:L.e=0):
  ObOK ls L.o∧0≤L.m∧L.m≤m∧L.o.at'≤281474976710656∧(0<(ptrO L.o).2→dep≤D)∧(L.o.el=7→dep≤D∧∀j:Nat,(j:Int)<L.o.n→ObOK ls (eleO L.o j)):=by
 have hC:=objF_cases hw (by omega) (fun j=>by have:=hf j;omega) s a
 have hN:=objF_num hw hm hf s a rfl
 have h0:ObOK ls ob0:=⟨by decide,by decide,by decide,by decide,by decide,by decide,by decide,fun h=>absurd h (by decide)⟩
 have h1:¬0<(ptrO ob0).2:=by decide
 have h2:ob0.el≠7:=by decide
 subst hL
 unfold locD locQ at he ⊢
 generalize followF ls s a=q at *
 generalize objF ls s a=r at *
 by_cases c1:q.e≠0∨q.w=0
 ·simp only [if_pos c1] at he ⊢
  exact⟨h0,hm0,Int.le_refl _,by decide,fun h=>absurd h h1,fun h=>absurd h h2⟩
 by_cases c2:D<dep
 ·simp only [if_neg c1,if_pos c2] at he
  exact absurd he (by decide)
 by_cases c3:r.2≠0
 ·simp only [if_neg c1,if_neg c2,if_pos c3] at he
  exact absurd he c3
 by_cases c4:m<r.1.cost
 ·simp only [if_neg c1,if_neg c2,if_neg c3,if_pos c4] at he
  exact absurd he (by decide)
 simp only [if_neg c1,if_neg c2,if_neg c3,if_neg c4] at he ⊢
 obtain⟨⟨k,sg,at',d,p,el,n,cost⟩,e⟩:=r
 simp only [ob0,Ob.mk.injEq] at hC hN c3 c4 ⊢
 obtain⟨n1,n2,n3,n4,n5,n6,n7,n8,n9,n10,n11,n12,n13,n14,n15,n16,n17,n18,n19,n20⟩:=hN
 refine⟨⟨⟨n1,n2⟩,⟨n3,n4⟩,⟨n5,by show at'≤100000000000;omega⟩,⟨n7,n8⟩,⟨n9,n10⟩,⟨n11,n12⟩,⟨n13,n14⟩,fun hk hel=>?_⟩,by show 0≤m-cost;omega,by show m-cost≤m;omega,by show at'≤281474976710656;omega,fun _=>by omega,fun hel=>⟨by omega,fun j hj=>?_⟩⟩
 ·simp only at hk hel ⊢
  rcases hC with ⟨⟨rfl,rfl,rfl,rfl,rfl,rfl,rfl,rfl⟩,-⟩|⟨-,h4,-⟩|⟨-,-,h4,h5,h6,h7,rfl,rfl,rfl,h8⟩|⟨-,-,h4,-⟩
  ·exact absurd hk (by decide)
  ·omega
  ·rw [datD_inB h8]
   have h9:=inB_iff.1 h8
   have h10:=bitsI_mul el n h6
   unfold wordsI bytesI at *
   rw [if_neg (by omega)] at *
   omega
  ·omega
 ·have hj:(j:Int)<n:=hj
  have hdp:0≤d+p:=by omega
  have h5:(j:Int)*(d+p)≤n*(d+p):=Int.mul_le_mul_of_nonneg_right (by omega) hdp
  have h6:0≤(j:Int)*(d+p):=Int.mul_nonneg (by omega) hdp
  exact⟨by show (0:Int)≤1∧(1:Int)≤2;omega,by show 0≤sg∧sg≤40;omega,by show 0≤at'+j*(d+p)∧at'+j*(d+p)≤100000000000;omega,by show 0≤d∧d≤65535;omega,by show 0≤p∧p≤65535;omega,by show (0:Int)≤0∧(0:Int)≤7;omega,by show (0:Int)≤0∧(0:Int)≤536870911;omega,fun h=>absurd h (by show (1:Int)≠2;omega)⟩
set_option maxHeartbeats 4000000 in
theorem value_step (b:Nat)(A:Option Addr)(c:Nat)(ls:List (List Int))(D X O:Int)(w0:World)(r:Nat)(E:EnvD b A ls w0)(hD:D≤900)(hV:∀r',r=r'+1→ValL b A c ls D X O w0 r'):ValL b A c ls D X O w0 r:=by
 intro m s a dep w hb hk hm0 hm1 hs0 hs1 ha0 ha1 hd0 hd1 hr
 have hlt:=hk.lt
 have hVL:=valV_loc E.wd E.m E.f D m s a dep r hr
 have hOK:=loc_ok E.wd E.m E.f D m s a dep hm0
 have HOB:=Lib.hid (fun w2 h1 h2=>object_any b A c ls D X O w0 E m s a dep w2 h1 h2 hm0 hm1 hs0 hs1 ha0 ha1)
 generalize locD ls D m s a dep=L at *
 have hr1:(D-dep).toNat=r-1:=by omega
 have hVr:dep≤D→ValL b A c ls D X O w0 (r-1):=fun h=>hV (r-1) (by omega)
 have HCO:=Lib.hid (fun (he:L.e=0) (h7:L.o.el≠7) w2 h1 h2=>contents_any b A c ls D X O w0 (r-1) E L.m L.o dep (fun h=>⟨by have:=(hOK L rfl he).2.2.2.2.1 h;omega,hVr ((hOK L rfl he).2.2.2.2.1 h)⟩) w2 h1 h2 (hOK L rfl he).2.1 (by have:=(hOK L rfl he).2.2.1;omega) (hOK L rfl he).1 h7 hd0 hd1 hr1)
 have HELS:=Lib.hid (fun (he:L.e=0) (h7:L.o.el=7) w2 h1 h2=>elements_any b A c ls D X O w0 (r-1) E (hVr ((hOK L rfl he).2.2.2.2.2 h7).1) L.m L.o dep w2 h1 h2 (hOK L rfl he).2.1 (by have:=(hOK L rfl he).2.2.1;omega) (hOK L rfl he).1 ((hOK L rfl he).2.2.2.2.2 h7).2 (hOK L rfl he).2.2.2.1 hd0 (by have:=((hOK L rfl he).2.2.2.2.2 h7).1;omega) hr1)
 have hIK:L.e=0→(-9223372036854775808≤L.o.k∧L.o.k≤9223372036854775807)∧(-9223372036854775808≤L.o.el∧L.o.el≤9223372036854775807)∧(-9223372036854775808≤L.o.n∧L.o.n≤9223372036854775807):=fun he=>by have h:=(hOK L rfl he).1;have:=h.k;have:=h.el;have:=h.n;omega
 have hVE:L.e≠0→valV ls r m s a=errV L.m L.e:=fun h=>by rw [hVL,if_pos h]
 have hVC:L.e=0→L.o.el≠7→valV ls r m s a=contK (valV ls (r-1)) ls L.m L.o:=fun h h7=>by rw [hVL,if_neg (by rw [h];simp)];unfold bodyK;rw [if_neg h7]
 have hVB:L.e=0→L.o.el=7→(elsR (valV ls (r-1)) ls L.o L.m).e≠0→valV ls r m s a=errV (elsR (valV ls (r-1)) ls L.o L.m).m (elsR (valV ls (r-1)) ls L.o L.m).e:=fun h h7 h8=>by rw [hVL,if_neg (by rw [h];simp)];unfold bodyK;rw [if_pos h7,if_pos h8]
 have hVD:L.e=0→L.o.el=7→(elsR (valV ls (r-1)) ls L.o L.m).e=0→valV ls r m s a=⟨.mk L.o.k L.o.el L.o.n [] (elsR (valV ls (r-1)) ls L.o L.m).ks,(elsR (valV ls (r-1)) ls L.o L.m).m,0⟩:=fun h h7 h8=>by rw [hVL,if_neg (by rw [h];simp)];unfold bodyK;rw [if_pos h7,if_neg (by rw [h8];simp)]
 generalize valV ls r m s a=CV at *
 generalize contK (valV ls (r-1)) ls L.m L.o=KV at *
 generalize elsR (valV ls (r-1)) ls L.o L.m=R at *
 obtain⟨o,lm,le⟩:=L
 simp only at *
 have HVE:=Lib.hid hVE
 have HVC:=Lib.hid hVC
 have HVB:=Lib.hid hVB
 have HVD:=Lib.hid hVD
 have HIK0:=Lib.hid hIK
 have HB0:=Lib.hid (fun (wr:World) (h:Keeps (KB b) w wr)=>hb.trans (bel_keeps h (Nat.le_of_lt hlt)))
 have HT1:=Lib.hid (hk.alloc (.cells #[.int .i64 0,.int .i64 0,.int .i64 0,.slice none 0 0,.slice none 0 0] 39))
 have HK1:Hid (Keeps (KB b) w (w.alloc (.cells #[.int .i64 0,.int .i64 0,.int .i64 0,.slice none 0 0,.slice none 0 0] 39))):=Lib.hid (keeps_alloc (Keeps.refl _ _) _)
 have HR1:Hid (Blk (w.alloc (.cells #[.int .i64 0,.int .i64 0,.int .i64 0,.slice none 0 0,.slice none 0 0] 39)) w.heap.size #[.int .i64 0,.int .i64 0,.int .i64 0,.slice none 0 0,.slice none 0 0]):=Lib.hid (Blk.fresh _ _ _)
 have HNR:Hid (¬KB b w.heap.size):=Lib.hid (by unfold KB;omega)
 clear hb hk hlt hm0 hm1 hs0 hs1 ha0 ha1 hd0 hd1 hr hV hVL hOK hr1 hVr hIK hVE hVC hVB hVD E hD
 go_enter Tryz.func55,Tryz.ntmps55
 go_wp2_with fail
 refine(HOB.out _ (HB0.out _ HK1.out) HT1.out).mono ?_
 rintro e w3 ⟨hk3,hbt3,⟨hle,rfl⟩|⟨hle,rfl⟩⟩
 rotate_left
 ·have HKK:=HK1.out.trans hk3
  have h1:=HVE.out hle
  unfold failE
  go_wp2
  rw [h1]
  exact⟨rfl,HKK,hbt3,.inr ⟨hle,rfl⟩⟩
 have HLE:=Lib.hid hle
 have HT3:=Lib.hid (hbt3.alloc (.cells #[.int .i64 o.k,.int .i64 o.sg,.int .i64 o.at',.int .i64 o.d,.int .i64 o.p,.int .i64 o.el,.int .i64 o.n,.int .i64 o.cost] 74))
 have HR3:=Lib.hid ((HR1.out.keeps hk3 HNR.out).alloc (.cells #[.int .i64 o.k,.int .i64 o.sg,.int .i64 o.at',.int .i64 o.d,.int .i64 o.p,.int .i64 o.el,.int .i64 o.n,.int .i64 o.cost] 74))
 have HK3:=Lib.hid (keeps_alloc (HK1.out.trans hk3) (.cells #[.int .i64 o.k,.int .i64 o.sg,.int .i64 o.at',.int .i64 o.d,.int .i64 o.p,.int .i64 o.el,.int .i64 o.n,.int .i64 o.cost] 74))
 have HO3:Hid (Blk (w3.alloc (.cells #[.int .i64 o.k,.int .i64 o.sg,.int .i64 o.at',.int .i64 o.d,.int .i64 o.p,.int .i64 o.el,.int .i64 o.n,.int .i64 o.cost] 74)) w3.heap.size #[.int .i64 o.k,.int .i64 o.sg,.int .i64 o.at',.int .i64 o.d,.int .i64 o.p,.int .i64 o.el,.int .i64 o.n,.int .i64 o.cost]):=Lib.hid (Blk.fresh _ _ _)
 have HZ3:Hid (w.heap.size<w3.heap.size∧b<w3.heap.size):=Lib.hid ⟨(HR1.out.keeps hk3 HNR.out).lt,hbt3.lt⟩
 clear hk3 hbt3 hle HT1 HK1 HR1 HOB HVE
 unfold obV
 obtain⟨x2,y2,z2⟩:=HO3.out
 by_cases h7:o.el=7
 ·have t7:(o.el==7)=true:=by simpa using h7
  have HEL:=Lib.hid (HELS.out HLE.out h7)
  have HCE:=Lib.hid (HVB.out HLE.out h7)
  have HCY:=Lib.hid (HVD.out HLE.out h7)
  have HIK:=Lib.hid (HIK0.out HLE.out)
  clear h7 HELS HVB HVD HVC HCO HIK0 HLE
  go_wp2_with fail
  clear x2 y2 z2
  refine abs_code10 (F:=fun W=>Blk W b #[.slice A ls.length c,.int .i64 D,.int .i64 X,.int .i64 O,.int .i64 lm]∧Blk W w.heap.size #[.int .i64 0,.int .i64 0,.int .i64 0,.slice none 0 0,.slice none 0 0]∧Keeps (KB b) w W∧Blk W w3.heap.size #[.int .i64 o.k,.int .i64 o.sg,.int .i64 o.at',.int .i64 o.d,.int .i64 o.p,.int .i64 o.el,.int .i64 o.n,.int .i64 o.cost]) ⟨HT3.out,HR3.out,HK3.out,HO3.out⟩ ?_
  rintro W1 ⟨h1,h2,h3,h4⟩
  have HT1:=Lib.hid h1
  have HR1:=Lib.hid h2
  have HK1:=Lib.hid h3
  have HO1:=Lib.hid h4
  have HL:Hid (b<W1.heap.size):=Lib.hid h1.lt
  have HB:=Lib.hid (fun (w2:World) (h:Below W1.heap.size W1 w2)=>HB0.out w2 (keeps_on h3 h))
  have HNO:Hid (¬KB b w3.heap.size):=Lib.hid (by have:=HZ3.out;unfold KB;omega)
  clear h1 h2 h3 h4 HT3 HR3 HK3 HO3
  generalize w3.heap.size=o9 at *
  refine wp_region_p11 9 (KB b) (by kernel_rfl) (by kernel_rfl) ?_
  refine p_val_l (u:=?_) [9] (by kernel_rfl) rfl (by kernel_rfl) trivial (fun ρ wc hkc hcn hq=>?_) ?_;rotate_left
  ·obtain⟨hcn,hfn⟩:=hcn
   simp at hq
   go_simp
   rfl
  refine p_val_l (u:=?_) [18] (by kernel_rfl) rfl (by kernel_rfl) trivial (fun ρ wc hkc hcn hq=>?_) ?_;rotate_left
  ·obtain⟨hcn,hfn⟩:=hcn
   simp at hq
   have x2:=(HO1.out.keeps (keeps_undrew hkc) HNO.out).cell
   go_simp
   rfl
  refine p_val_l (u:=?_) [9] (by kernel_rfl) rfl (by kernel_rfl) trivial (fun ρ wc hkc hcn hq=>?_) ?_;rotate_left
  ·obtain⟨hcn,hfn⟩:=hcn
   simp at hq
   go_simp
   rfl
  refine p_val_l (u:=?_) [20] (by kernel_rfl) rfl (by kernel_rfl) trivial (fun ρ wc hkc hcn hq=>?_) ?_;rotate_left
  ·obtain⟨hcn,hfn⟩:=hcn
   simp at hq
   have x2:=(HO1.out.keeps (keeps_undrew hkc) HNO.out).cell
   go_simp
   rfl
  refine p_val_l (u:=?_) [9] (by kernel_rfl) rfl (by kernel_rfl) trivial (fun ρ wc hkc hcn hq=>?_) ?_;rotate_left
  ·obtain⟨hcn,hfn⟩:=hcn
   simp at hq
   go_simp
   rfl
  refine p_val_l (u:=?_) [22] (by kernel_rfl) rfl (by kernel_rfl) trivial (fun ρ wc hkc hcn hq=>?_) ?_;rotate_left
  ·obtain⟨hcn,hfn⟩:=hcn
   simp at hq
   have x2:=(HO1.out.keeps (keeps_undrew hkc) HNO.out).cell
   go_simp
   rfl
  refine p_val (u:=?_) [0] (by kernel_rfl) rfl rfl (by kernel_rfl) trivial (fun ρ wc hbc hcn hq=>?_) ?_;rotate_left
  ·obtain⟨hcn,hfn⟩:=hcn
   simp at hq
   go_simp
   rfl
  refine p_val (u:=?_) [9] (by kernel_rfl) rfl rfl (by kernel_rfl) trivial (fun ρ wc hbc hcn hq=>?_) ?_;rotate_left
  ·obtain⟨hcn,hfn⟩:=hcn
   simp at hq
   have x2:=(HO1.out.drew.below hbc).cell
   go_simp
   rfl
  refine p_val (u:=?_) [3] (by kernel_rfl) rfl rfl (by kernel_rfl) trivial (fun ρ wc hbc hcn hq=>?_) ?_;rotate_left
  ·obtain⟨hcn,hfn⟩:=hcn
   simp at hq
   go_simp
   rfl
  refine p_sp (T:=KidF b W1.heap.size R.ks #[.slice A ls.length c,.int .i64 D,.int .i64 X,.int .i64 O,.int .i64 R.m] R.e) 76 [24,25,26] rfl rfl (by kernel_rfl) trivial (stable_kidf _ _ _ _ _) (fun ρ wc hbc hcn hq=>?_) ?_
  ·obtain⟨hcn,hfn⟩:=hcn
   simp at hq
   refine⟨_,by go_simp;rfl,?_⟩
   refine(HEL.out _ (HB.out _ (bel_undrew hbc)) (HT1.out.drew.below hbc)).mono ?_
   rintro e w' ⟨hkk,hbt,⟨he,q,N,rfl,hq1,hrow,hN,hN2⟩|⟨he,rfl⟩⟩
   ·exact .inl ⟨_,rfl,⟨⟨q,N,rfl,Nat.le_trans hbc.size hq1,hrow,hN,hN2⟩,hbt,he⟩,hkk⟩
   ·refine .inr ⟨_,rfl,fun a ha=>⟨ha,(keeps_on HK1.out (bel_undrew hbc)).trans hkk,?_,?_⟩⟩
    ·rw [HCE.out he]
     exact hbt
    ·exact .inr ⟨by rw [HCE.out he];exact he,by rw [HCE.out he];rfl⟩
  refine p_new_l (T:=NodF W1.heap.size (.mk o.k o.el o.n [] R.ks)) [19,21,23,27] (by kernel_rfl) rfl (by kernel_rfl) trivial (stable_nod _ _) (stableK_nod HL.out) (fun ρ wc hkc hcn hq=>?_) ?_
  ·obtain⟨hcn,hfn⟩:=hcn
   simp at hq
   obtain⟨h8,h10,h12,⟨q,N,h19,hq1,hrow,hN,hN2⟩,-⟩:=hq
   refine⟨_,wc,by go_simp;rfl,?_,Below.refl _ _⟩
   exact RowG.nod hrow (Nat.le_refl _) hq1 hN (by unfold maxLen;omega) HIK.out.1 HIK.out.2.1 HIK.out.2.2 (Got.empty _ _ _ _) (fun z hz=>by cases hz)
  refine p_end_lit 33 rfl (fun ff w5 hk5 hk=>?_)
  have h19:KidF b W1.heap.size R.ks #[.slice A ls.length c,.int .i64 D,.int .i64 X,.int .i64 O,.int .i64 R.m] R.e (ff 27) w5:=allN_atF hk 27 (by decide) (by decide)
  have h20:NodF W1.heap.size (.mk o.k o.el o.n [] R.ks) (ff 28) w5:=allN_atF hk 28 (by decide) (by decide)
  simp [AllN] at hk
  simp only [frameL,hk,Nat.zero_add,Nat.reduceAdd]
  clear hk
  obtain⟨-,hbt5,hre⟩:=h19
  have HT5:=Lib.hid hbt5
  have HK5:=Lib.hid (HK1.out.trans (keeps_undrew hk5))
  have HR5:=Lib.hid (HR1.out.keeps (keeps_undrew hk5) HNR.out)
  have HN5:=Lib.hid h20
  have HZ1:Hid (w.heap.size<W1.heap.size):=Lib.hid HR1.out.lt
  obtain⟨A5,c5,B5,e5,hi5,e20,-⟩:=h20
  have HCV:=Lib.hid (HCY.out hre)
  rw [e20] at HN5
  rw [e20]
  simp only [Nd.k,Nd.e,Nd.n,Nd.d,Nd.ks] at HN5 ⊢
  clear e20 hbt5 hk5 hre HCE HCY HEL HT1 HO1 HR1 HB HK1
  generalize R.ks.length=kl at *
  generalize ([]:List Int).length=dl at *
  obtain⟨x2,y2,z2⟩:=HR5.out
  go_wp2_with fail
  refine abs_post (F:=fun W=>Blk W w.heap.size #[.int .i64 o.k,.int .i64 o.el,.int .i64 o.n,.slice A5 dl c5,.slice B5 kl e5]∧Keeps (KB b) w W∧Blk W b #[.slice A ls.length c,.int .i64 D,.int .i64 X,.int .i64 O,.int .i64 R.m]∧NodF W1.heap.size (.mk o.k o.el o.n [] R.ks) (.agg #[.int .i64 o.k,.int .i64 o.el,.int .i64 o.n,.slice A5 dl c5,.slice B5 kl e5]) W) ⟨?_,?_,?_,?_⟩ ?_
  ·exact((((HR5.out.set 0 (by simp) _).set 1 (by simp) _).set 2 (by simp) _).set 3 (by simp) _).set 4 (by simp) _
  ·refine keeps_set (keeps_set (keeps_set (keeps_set (keeps_set HK5.out ?_ _) ?_ _) ?_ _) ?_ _) ?_ _<;>exact .inr (Nat.le_refl _)
  ·have hne:w.heap.size≠b:=fun e=>HNR.out (by unfold KB;exact e)
   exact((((HT5.out.other (p:=⟨w.heap.size,0,none⟩) hne _).other (p:=⟨w.heap.size,1,none⟩) hne _).other (p:=⟨w.heap.size,2,none⟩) hne _).other (p:=⟨w.heap.size,3,none⟩) hne _).other (p:=⟨w.heap.size,4,none⟩) hne _
  ·have hl:=HZ1.out
   exact((((HN5.out.set (p:=⟨w.heap.size,0,none⟩) hl _).set (p:=⟨w.heap.size,1,none⟩) hl _).set (p:=⟨w.heap.size,2,none⟩) hl _).set (p:=⟨w.heap.size,3,none⟩) hl _).set (p:=⟨w.heap.size,4,none⟩) hl _
  rintro V ⟨B6,hkv,ht,hn⟩
  exact bodyPost_ret (v:=.agg #[.int .i64 o.k,.int .i64 o.el,.int .i64 o.n,.slice A5 dl c5,.slice B5 kl e5]) (by simp [results,Tryz.results55,go_sem,B6.cell]) rfl ⟨hkv,by rw [HCV.out];exact ht,.inl ⟨by rw [HCV.out],_,rfl,nodf_lower (by rw [HCV.out];exact hn) (by have:=HZ1.out;omega)⟩⟩
 ·have t7:(o.el==7)=false:=by simpa using h7
  have HC:=Lib.hid (HCO.out HLE.out h7)
  have HCV:=Lib.hid (HVC.out HLE.out h7)
  clear h7 HELS HVB HVD HVC HCO HIK0 HLE
  go_wp2_with fail
  refine(HC.out _ (HB0.out _ HK3.out) HT3.out).mono ?_
  rintro e w5 ⟨hk5,hbt5,⟨he5,v,rfl,hnd⟩|⟨he5,rfl⟩⟩
  rotate_left
  ·have HKK:=HK3.out.trans hk5
   have h1:=HCV.out
   unfold failE
   go_wp2
   rw [h1]
   exact⟨rfl,HKK,hbt5,.inr ⟨he5,rfl⟩⟩
  have HZ1:Hid (w.heap.size<(w3.alloc (.cells #[.int .i64 o.k,.int .i64 o.sg,.int .i64 o.at',.int .i64 o.d,.int .i64 o.p,.int .i64 o.el,.int .i64 o.n,.int .i64 o.cost] 74)).heap.size):=Lib.hid HR3.out.lt
  generalize (w3.alloc (.cells #[.int .i64 o.k,.int .i64 o.sg,.int .i64 o.at',.int .i64 o.d,.int .i64 o.p,.int .i64 o.el,.int .i64 o.n,.int .i64 o.cost] 74)).heap.size=lo at *
  have HT5:=Lib.hid hbt5
  have HK5:=Lib.hid (HK3.out.trans hk5)
  have HR5:=Lib.hid (HR3.out.keeps hk5 HNR.out)
  have HN5:=Lib.hid hnd
  have HE5:=Lib.hid he5
  obtain⟨A5,c5,B5,e5,hi5,rfl,-⟩:=hnd
  clear hk5 hbt5 he5 x2 y2 z2 HC HT3 HR3 HK3 HO3
  obtain⟨x2,y2,z2⟩:=HR5.out
  go_wp2_with fail
  refine abs_post (F:=fun W=>Blk W w.heap.size #[.int .i64 KV.n.k,.int .i64 KV.n.e,.int .i64 KV.n.n,.slice A5 KV.n.d.length c5,.slice B5 KV.n.ks.length e5]∧Keeps (KB b) w W∧Blk W b #[.slice A ls.length c,.int .i64 D,.int .i64 X,.int .i64 O,.int .i64 KV.m]∧NodF lo KV.n (.agg #[.int .i64 KV.n.k,.int .i64 KV.n.e,.int .i64 KV.n.n,.slice A5 KV.n.d.length c5,.slice B5 KV.n.ks.length e5]) W) ⟨?_,?_,?_,?_⟩ ?_
  ·exact((((HR5.out.set 0 (by simp) _).set 1 (by simp) _).set 2 (by simp) _).set 3 (by simp) _).set 4 (by simp) _
  ·refine keeps_set (keeps_set (keeps_set (keeps_set (keeps_set HK5.out ?_ _) ?_ _) ?_ _) ?_ _) ?_ _<;>exact .inr (Nat.le_refl _)
  ·have hne:w.heap.size≠b:=fun e=>HNR.out (by unfold KB;exact e)
   exact((((HT5.out.other (p:=⟨w.heap.size,0,none⟩) hne _).other (p:=⟨w.heap.size,1,none⟩) hne _).other (p:=⟨w.heap.size,2,none⟩) hne _).other (p:=⟨w.heap.size,3,none⟩) hne _).other (p:=⟨w.heap.size,4,none⟩) hne _
  ·have hl:=HZ1.out
   exact((((HN5.out.set (p:=⟨w.heap.size,0,none⟩) hl _).set (p:=⟨w.heap.size,1,none⟩) hl _).set (p:=⟨w.heap.size,2,none⟩) hl _).set (p:=⟨w.heap.size,3,none⟩) hl _).set (p:=⟨w.heap.size,4,none⟩) hl _
  rintro V ⟨B6,hkv,ht,hn⟩
  exact bodyPost_ret (v:=.agg #[.int .i64 KV.n.k,.int .i64 KV.n.e,.int .i64 KV.n.n,.slice A5 KV.n.d.length c5,.slice B5 KV.n.ks.length e5]) (by simp [results,Tryz.results55,go_sem,B6.cell]) rfl ⟨hkv,by rw [HCV.out];exact ht,.inl ⟨by rw [HCV.out];exact HE5.out,_,rfl,nodf_lower (by rw [HCV.out];exact hn) (by have:=HZ1.out;omega)⟩⟩
theorem value_any (b:Nat)(A:Option Addr)(c:Nat)(ls:List (List Int))(D X O:Int)(w0:World)(E:EnvD b A ls w0)(hD:D≤900):∀r,ValL b A c ls D X O w0 r
 | 0=>value_step b A c ls D X O w0 0 E hD (fun r' h=>by omega)
 | r+1=>value_step b A c ls D X O w0 (r+1) E hD (fun r' h=>by
  obtain rfl:r=r':=by omega
  exact value_any b A c ls D X O w0 E hD r)
end
end Go.Proofs.YtbpmeppdjicmhaaGreatDoor
