/- The texts EqE, EqF (what is wanted of them), one after the other. -/
import Derived.Test.YtfaflahfjgnphaaGreatDoorMg34
import Derived.Test.YtfaflahfjgnphaaGreatDoorMg35
namespace Go.Proofs.YtfaflahfjgnphaaGreatDoor
open Go.ChangeShapes Go.WideShapes Go.ChangeAt Go.RowKit
set_option linter.unusedVariables false
set_option linter.unusedSimpArgs false
set_option maxRecDepth 100000
section
attribute [local simp] AllK KnowsV look Is
def EqOC (A:Option Addr)(c:Nat)(B:Option Addr)(c2:Nat)(ms ns:List (List Int))(r:Nat):Prop:=
 ∀(o p:Ob) (X Y:Nd) (w:World),EnvQ A ms w→EnvQ B ns w→ObjOk ms r o X→ObjOk ns r p Y →
  Calls Tryz.prog 15 #[.agg #[.slice A ms.length c,.slice B ns.length c2],.agg #[.int .i64 o.k,.int .i64 o.sg,.int .i64 o.at',.int .i64 o.d,.int .i64 o.p,.int .i64 o.el,.int .i64 o.n,.int .i64 o.cost],.agg #[.int .i64 p.k,.int .i64 p.sg,.int .i64 p.at',.int .i64 p.d,.int .i64 p.p,.int .i64 p.el,.int .i64 p.n,.int .i64 p.cost]] w fun rr w'=>rr=.returned (.bool (eqT X Y))∧Below w.heap.size w w'
theorem ptrO_bdE {o:Ob}(h:ObQ o):∃(x:Int) (y:Nat),ptrO o=(x,(y:Int))∧0≤x∧x≤200000000000∧y≤536870911:=by
 have h1:=h.at'
 have h2:=h.d
 have h3:=h.p
 have h4:=h.n
 refine⟨(ptrO o).1,(ptrO o).2.toNat,Prod.ext rfl ?_,?_⟩
 ·unfold ptrO
  repeat' split
  all_goals simp only
  all_goals omega
 ·unfold ptrO
  repeat' split
  all_goals simp only
  all_goals omega
theorem kid_ok {ls:List (List Int)}(hw:Wd2 ls)(hm:ls.length≤40)(hf:∀j,(seg ls j).length≤20000000){r:Nat}{o:Ob}{ks:List Nd}(h:KidsOk ls r o ks){x:Int}{y:Nat}(hp:ptrO o=(x,(y:Int)))(i:Nat):
  ∃v,ObjOk ls r v (kidN ks i)∧(if (y:Int)≤(i:Int) then v=ob0 else ∃e0,objF ls o.sg (x+(i:Int))=(v,e0)):=by
 have hl:ks.length=y:=by have:=h.1;rw [hp] at this;simpa using this
 by_cases hi:(y:Int)≤(i:Int)
 ·refine⟨ob0,.inl ⟨rfl,kidN_out (by omega)⟩,?_⟩
  rw [if_pos hi]
 ·have h1:=h.2 i (by omega)
  rw [hp] at h1
  refine⟨_,okV_obj hw hm hf h1,?_⟩
  rw [if_neg hi]
  exact⟨_,rfl⟩
set_option maxHeartbeats 4000000 in
theorem Eptrs_any (A:Option Addr)(c:Nat)(B:Option Addr)(c2:Nat)(ms ns:List (List Int))(r:Nat)(HO:EqOC A c B c2 ms ns r)(o p:Ob)(ks ks':List Nd)(w:World)(E1:EnvQ A ms w)(E2:EnvQ B ns w)(ho:ObQ o)(hp:ObQ p)(h:KidsOk ms r o ks)(h':KidsOk ns r p ks'):
  Calls Tryz.prog 30 #[.agg #[.slice A ms.length c,.slice B ns.length c2],.agg #[.int .i64 o.k,.int .i64 o.sg,.int .i64 o.at',.int .i64 o.d,.int .i64 o.p,.int .i64 o.el,.int .i64 o.n,.int .i64 o.cost],.agg #[.int .i64 p.k,.int .i64 p.sg,.int .i64 p.at',.int .i64 p.d,.int .i64 p.p,.int .i64 p.el,.int .i64 p.n,.int .i64 p.cost]] w fun rr w'=>rr=.returned (.bool (rowE ks ks'))∧Below w.heap.size w w':=by
 obtain⟨x,y,hx,hx0,hx1,hy⟩:=ptrO_bdE ho
 obtain⟨x',y',hx',hx0',hx1',hy'⟩:=ptrO_bdE hp
 have hl:ks.length=y:=by have:=h.1;rw [hx] at this;simpa using this
 have hl':ks'.length=y':=by have:=h'.1;rw [hx'] at this;simpa using this
 have HB0:Hid (Below w.heap.size w (((w.alloc (.cells #[.slice A ms.length c,.slice B ns.length c2] 45)).alloc (.cells (obA o) 48)).alloc (.cells (obA p) 48))):=Lib.hid ((((Below.refl w.heap.size w).alloc (Nat.le_refl _) _).alloc (by simp) _).alloc (by simp;omega) _)
 have HP0:Hid (Blk (((w.alloc (.cells #[.slice A ms.length c,.slice B ns.length c2] 45)).alloc (.cells (obA o) 48)).alloc (.cells (obA p) 48)) w.heap.size #[.slice A ms.length c,.slice B ns.length c2]):=Lib.hid (((Blk.fresh _ _ _).alloc _).alloc _)
 have HX0:Hid (Blk (((w.alloc (.cells #[.slice A ms.length c,.slice B ns.length c2] 45)).alloc (.cells (obA o) 48)).alloc (.cells (obA p) 48)) (w.heap.size+1) (obA o)):=Lib.hid ((Blk.new (by simp)).alloc _)
 have HY0:Hid (Blk (((w.alloc (.cells #[.slice A ms.length c,.slice B ns.length c2] 45)).alloc (.cells (obA o) 48)).alloc (.cells (obA p) 48)) (w.heap.size+2) (obA p)):=Lib.hid (Blk.new (by simp))
 have HR1:=Lib.hid (fun w2=>RPointers_is o.k o.sg o.at' o.d o.p o.el o.n o.cost x y w2 ho.at'.1 (by have:=ho.at';omega) ho.d.1 ho.d.2 hx)
 have HR2:=Lib.hid (fun w2=>RPointers_is p.k p.sg p.at' p.d p.p p.el p.n p.cost x' y' w2 hp.at'.1 (by have:=hp.at';omega) hp.d.1 hp.d.2 hx')
 unfold obA at HB0 HP0 HX0 HY0
 go_enter Tryz.func30,Tryz.ntmps30
 go_wp2_with fail
 refine(HR1.out _).mono ?_
 rintro rr w1 ⟨rfl,hb1⟩
 have HB1:=Lib.hid (bel_on HB0.out hb1)
 have HP1:=Lib.hid (HP0.out.below hb1)
 have HX1:=Lib.hid (HX0.out.below hb1)
 have HY1:=Lib.hid (HY0.out.below hb1)
 clear hb1 HB0 HP0 HX0 HY0
 obtain⟨x1,y1,z1⟩:=HY1.out
 go_wp2_with fail
 refine(HR2.out _).mono ?_
 rintro rr w2 ⟨rfl,hb2⟩
 have HB2:=Lib.hid (bel_on HB1.out hb2)
 have HP2:=Lib.hid (HP1.out.below hb2)
 have HX2:=Lib.hid (HX1.out.below hb2)
 have HY2:=Lib.hid (HY1.out.below hb2)
 clear hb2 HB1 HP1 HX1 HY1 x1 y1 z1 HR1 HR2
 have HE1:=Lib.hid (E1.on HB2.out)
 have HE2:=Lib.hid (E2.on HB2.out)
 have HK:=Lib.hid (fun i=>kid_ok E1.wd E1.m E1.f h hx i)
 have HK':=Lib.hid (fun i=>kid_ok E2.wd E2.m E2.f h' hx' i)
 have HKA:=Lib.hid (fun (i:Nat) (hi:i≤536870911) (v:Ob) (hv:if (y:Int)≤(i:Int) then v=ob0 else ∃e0,objF ms o.sg (x+(i:Int))=(v,e0)) w3 (E3:EnvQ A ms w3)=>Ekid_core A c ms.length ms o.k o.sg o.at' o.d o.p o.el o.n o.cost x y i v w3 E3 rfl ho.sg ho.at' ho.d (by omega) hx (by omega) hv)
 have HKB:=Lib.hid (fun (i:Nat) (hi:i≤536870911) (v:Ob) (hv:if (y':Int)≤(i:Int) then v=ob0 else ∃e0,objF ns p.sg (x'+(i:Int))=(v,e0)) w3 (E3:EnvQ B ns w3)=>Ekid_core B c2 ns.length ns p.k p.sg p.at' p.d p.p p.el p.n p.cost x' y' i v w3 E3 rfl hp.sg hp.at' hp.d (by omega) hx' (by omega) hv)
 obtain⟨N,hN⟩:∃N,N=max y y':=⟨_,rfl⟩
 have HY:Hid ((∀j,j<N→eqT (kidN ks j) (kidN ks' j)=true)→rowE ks ks'=true):=Lib.hid (fun h=>by unfold rowE;rw [hl,hl',←hN];exact decide_eq_true h)
 have HNO:Hid (∀j,eqT (kidN ks j) (kidN ks' j)=false→rowE ks ks'=false):=Lib.hid (fun j h=>rowE_no h)
 have HO':=Lib.hid HO
 have HL:Hid (y<y'→N=y'):=Lib.hid (fun h=>by omega)
 have HG:Hid (¬y<y'→N=y):=Lib.hid (fun h=>by omega)
 have hNb:N≤536870911:=by omega
 clear E1 E2 HO h h' hx hx' hl hl' ho hp hN hx0 hx1 hx0' hx1'
 by_cases hyy:y<y'
 all_goals
  first
  | (have e:=HL.out hyy;subst e)
  | (have e:=HG.out hyy;subst e)
  clear HL HG
  go_wp2
  clear hyy
  go_loopw [25] (fun i wr=>∃j:Nat,j≤N∧i=.int .i64 j∧(∀l,l<j→eqT (kidN ks l) (kidN ks' l)=true)∧Below w2.heap.size w2 wr) (fun i _=>N-(intOf i).toNat)
  case atStart=>exact⟨0,by omega,rfl,fun l hl=>absurd hl (Nat.not_lt_zero _),Below.refl _ _⟩
  case round=>
   obtain⟨j,hj,rfl,hal,hbr⟩:=hrel
   have HR:=Lib.hid hbr
   have HAL:=Lib.hid hal
   clear hbr hal
   by_cases hlt:j<N
   ·have hj1:(j:Int)<(N:Int):=by omega
    obtain⟨v,hov,hv⟩:=HK.out j
    obtain⟨v',hov',hv'⟩:=HK'.out j
    have HK1:=Lib.hid (HKA.out j (by omega) v hv)
    have HK2:=Lib.hid (HKB.out j (by omega) v' hv')
    have HOB:=Lib.hid (fun w3 (a:EnvQ A ms w3) (b:EnvQ B ns w3)=>HO'.out v v' _ _ w3 a b hov hov')
    have HNJ:=Lib.hid (HNO.out j)
    have HAN:Hid (eqT (kidN ks j) (kidN ks' j)=true→∀l,l<j+1→eqT (kidN ks l) (kidN ks' l)=true):=Lib.hid (fun h l hl=>by
     by_cases e:l=j
     ·subst e;exact h
     ·exact HAL.out l (by omega))
    have HE1:=Lib.hid (HE1.out.on HR.out)
    have HE2:=Lib.hid (HE2.out.on HR.out)
    have HP3:=Lib.hid (HP2.out.below HR.out)
    have HX3:=Lib.hid (HX2.out.below HR.out)
    have HY3:=Lib.hid (HY2.out.below HR.out)
    clear hov hov' hv hv'
    generalize eqT (kidN ks j) (kidN ks' j)=b at *
    go_wp2_with fail
    rename_i KK hKK
    refine wp_region_chain (by kernel_rfl) (by kernel_rfl) ?_
    refine chain_val (u:=?_) [3] rfl (by kernel_rfl) trivial (fun ρ wc hbc hcn hq=>?_) ?_;rotate_left
    ·obtain⟨hcn,hfn⟩:=hcn
     simp at hq
     have x1:=(HP3.out.drew.below hbc).cell
     have x2:=(HX3.out.drew.below hbc).cell
     have x3:=(HY3.out.drew.below hbc).cell
     go_simp
     rfl
    refine chain_val (u:=?_) [3] rfl (by kernel_rfl) trivial (fun ρ wc hbc hcn hq=>?_) ?_;rotate_left
    ·obtain⟨hcn,hfn⟩:=hcn
     simp at hq
     go_simp
     rfl
    refine chain_val (u:=?_) [29] rfl (by kernel_rfl) trivial (fun ρ wc hbc hcn hq=>?_) ?_;rotate_left
    ·obtain⟨hcn,hfn⟩:=hcn
     simp at hq
     have x1:=(HP3.out.drew.below hbc).cell
     have x2:=(HX3.out.drew.below hbc).cell
     have x3:=(HY3.out.drew.below hbc).cell
     go_simp
     rfl
    refine chain_val (u:=?_) [4] rfl (by kernel_rfl) trivial (fun ρ wc hbc hcn hq=>?_) ?_;rotate_left
    ·obtain⟨hcn,hfn⟩:=hcn
     simp at hq
     have x1:=(HP3.out.drew.below hbc).cell
     have x2:=(HX3.out.drew.below hbc).cell
     have x3:=(HY3.out.drew.below hbc).cell
     go_simp
     rfl
    refine chain_val (u:=?_) [11] rfl (by kernel_rfl) trivial (fun ρ wc hbc hcn hq=>?_) ?_;rotate_left
    ·obtain⟨hcn,hfn⟩:=hcn
     simp at hq
     go_simp
     rfl
    refine chain_call (T:=Is ?_) 48 [30,31,32] rfl (by kernel_rfl) trivial (stable_is _) (fun ρ wc hbc hcn hq=>?_) ?_;rotate_left
    ·obtain⟨hcn,hfn⟩:=hcn
     simp at hq
     refine⟨_,by go_simp;rfl,?_⟩
     refine(HK1.out _ (HE1.out.on (und hbc))).mono ?_
     rintro e w' ⟨rfl,hbq⟩
     refine⟨_,rfl,?_,hbq⟩
     unfold Is
     rfl
    refine chain_val (u:=?_) [3] rfl (by kernel_rfl) trivial (fun ρ wc hbc hcn hq=>?_) ?_;rotate_left
    ·obtain⟨hcn,hfn⟩:=hcn
     simp at hq
     go_simp
     rfl
    refine chain_val (u:=?_) [34] rfl (by kernel_rfl) trivial (fun ρ wc hbc hcn hq=>?_) ?_;rotate_left
    ·obtain⟨hcn,hfn⟩:=hcn
     simp at hq
     have x1:=(HP3.out.drew.below hbc).cell
     have x2:=(HX3.out.drew.below hbc).cell
     have x3:=(HY3.out.drew.below hbc).cell
     go_simp
     rfl
    refine chain_val (u:=?_) [5] rfl (by kernel_rfl) trivial (fun ρ wc hbc hcn hq=>?_) ?_;rotate_left
    ·obtain⟨hcn,hfn⟩:=hcn
     simp at hq
     have x1:=(HP3.out.drew.below hbc).cell
     have x2:=(HX3.out.drew.below hbc).cell
     have x3:=(HY3.out.drew.below hbc).cell
     go_simp
     rfl
    refine chain_val (u:=?_) [11] rfl (by kernel_rfl) trivial (fun ρ wc hbc hcn hq=>?_) ?_;rotate_left
    ·obtain⟨hcn,hfn⟩:=hcn
     simp at hq
     go_simp
     rfl
    refine chain_call (T:=Is ?_) 48 [35,36,37] rfl (by kernel_rfl) trivial (stable_is _) (fun ρ wc hbc hcn hq=>?_) ?_;rotate_left
    ·obtain⟨hcn,hfn⟩:=hcn
     simp at hq
     refine⟨_,by go_simp;rfl,?_⟩
     refine(HK2.out _ (HE2.out.on (und hbc))).mono ?_
     rintro e w' ⟨rfl,hbq⟩
     refine⟨_,rfl,?_,hbq⟩
     unfold Is
     rfl
    refine chain_call (T:=Is ?_) 15 [28,33,38] rfl (by kernel_rfl) trivial (stable_is _) (fun ρ wc hbc hcn hq=>?_) ?_;rotate_left
    ·obtain⟨hcn,hfn⟩:=hcn
     simp at hq
     refine⟨_,by go_simp;rfl,?_⟩
     refine(HOB.out _ (HE1.out.on (und hbc)) (HE2.out.on (und hbc))).mono ?_
     rintro e w' ⟨rfl,hbq⟩
     refine⟨_,rfl,?_,hbq⟩
     unfold Is
     rfl
    refine chain_val (u:=?_) [39] rfl (by kernel_rfl) trivial (fun ρ wc hbc hcn hq=>?_) ?_;rotate_left
    ·obtain⟨hcn,hfn⟩:=hcn
     simp at hq
     go_simp
     rfl
    refine chain_end_lit 42 rfl (fun ff w5 hb5 hk=>?_)
    have HB6:=Lib.hid (HR.out.trans ((und hb5).mono HR.out.size))
    simp [AllN] at hk
    simp only [frameL,hk]
    refine hKK _ _ ?_
    clear hk hb5 hKK KK
    cases b with
    | false=>
     have HV:=Lib.hid (HNJ.out rfl)
     go_wp2
     go_ret
     exact⟨by rw [HV.out];rfl,bel_on HB2.out HB6.out⟩
    | true=>
     have HV:=Lib.hid (HAN.out rfl)
     go_wp2
     go_roundw
     case rel=>exact⟨j+1,by omega,by go_num,HV.out,HB6.out⟩
     case measure=>simp [intOf];omega
   ·obtain rfl:j=N:=by omega
    have HV:=Lib.hid (HY.out HAL.out)
    go_wp2
    go_ret
    exact⟨by rw [HV.out];rfl,bel_on HB2.out HR.out⟩
end
section
attribute [local simp] AllK KnowsV look Is
set_option maxHeartbeats 4000000 in
theorem Estr_any (A:Option Addr)(c:Nat)(B:Option Addr)(c2:Nat)(ms ns:List (List Int))(r:Nat)(HO:EqOC A c B c2 ms ns r)(o p:Ob)(ks ks':List Nd)(w:World)(E1:EnvQ A ms w)(E2:EnvQ B ns w)(ho:ObQ o)(hp:ObQ p)(h:KidsOk ms r o ks)(h':KidsOk ns r p ks'):
    Calls Tryz.prog 29 #[.agg #[.slice A ms.length c,.slice B ns.length c2],.agg #[.int .i64 o.k,.int .i64 o.sg,.int .i64 o.at',.int .i64 o.d,.int .i64 o.p,.int .i64 o.el,.int .i64 o.n,.int .i64 o.cost],.agg #[.int .i64 p.k,.int .i64 p.sg,.int .i64 p.at',.int .i64 p.d,.int .i64 p.p,.int .i64 p.el,.int .i64 p.n,.int .i64 p.cost]] w fun rr w'=>rr=.returned (.bool (dataE (datW ms o.sg o.at' o.d) (datW ns p.sg p.at' p.d)&&rowE ks ks'))∧Below w.heap.size w w':=by
  have HB0:Hid (Below w.heap.size w (((w.alloc (.cells #[.slice A ms.length c,.slice B ns.length c2] 45)).alloc (.cells (obA o) 48)).alloc (.cells (obA p) 48))):=Lib.hid ((((Below.refl w.heap.size w).alloc (Nat.le_refl _) _).alloc (by simp) _).alloc (by simp;omega) _)
  have HP0:Hid (Blk (((w.alloc (.cells #[.slice A ms.length c,.slice B ns.length c2] 45)).alloc (.cells (obA o) 48)).alloc (.cells (obA p) 48)) w.heap.size #[.slice A ms.length c,.slice B ns.length c2]):=Lib.hid (((Blk.fresh _ _ _).alloc _).alloc _)
  have HX0:Hid (Blk (((w.alloc (.cells #[.slice A ms.length c,.slice B ns.length c2] 45)).alloc (.cells (obA o) 48)).alloc (.cells (obA p) 48)) (w.heap.size+1) (obA o)):=Lib.hid ((Blk.new (by simp)).alloc _)
  have HY0:Hid (Blk (((w.alloc (.cells #[.slice A ms.length c,.slice B ns.length c2] 45)).alloc (.cells (obA o) 48)).alloc (.cells (obA p) 48)) (w.heap.size+2) (obA p)):=Lib.hid (Blk.new (by simp))
  have HS0:Hid (w.heap.size≤(((w.alloc (.cells #[.slice A ms.length c,.slice B ns.length c2] 45)).alloc (.cells (obA o) 48)).alloc (.cells (obA p) 48)).heap.size):=Lib.hid (by simp;omega)
  unfold obA at HB0 HP0 HX0 HY0 HS0
  have HPT:=Lib.hid (fun w2 (a:EnvQ A ms w2) (b:EnvQ B ns w2)=>Eptrs_any A c B c2 ms ns r HO o p ks ks' w2 a b ho hp h h')
  have HDX:=Lib.hid (fun w2 (a:EnvQ A ms w2)=>Edata_any A c ms.length ms o.k o.sg o.at' o.d o.p o.el o.n o.cost w2 a rfl ho.sg ho.at' ho.d)
  have HDY:=Lib.hid (fun w2 (a:EnvQ B ns w2)=>Edata_any B c2 ns.length ns p.k p.sg p.at' p.d p.p p.el p.n p.cost w2 a rfl hp.sg hp.at' hp.d)
  have hx1:(datW ms o.sg o.at' o.d).length≤1000000:=by have:=datW_le ms o.sg o.at' o.d;have:=ho.d;omega
  have hy1:(datW ns p.sg p.at' p.d).length≤1000000:=by have:=datW_le ns p.sg p.at' p.d;have:=hp.d;omega
  generalize datW ms o.sg o.at' o.d=xs at *
  generalize datW ns p.sg p.at' p.d=ys at *
  have HE1:=Lib.hid (E1.on HB0.out)
  have HE2:=Lib.hid (E2.on HB0.out)
  obtain⟨d,hd⟩:∃d,dataE xs ys=d:=⟨_,rfl⟩
  have HD:=Lib.hid (fun A1 c1 A2 c3 w2 (h1:Ri w2 .u64 A1 xs) (h2:Ri w2 .u64 A2 ys) h3 h4 h5 h6=>(by
    have h:=EDataB_any A1 c1 A2 c3 xs ys w2 h1 h2 hx1 hy1 h3 h4 h5 h6
    rw [hd] at h
    exact h:Calls Tryz.prog 9 #[.slice A1 xs.length c1,.slice A2 ys.length c3] w2 fun r w'=>r=.returned (.bool d)∧Below w2.heap.size w2 w'))
  rw [hd]
  clear E1 E2 HO h h' ho hp hd hx1 hy1
  generalize rowE ks ks'=q at *
  go_enter Tryz.func29,Tryz.ntmps29
  go_wp2_with fail
  refine abs_code10 (F:=fun W=>W=(((w.alloc (.cells #[.slice A ms.length c,.slice B ns.length c2] 45)).alloc (.cells #[.int .i64 o.k,.int .i64 o.sg,.int .i64 o.at',.int .i64 o.d,.int .i64 o.p,.int .i64 o.el,.int .i64 o.n,.int .i64 o.cost] 48)).alloc (.cells #[.int .i64 p.k,.int .i64 p.sg,.int .i64 p.at',.int .i64 p.d,.int .i64 p.p,.int .i64 p.el,.int .i64 p.n,.int .i64 p.cost] 48))) rfl ?_
  rintro W1 hW1
  rw [←hW1] at HB0 HP0 HX0 HY0 HS0 HE1 HE2
  clear hW1
  rename_i KK hKK
  rcases d with _|_
  all_goals
    refine wp_region_chain (by kernel_rfl) (by kernel_rfl) ?_
    refine chain_val (u:=?_) [3] rfl (by kernel_rfl) trivial (fun ρ wc hbc hcn hq=>?_) ?_;rotate_left
    · obtain⟨hcn,hfn⟩:=hcn
      simp at hq
      go_simp
      rfl
    refine chain_val (u:=?_) [7] rfl (by kernel_rfl) trivial (fun ρ wc hbc hcn hq=>?_) ?_;rotate_left
    · obtain⟨hcn,hfn⟩:=hcn
      simp at hq
      have x1:=(HP0.out.drew.below hbc).cell
      have x2:=(HX0.out.drew.below hbc).cell
      have x3:=(HY0.out.drew.below hbc).cell
      go_simp
      rfl
    refine chain_val (u:=?_) [4] rfl (by kernel_rfl) trivial (fun ρ wc hbc hcn hq=>?_) ?_;rotate_left
    · obtain⟨hcn,hfn⟩:=hcn
      simp at hq
      have x1:=(HP0.out.drew.below hbc).cell
      have x2:=(HX0.out.drew.below hbc).cell
      have x3:=(HY0.out.drew.below hbc).cell
      go_simp
      rfl
    refine chain_call (T:=WrdG w.heap.size xs) 46 [8,9] rfl (by kernel_rfl) trivial (stable_wrdg _ _) (fun ρ wc hbc hcn hq=>?_) ?_
    · obtain⟨hcn,hfn⟩:=hcn
      simp at hq
      refine⟨_,by go_simp;rfl,?_⟩
      refine(HDX.out _ (HE1.out.on (und hbc))).mono ?_
      rintro e w' ⟨v,rfl,hg,hbq⟩
      exact⟨_,rfl,hg.mono (Nat.le_trans HS0.out hbc.size),hbq⟩
    refine chain_val (u:=?_) [3] rfl (by kernel_rfl) trivial (fun ρ wc hbc hcn hq=>?_) ?_;rotate_left
    · obtain⟨hcn,hfn⟩:=hcn
      simp at hq
      go_simp
      rfl
    refine chain_val (u:=?_) [11] rfl (by kernel_rfl) trivial (fun ρ wc hbc hcn hq=>?_) ?_;rotate_left
    · obtain⟨hcn,hfn⟩:=hcn
      simp at hq
      have x1:=(HP0.out.drew.below hbc).cell
      have x2:=(HX0.out.drew.below hbc).cell
      have x3:=(HY0.out.drew.below hbc).cell
      go_simp
      rfl
    refine chain_val (u:=?_) [5] rfl (by kernel_rfl) trivial (fun ρ wc hbc hcn hq=>?_) ?_;rotate_left
    · obtain⟨hcn,hfn⟩:=hcn
      simp at hq
      have x1:=(HP0.out.drew.below hbc).cell
      have x2:=(HX0.out.drew.below hbc).cell
      have x3:=(HY0.out.drew.below hbc).cell
      go_simp
      rfl
    refine chain_call (T:=WrdG w.heap.size ys) 46 [12,13] rfl (by kernel_rfl) trivial (stable_wrdg _ _) (fun ρ wc hbc hcn hq=>?_) ?_
    · obtain⟨hcn,hfn⟩:=hcn
      simp at hq
      refine⟨_,by go_simp;rfl,?_⟩
      refine(HDY.out _ (HE2.out.on (und hbc))).mono ?_
      rintro e w' ⟨v,rfl,hg,hbq⟩
      exact⟨_,rfl,hg.mono (Nat.le_trans HS0.out hbc.size),hbq⟩
    refine chain_call (T:=Is ?_) 9 [10,14] rfl (by kernel_rfl) trivial (stable_is _) (fun ρ wc hbc hcn hq=>?_) ?_;rotate_left
    · obtain⟨hcn,hfn⟩:=hcn
      simp at hq
      obtain⟨h10,h14⟩:=hq
      obtain⟨A1,c1,e10,hc0,hm0,hri,hnil⟩:=Got.full h10
      obtain⟨A2,c3,e14,hc1,hm1,hri1,hnil1⟩:=Got.full h14
      refine⟨_,by go_simp;rfl,?_⟩
      refine(HD.out A1 c1 A2 c3 _ hri hri1 hc0 hc1 hm0 hm1).mono ?_
      rintro e w' ⟨rfl,hbq⟩
      refine⟨_,rfl,?_,hbq⟩
      unfold Is
      rfl
    refine chain_val (u:=?_) [15] rfl (by kernel_rfl) trivial (fun ρ wc hbc hcn hq=>?_) ?_;rotate_left
    · obtain⟨hcn,hfn⟩:=hcn
      simp at hq
      go_simp
      rfl
    first
    | refine chain_skip (s:=16) (c:=false) rfl rfl (by decide +kernel) rfl rfl (fun w x hx=>by simpa using hx) ?_
    | refine chain_skipU (s:=16) rfl rfl (by decide +kernel) rfl (fun w x hx=>by simpa using hx) ?_
    | (refine chain_val (u:=?_) [3] rfl (by kernel_rfl) ⟨16,by decide +kernel,rfl,fun w x hx=>by simpa using hx⟩ (fun ρ wc hbc hcn hq=>?_) ?_;rotate_left
       · obtain⟨hcn,hfn⟩:=hcn
         simp at hq
         have x1:=(HP0.out.drew.below hbc).cell
         have x2:=(HX0.out.drew.below hbc).cell
         have x3:=(HY0.out.drew.below hbc).cell
         go_simp
         rfl)
    first
    | refine chain_skip (s:=16) (c:=false) rfl rfl (by decide +kernel) rfl rfl (fun w x hx=>by simpa using hx) ?_
    | refine chain_skipU (s:=16) rfl rfl (by decide +kernel) rfl (fun w x hx=>by simpa using hx) ?_
    | (refine chain_val (u:=?_) [4] rfl (by kernel_rfl) ⟨16,by decide +kernel,rfl,fun w x hx=>by simpa using hx⟩ (fun ρ wc hbc hcn hq=>?_) ?_;rotate_left
       · obtain⟨hcn,hfn⟩:=hcn
         simp at hq
         have x1:=(HP0.out.drew.below hbc).cell
         have x2:=(HX0.out.drew.below hbc).cell
         have x3:=(HY0.out.drew.below hbc).cell
         go_simp
         rfl)
    first
    | refine chain_skip (s:=16) (c:=false) rfl rfl (by decide +kernel) rfl rfl (fun w x hx=>by simpa using hx) ?_
    | refine chain_skipU (s:=16) rfl rfl (by decide +kernel) rfl (fun w x hx=>by simpa using hx) ?_
    | (refine chain_val (u:=?_) [5] rfl (by kernel_rfl) ⟨16,by decide +kernel,rfl,fun w x hx=>by simpa using hx⟩ (fun ρ wc hbc hcn hq=>?_) ?_;rotate_left
       · obtain⟨hcn,hfn⟩:=hcn
         simp at hq
         have x1:=(HP0.out.drew.below hbc).cell
         have x2:=(HX0.out.drew.below hbc).cell
         have x3:=(HY0.out.drew.below hbc).cell
         go_simp
         rfl)
    first
    | refine chain_skip (s:=16) (c:=false) rfl rfl (by decide +kernel) rfl rfl (fun w x hx=>by simpa using hx) ?_
    | refine chain_skipU (s:=16) rfl rfl (by decide +kernel) rfl (fun w x hx=>by simpa using hx) ?_
    | (refine chain_call (T:=Is ?_) 30 [17,18,19] rfl (by kernel_rfl) ⟨16,by decide +kernel,rfl,fun w x hx=>by simpa using hx⟩ (stable_is _) (fun ρ wc hbc hcn hq=>?_) ?_;rotate_left
       · obtain⟨hcn,hfn⟩:=hcn
         simp at hq
         refine⟨_,by go_simp;rfl,?_⟩
         refine(HPT.out _ (HE1.out.on (und hbc)) (HE2.out.on (und hbc))).mono ?_
         rintro e w' ⟨rfl,hbq⟩
         refine⟨_,rfl,?_,hbq⟩
         unfold Is
         rfl)
    refine chain_val (u:=?_) [16,20] rfl (by kernel_rfl) trivial (fun ρ wc hbc hcn hq=>?_) ?_;rotate_left
    · obtain⟨hcn,hfn⟩:=hcn
      simp at hq
      go_simp
      rfl
    refine chain_val (u:=?_) [21] rfl (by kernel_rfl) trivial (fun ρ wc hbc hcn hq=>?_) ?_;rotate_left
    · obtain⟨hcn,hfn⟩:=hcn
      simp at hq
      go_simp
      rfl
    refine chain_end_lit 22 rfl (fun ff w5 hb5 hk=>?_)
    have HB6:=Lib.hid (bel_on HB0.out (und hb5))
    simp [AllN] at hk
    simp only [frameL,hk]
    refine hKK _ _ ?_
    clear hk hb5
    go_wp2
    go_ret
    exact⟨by first|rfl|simp,HB6.out⟩
end
end Go.Proofs.YtfaflahfjgnphaaGreatDoor
