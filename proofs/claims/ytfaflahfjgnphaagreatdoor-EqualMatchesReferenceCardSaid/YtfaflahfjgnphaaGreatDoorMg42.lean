/- The texts EqG, EqI, EqJ, EqP (what is wanted of them), one after the other. -/
import Derived.Test.YtfaflahfjgnphaaGreatDoorMg15
import Derived.Test.YtfaflahfjgnphaaGreatDoorMg36
import Derived.Test.YtfaflahfjgnphaaGreatDoorMg37
import Derived.Test.YtfaflahfjgnphaaGreatDoorMg41
namespace Go.Proofs.YtfaflahfjgnphaaGreatDoor
open Go.ChangeShapes Go.WideShapes Go.ChangeAt Go.RowKit
set_option linter.unusedVariables false
set_option linter.unusedSimpArgs false
set_option maxRecDepth 100000
section
attribute [local simp] AllK KnowsV look Is
set_option maxHeartbeats 4000000 in
theorem Ecmp_any (A:Option Addr)(c:Nat)(B:Option Addr)(c2:Nat)(ms ns:List (List Int))(r:Nat)(HO:EqOC A c B c2 ms ns r)(o p:Ob)(es es':List Nd)(w:World)(E1:EnvQ A ms w)(E2:EnvQ B ns w)(ho:ObQ o)(hp:ObQ p)(hn:o.n=p.n)(ho7:o.at'+o.n*(o.d+o.p)≤100000000000)(hp7:p.at'+p.n*(p.d+p.p)≤100000000000)(h:ElsOk ms r o es)(h':ElsOk ns r p es'):
  Calls Tryz.prog 31 #[.agg #[.slice A ms.length c,.slice B ns.length c2],.agg #[.int .i64 o.k,.int .i64 o.sg,.int .i64 o.at',.int .i64 o.d,.int .i64 o.p,.int .i64 o.el,.int .i64 o.n,.int .i64 o.cost],.agg #[.int .i64 p.k,.int .i64 p.sg,.int .i64 p.at',.int .i64 p.d,.int .i64 p.p,.int .i64 p.el,.int .i64 p.n,.int .i64 p.cost]] w fun rr w'=>rr=.returned (.bool (rowE es es'))∧Below w.heap.size w w':=by
 obtain⟨N,hN⟩:=Int.eq_ofNat_of_zero_le ho.n.1
 have hl:es.length=N:=by have:=h.1;omega
 have hl':es'.length=N:=by have:=h'.1;omega
 have hNb:N≤536870911:=by have:=ho.n;omega
 have HB0:Hid (Below w.heap.size w (((w.alloc (.cells #[.slice A ms.length c,.slice B ns.length c2] 45)).alloc (.cells (obA o) 48)).alloc (.cells (obA p) 48))):=Lib.hid ((((Below.refl w.heap.size w).alloc (Nat.le_refl _) _).alloc (by simp) _).alloc (by simp;omega) _)
 have HP0:Hid (Blk (((w.alloc (.cells #[.slice A ms.length c,.slice B ns.length c2] 45)).alloc (.cells (obA o) 48)).alloc (.cells (obA p) 48)) w.heap.size #[.slice A ms.length c,.slice B ns.length c2]):=Lib.hid (((Blk.fresh _ _ _).alloc _).alloc _)
 have HX0:Hid (Blk (((w.alloc (.cells #[.slice A ms.length c,.slice B ns.length c2] 45)).alloc (.cells (obA o) 48)).alloc (.cells (obA p) 48)) (w.heap.size+1) (obA o)):=Lib.hid ((Blk.new (by simp)).alloc _)
 have HY0:Hid (Blk (((w.alloc (.cells #[.slice A ms.length c,.slice B ns.length c2] 45)).alloc (.cells (obA o) 48)).alloc (.cells (obA p) 48)) (w.heap.size+2) (obA p)):=Lib.hid (Blk.new (by simp))
 have HS0:Hid (w.heap.size≤(((w.alloc (.cells #[.slice A ms.length c,.slice B ns.length c2] 45)).alloc (.cells (obA o) 48)).alloc (.cells (obA p) 48)).heap.size):=Lib.hid (by simp;omega)
 unfold obA at HB0 HP0 HX0 HY0 HS0
 have b1:=ho.d
 have b2:=ho.p
 have b3:=hp.d
 have b4:=hp.p
 by_cases hz:o.d+o.p+p.d+p.p=0
 ·have HV:=Lib.hid (els_void (by omega:o.d+o.p=0) (by omega:p.d+p.p=0) b1.1 b3.1 b2.1 b4.1 hn h h')
  have t1:(o.d+o.p+p.d+p.p==0)=true:=by simpa using hz
  clear E1 E2 HO h h' ho hp hl hl' ho7 hp7 hn hN
  obtain⟨x1,y1,z1⟩:=HX0.out
  obtain⟨x2,y2,z2⟩:=HY0.out
  go_enter Tryz.func31,Tryz.ntmps31
  go_wp2
  go_ret
  exact⟨by rw [HV.out];rfl,HB0.out⟩
 have t1:(o.d+o.p+p.d+p.p==0)=false:=by simpa using hz
 have HRX:=Lib.hid (fun (i:Nat) (hi:i<N) w2=>RElement_any o.k o.sg o.at' o.d o.p o.el o.n o.cost (i:Int) w2 (by omega) (by omega) ho.at'.1 (by have:=ho.at';omega) b1.1 b1.2 b2.1 b2.2)
 have HRY:=Lib.hid (fun (i:Nat) (hi:i<N) w2=>RElement_any p.k p.sg p.at' p.d p.p p.el p.n p.cost (i:Int) w2 (by omega) (by omega) hp.at'.1 (by have:=hp.at';omega) b3.1 b3.2 b4.1 b4.2)
 have hq:∀(o:Ob),ObQ o→o.n=(N:Int)→o.at'+o.n*(o.d+o.p)≤100000000000→∀i,i<N→ObQ (eleO o (i:Int)):=fun o ho hn h7 i hi=>by
  have m0:0≤(i:Int)*(o.d+o.p):=Int.mul_nonneg (by omega) (by have:=ho.d;have:=ho.p;omega)
  have m1:(i:Int)*(o.d+o.p)≤o.n*(o.d+o.p):=Int.mul_le_mul_of_nonneg_right (by omega) (by have:=ho.d;have:=ho.p;omega)
  exact⟨by show (0:Int)≤1∧(1:Int)≤2;omega,ho.sg,by show 0≤o.at'+(i:Int)*(o.d+o.p)∧o.at'+(i:Int)*(o.d+o.p)≤100000000000;have:=ho.at';omega,ho.d,ho.p,by show (0:Int)≤0∧(0:Int)≤7;omega,by show (0:Int)≤0∧(0:Int)≤536870911;omega⟩
 have HST:=Lib.hid (fun (i:Nat) (hi:i<N)=>(by
  obtain⟨ks,h1,h2⟩:=h.2 i (by omega)
  obtain⟨ks',h3,h4⟩:=h'.2 i (by omega)
  intro w2 a b
  rw [h1,h3,eqT_strO E1.wd E1.m E1.f E2.wd E2.m E2.f rfl rfl h2 h4]
  exact Estr_any A c B c2 ms ns r HO (eleO o (i:Int)) (eleO p (i:Int)) ks ks' w2 a b (hq o ho hN ho7 i hi) (hq p hp (by omega) hp7 i hi) h2 h4 :
  ∀w2,EnvQ A ms w2→EnvQ B ns w2→Calls Tryz.prog 29 #[.agg #[.slice A ms.length c,.slice B ns.length c2],.agg #[.int .i64 1,.int .i64 o.sg,.int .i64 (o.at'+(i:Int)*(o.d+o.p)),.int .i64 o.d,.int .i64 o.p,.int .i64 0,.int .i64 0,.int .i64 0],.agg #[.int .i64 1,.int .i64 p.sg,.int .i64 (p.at'+(i:Int)*(p.d+p.p)),.int .i64 p.d,.int .i64 p.p,.int .i64 0,.int .i64 0,.int .i64 0]] w2 fun rr w'=>rr=.returned (.bool (eqT (kidN es i) (kidN es' i)))∧Below w2.heap.size w2 w'))
 have HE1:=Lib.hid (E1.on HB0.out)
 have HE2:=Lib.hid (E2.on HB0.out)
 have HY:Hid ((∀j,j<N→eqT (kidN es j) (kidN es' j)=true)→rowE es es'=true):=Lib.hid (fun h=>by unfold rowE;rw [hl,hl',Nat.max_self];exact decide_eq_true h)
 have HNO:Hid (∀j,eqT (kidN es j) (kidN es' j)=false→rowE es es'=false):=Lib.hid (fun j h=>rowE_no h)
 have HNN:=Lib.hid hN
 clear E1 E2 HO h h' ho hp hl hl' ho7 hp7 hn hz hq hN
 obtain⟨x1,y1,z1⟩:=HX0.out
 obtain⟨x2,y2,z2⟩:=HY0.out
 go_enter Tryz.func31,Tryz.ntmps31
 go_wp2_with fail
 refine abs_code10 (F:=fun W=>W=(((w.alloc (.cells #[.slice A ms.length c,.slice B ns.length c2] 45)).alloc (.cells #[.int .i64 o.k,.int .i64 o.sg,.int .i64 o.at',.int .i64 o.d,.int .i64 o.p,.int .i64 o.el,.int .i64 o.n,.int .i64 o.cost] 48)).alloc (.cells #[.int .i64 p.k,.int .i64 p.sg,.int .i64 p.at',.int .i64 p.d,.int .i64 p.p,.int .i64 p.el,.int .i64 p.n,.int .i64 p.cost] 48))) rfl ?_
 rintro W1 hW1
 rw [←hW1] at HB0 HP0 HX0 HY0 HS0 HE1 HE2
 clear hW1
 clear x1 y1 z1 x2 y2 z2 t1 b1 b2 b3 b4
 rw [HNN.out]
 go_loopw [22] (fun i wr=>∃j:Nat,j≤N∧i=.int .i64 j∧(∀l,l<j→eqT (kidN es l) (kidN es' l)=true)∧Below W1.heap.size W1 wr) (fun i _=>N-(intOf i).toNat)
 case atStart=>exact⟨0,by omega,rfl,fun l hl=>absurd hl (Nat.not_lt_zero _),Below.refl _ _⟩
 case round=>
  obtain⟨j,hj,rfl,hal,hbr⟩:=hrel
  have HR:=Lib.hid hbr
  have HAL:=Lib.hid hal
  clear hbr hal
  by_cases hlt:j<N
  ·have hj1:(j:Int)<(N:Int):=by omega
   have HEA:=Lib.hid (HRX.out j hlt)
   have HEB:=Lib.hid (HRY.out j hlt)
   have HST:=Lib.hid (HST.out j hlt)
   have HNJ:=Lib.hid (HNO.out j)
   have HAN:Hid (eqT (kidN es j) (kidN es' j)=true→∀l,l<j+1→eqT (kidN es l) (kidN es' l)=true):=Lib.hid (fun h l hl=>by
    by_cases e:l=j
    ·subst e;exact h
    ·exact HAL.out l (by omega))
   have HE1:=Lib.hid (HE1.out.on HR.out)
   have HE2:=Lib.hid (HE2.out.on HR.out)
   have HP3:=Lib.hid (HP0.out.below HR.out)
   have HX3:=Lib.hid (HX0.out.below HR.out)
   have HY3:=Lib.hid (HY0.out.below HR.out)
   generalize eqT (kidN es j) (kidN es' j)=b at *
   go_wp2_with fail
   rename_i KK hKK
   refine wp_region_chain (by kernel_rfl) (by kernel_rfl) ?_
   refine chain_val (u:=?_) [3] rfl (by kernel_rfl) trivial (fun ρ wc hbc hcn hq=>?_) ?_;rotate_left
   ·obtain⟨hcn,hfn⟩:=hcn
    simp at hq
    have x1:=(HP3.out.drew.below hbc).cell
    have x2:=(HX3.out.drew.below hbc).cell
    have x3:=(HY3.out.drew.below hbc).cell
    go_simp
    rfl
   refine chain_val (u:=?_) [4] rfl (by kernel_rfl) trivial (fun ρ wc hbc hcn hq=>?_) ?_;rotate_left
   ·obtain⟨hcn,hfn⟩:=hcn
    simp at hq
    have x1:=(HP3.out.drew.below hbc).cell
    have x2:=(HX3.out.drew.below hbc).cell
    have x3:=(HY3.out.drew.below hbc).cell
    go_simp
    rfl
   refine chain_val (u:=?_) [7] rfl (by kernel_rfl) trivial (fun ρ wc hbc hcn hq=>?_) ?_;rotate_left
   ·obtain⟨hcn,hfn⟩:=hcn
    simp at hq
    go_simp
    rfl
   refine chain_call (T:=Is ?_) 45 [26,27] rfl (by kernel_rfl) trivial (stable_is _) (fun ρ wc hbc hcn hq=>?_) ?_;rotate_left
   ·obtain⟨hcn,hfn⟩:=hcn
    simp at hq
    refine⟨_,by go_simp;rfl,?_⟩
    refine(HEA.out _).mono ?_
    rintro e w' ⟨rfl,hbq⟩
    refine⟨_,rfl,?_,hbq⟩
    unfold Is
    rfl
   refine chain_val (u:=?_) [5] rfl (by kernel_rfl) trivial (fun ρ wc hbc hcn hq=>?_) ?_;rotate_left
   ·obtain⟨hcn,hfn⟩:=hcn
    simp at hq
    have x1:=(HP3.out.drew.below hbc).cell
    have x2:=(HX3.out.drew.below hbc).cell
    have x3:=(HY3.out.drew.below hbc).cell
    go_simp
    rfl
   refine chain_val (u:=?_) [7] rfl (by kernel_rfl) trivial (fun ρ wc hbc hcn hq=>?_) ?_;rotate_left
   ·obtain⟨hcn,hfn⟩:=hcn
    simp at hq
    go_simp
    rfl
   refine chain_call (T:=Is ?_) 45 [29,30] rfl (by kernel_rfl) trivial (stable_is _) (fun ρ wc hbc hcn hq=>?_) ?_;rotate_left
   ·obtain⟨hcn,hfn⟩:=hcn
    simp at hq
    refine⟨_,by go_simp;rfl,?_⟩
    refine(HEB.out _).mono ?_
    rintro e w' ⟨rfl,hbq⟩
    refine⟨_,rfl,?_,hbq⟩
    unfold Is
    rfl
   refine chain_call (T:=Is ?_) 29 [25,28,31] rfl (by kernel_rfl) trivial (stable_is _) (fun ρ wc hbc hcn hq=>?_) ?_;rotate_left
   ·obtain⟨hcn,hfn⟩:=hcn
    simp at hq
    refine⟨_,by go_simp;rfl,?_⟩
    refine(HST.out _ (HE1.out.on (und hbc)) (HE2.out.on (und hbc))).mono ?_
    rintro e w' ⟨rfl,hbq⟩
    refine⟨_,rfl,?_,hbq⟩
    unfold Is
    rfl
   refine chain_val (u:=?_) [32] rfl (by kernel_rfl) trivial (fun ρ wc hbc hcn hq=>?_) ?_;rotate_left
   ·obtain⟨hcn,hfn⟩:=hcn
    simp at hq
    go_simp
    rfl
   refine chain_end_lit 35 rfl (fun ff w5 hb5 hk=>?_)
   have HB6:=Lib.hid (HR.out.trans ((und hb5).mono HR.out.size))
   simp [AllN] at hk
   simp only [frameL,hk]
   refine hKK _ _ ?_
   clear hk hb5 hKK KK
   cases b with
   | false=>
    have HV:=Lib.hid (HNJ.out rfl)
    go_wp2
    go_ret
    exact⟨by rw [HV.out];rfl,bel_on HB0.out HB6.out⟩
   | true=>
    have HV:=Lib.hid (HAN.out rfl)
    go_wp2
    go_roundw
    case rel=>exact⟨j+1,by omega,by go_num,HV.out,HB6.out⟩
    case measure=>simp [intOf];omega
  ·obtain rfl:j=N:=by omega
   have HV:=Lib.hid (HY.out HAL.out)
   go_wp2
   go_ret
   exact⟨by rw [HV.out];rfl,bel_on HB0.out HR.out⟩
end
section
attribute [local simp] AllK KnowsV look Is
theorem Enul_any (A:Option Addr)(c:Nat)(B:Option Addr)(c2:Nat)(ms ns:List (List Int))(o p:Ob)(w:World):
  Calls Tryz.prog 28 #[.agg #[.slice A ms.length c,.slice B ns.length c2],.agg #[.int .i64 o.k,.int .i64 o.sg,.int .i64 o.at',.int .i64 o.d,.int .i64 o.p,.int .i64 o.el,.int .i64 o.n,.int .i64 o.cost],.agg #[.int .i64 p.k,.int .i64 p.sg,.int .i64 p.at',.int .i64 p.d,.int .i64 p.p,.int .i64 p.el,.int .i64 p.n,.int .i64 p.cost]] w fun rr w'=>rr=.returned (.bool (true))∧Below w.heap.size w w':=by
 have HB0:Hid (Below w.heap.size w (((w.alloc (.cells #[.slice A ms.length c,.slice B ns.length c2] 45)).alloc (.cells (obA o) 48)).alloc (.cells (obA p) 48))):=Lib.hid ((((Below.refl w.heap.size w).alloc (Nat.le_refl _) _).alloc (by simp) _).alloc (by simp;omega) _)
 have HP0:Hid (Blk (((w.alloc (.cells #[.slice A ms.length c,.slice B ns.length c2] 45)).alloc (.cells (obA o) 48)).alloc (.cells (obA p) 48)) w.heap.size #[.slice A ms.length c,.slice B ns.length c2]):=Lib.hid (((Blk.fresh _ _ _).alloc _).alloc _)
 have HX0:Hid (Blk (((w.alloc (.cells #[.slice A ms.length c,.slice B ns.length c2] 45)).alloc (.cells (obA o) 48)).alloc (.cells (obA p) 48)) (w.heap.size+1) (obA o)):=Lib.hid ((Blk.new (by simp)).alloc _)
 have HY0:Hid (Blk (((w.alloc (.cells #[.slice A ms.length c,.slice B ns.length c2] 45)).alloc (.cells (obA o) 48)).alloc (.cells (obA p) 48)) (w.heap.size+2) (obA p)):=Lib.hid (Blk.new (by simp))
 have HS0:Hid (w.heap.size≤(((w.alloc (.cells #[.slice A ms.length c,.slice B ns.length c2] 45)).alloc (.cells (obA o) 48)).alloc (.cells (obA p) 48)).heap.size):=Lib.hid (by simp;omega)
 unfold obA at HB0 HP0 HX0 HY0 HS0
 go_enter Tryz.func28,Tryz.ntmps28
 go_wp2
 go_ret
 exact⟨rfl,HB0.out⟩
set_option maxHeartbeats 4000000 in
theorem Eobj_step (A:Option Addr)(c:Nat)(B:Option Addr)(c2:Nat)(ms ns:List (List Int))(r:Nat)(HO:0<r→EqOC A c B c2 ms ns (r-1)):EqOC A c B c2 ms ns r:=by
 have hmf:∀(fn:Fn) (first cap:Array Value) (w:World),(Instr.makeFunc fn first cap).run Tryz.prog w=.ok (.func fn first cap) w:=fun _ _ _ _=>rfl
 intro o p X Y w E1 E2 ho hp
 have HB0:Hid (Below w.heap.size w (((w.alloc (.cells #[.slice A ms.length c,.slice B ns.length c2] 45)).alloc (.cells (obA o) 48)).alloc (.cells (obA p) 48))):=Lib.hid ((((Below.refl w.heap.size w).alloc (Nat.le_refl _) _).alloc (by simp) _).alloc (by simp;omega) _)
 have HP0:Hid (Blk (((w.alloc (.cells #[.slice A ms.length c,.slice B ns.length c2] 45)).alloc (.cells (obA o) 48)).alloc (.cells (obA p) 48)) w.heap.size #[.slice A ms.length c,.slice B ns.length c2]):=Lib.hid (((Blk.fresh _ _ _).alloc _).alloc _)
 have HX0:Hid (Blk (((w.alloc (.cells #[.slice A ms.length c,.slice B ns.length c2] 45)).alloc (.cells (obA o) 48)).alloc (.cells (obA p) 48)) (w.heap.size+1) (obA o)):=Lib.hid ((Blk.new (by simp)).alloc _)
 have HY0:Hid (Blk (((w.alloc (.cells #[.slice A ms.length c,.slice B ns.length c2] 45)).alloc (.cells (obA o) 48)).alloc (.cells (obA p) 48)) (w.heap.size+2) (obA p)):=Lib.hid (Blk.new (by simp))
 have HS0:Hid (w.heap.size≤(((w.alloc (.cells #[.slice A ms.length c,.slice B ns.length c2] 45)).alloc (.cells (obA o) 48)).alloc (.cells (obA p) 48)).heap.size):=Lib.hid (by simp;omega)
 unfold obA at HB0 HP0 HX0 HY0 HS0
 obtain⟨g1,g2,g3⟩:=objOk_head ho
 obtain⟨g4,g5,g6⟩:=objOk_head hp
 obtain⟨x1,y1,z1⟩:=HX0.out
 obtain⟨x2,y2,z2⟩:=HY0.out
 obtain⟨x3,y3,z3⟩:=HP0.out
 by_cases hk:o.k=p.k
 rotate_left
 ·have t1:(o.k != p.k)=true:=by simpa using hk
  have HV:=Lib.hid (eqT_head (x:=X) (y:=Y) (fun h=>hk (by rw [←g1,←g4];exact h.1)))
  clear g1 g2 g3 g4 g5 g6 hk
  clear HO E1 E2 ho hp
  go_enter Tryz.func15,Tryz.ntmps15
  go_wp2
  go_ret
  exact⟨by rw [HV.out];rfl,HB0.out⟩
 have t1:(o.k != p.k)=false:=by simpa using hk
 by_cases he:o.el=p.el
 rotate_left
 ·have t2:(o.el != p.el)=true:=by simpa using he
  have HV:=Lib.hid (eqT_head (x:=X) (y:=Y) (fun h=>he (by rw [←g2,←g5];exact h.2.1)))
  clear g1 g2 g3 g4 g5 g6 hk he
  clear HO E1 E2 ho hp
  go_enter Tryz.func15,Tryz.ntmps15
  go_wp2
  go_ret
  exact⟨by rw [HV.out];rfl,HB0.out⟩
 have t2:(o.el != p.el)=false:=by simpa using he
 by_cases hn:o.n=p.n
 rotate_left
 ·have t3:(o.n != p.n)=true:=by simpa using hn
  have HV:=Lib.hid (eqT_head (x:=X) (y:=Y) (fun h=>hn (by rw [←g3,←g6];exact h.2.2)))
  clear g1 g2 g3 g4 g5 g6 hk he hn
  clear HO E1 E2 ho hp
  go_enter Tryz.func15,Tryz.ntmps15
  go_wp2
  go_ret
  exact⟨by rw [HV.out];rfl,HB0.out⟩
 have t3:(o.n != p.n)=false:=by simpa using hn
 have qo:=ho.q E1.wd E1.m E1.f
 have qp:=hp.q E2.wd E2.m E2.f
 rcases ho with ⟨ho,hX⟩|⟨hr,ho,hol,hoN⟩
 ·rcases hp with ⟨hp,hY⟩|⟨-,hp,-⟩
  ·have HC:=Lib.hid (Enul_any A c B c2 ms ns o p (((w.alloc (.cells #[.slice A ms.length c,.slice B ns.length c2] 45)).alloc (.cells #[.int .i64 o.k,.int .i64 o.sg,.int .i64 o.at',.int .i64 o.d,.int .i64 o.p,.int .i64 o.el,.int .i64 o.n,.int .i64 o.cost] 48)).alloc (.cells #[.int .i64 p.k,.int .i64 p.sg,.int .i64 p.at',.int .i64 p.d,.int .i64 p.p,.int .i64 p.el,.int .i64 p.n,.int .i64 p.cost] 48)))
   have s1:(o.k==1)=false:=by rw [ho];decide
   have s2:(o.k==2)=false:=by rw [ho];decide
   have HV:Hid (eqT X Y=true):=Lib.hid (by rw [hX,hY];exact eqT_nd0)
   clear g1 g2 g3 g4 g5 g6 hk he hn ho hX hp hY qo qp HO E1 E2
   go_enter Tryz.func15,Tryz.ntmps15
   go_wp2_with fail
   refine HC.out.mono ?_
   rintro rr w5 ⟨rfl,hb5⟩
   have HB5:=Lib.hid (bel_on HB0.out hb5)
   clear hb5
   go_wp2
   go_ret
   exact⟨by rw [HV.out];rfl,HB5.out⟩
  ·exact absurd (by rw [←hk,ho];rfl) hp
 rcases hp with ⟨hp,-⟩|⟨-,-,hpl,hpN⟩
 ·exact absurd (by rw [hk,hp];rfl) ho
 have hO:=HO hr
 have loc:=located E1.wd E1.m E1.f hol
 have loc':=located E2.wd E2.m E2.f hpl
 by_cases hk1:o.k=1
 ·obtain⟨e1,e2⟩:=located_str E1.wd E1.m E1.f hol hk1
  obtain⟨e3,e4⟩:=located_str E2.wd E2.m E2.f hpl (by omega)
  rcases hoN with ⟨-,ks,hX,hK⟩|⟨h7,-⟩
  rotate_left
  ·omega
  rcases hpN with ⟨-,ks',hY,hK'⟩|⟨h7,-⟩
  rotate_left
  ·omega
  have hV:=eqT_strO E1.wd E1.m E1.f E2.wd E2.m E2.f hk1 (by omega) hK hK'
  rw [hk1,e1,e2] at hX
  rw [←hk,hk1,e3,e4] at hY
  rw [←hX,←hY] at hV
  have HC:=Lib.hid (Estr_any A c B c2 ms ns (r-1) hO o p ks ks' _ (E1.on HB0.out) (E2.on HB0.out) qo qp hK hK')
  rw [←hV] at HC
  have s1:(o.k==1)=true:=by simpa using hk1
  clear g1 g2 g3 g4 g5 g6 hk he hn ho hX hY qo qp HO E1 E2 hV hK hK' hO loc loc' e1 e2 e3 e4 hk1 hol hpl
  go_enter Tryz.func15,Tryz.ntmps15
  go_wp2_with fail
  refine HC.out.mono ?_
  rintro rr w5 ⟨rfl,hb5⟩
  have HB5:=Lib.hid (bel_on HB0.out hb5)
  clear hb5
  go_wp2
  go_ret
  exact⟨rfl,HB5.out⟩
 have s1:(o.k==1)=false:=by simpa using hk1
 have hk2:o.k=2:=by omega
 have s2:(o.k==2)=true:=by simpa using hk2
 by_cases h7:o.el=7
 ·rcases hoN with ⟨h,-⟩|⟨-,es,hX,hK⟩
  ·exact absurd h7 h
  rcases hpN with ⟨h,-⟩|⟨-,es',hY,hK'⟩
  ·exact absurd (he ▸ h7) h
  have hV:eqT X Y=rowE es es':=by
   rw [hX,hY,←hk,←he,←hn,hk2]
   exact eqT_lst (by rw [hK.1,hK'.1,hn])
  have HC:=Lib.hid (Ecmp_any A c B c2 ms ns (r-1) hO o p es es' _ (E1.on HB0.out) (E2.on HB0.out) qo qp hn (by omega) (by omega) hK hK')
  rw [←hV] at HC
  have s3:(o.el==6)=false:=by rw [h7];decide
  have s4:(o.el==7)=true:=by rw [h7];decide
  clear g1 g2 g3 g4 g5 g6 hk he hn ho hX hY qo qp HO E1 E2 hV hK hK' hO loc loc' hk1 hk2 h7 hol hpl
  go_enter Tryz.func15,Tryz.ntmps15
  go_wp2_with fail
  refine HC.out.mono ?_
  rintro rr w5 ⟨rfl,hb5⟩
  have HB5:=Lib.hid (bel_on HB0.out hb5)
  clear hb5
  go_wp2
  go_ret
  exact⟨rfl,HB5.out⟩
 have s4:(o.el==7)=false:=by simpa using h7
 rcases hoN with ⟨-,ks,hX,hK⟩|⟨h,-⟩
 rotate_left
 ·exact absurd h h7
 rcases hpN with ⟨-,ks',hY,hK'⟩|⟨h,-⟩
 rotate_left
 ·exact absurd (he.trans h) h7
 by_cases h6:o.el=6
 ·have hd:datO ms o=[]:=by unfold datO;rw [if_neg (by omega),if_neg (fun h=>h.2 h6)]
  have hd':datO ns p=[]:=by unfold datO;rw [if_neg (by omega),if_neg (fun h=>h.2 (by omega))]
  have hV:eqT X Y=rowE ks ks':=by
   rw [hX,hY,←hk,←he,←hn,hk2,hd,hd']
   exact eqT_lst (by rw [hK.1,hK'.1,(ptrO_num o (.inr (.inl hk2))).2 hk2 h6,(ptrO_num p (.inr (.inl (by omega)))).2 (by omega) (by omega),hn])
  have HC:=Lib.hid (Eptrs_any A c B c2 ms ns (r-1) hO o p ks ks' _ (E1.on HB0.out) (E2.on HB0.out) qo qp hK hK')
  rw [←hV] at HC
  have s3:(o.el==6)=true:=by rw [h6];decide
  clear g1 g2 g3 g4 g5 g6 hk he hn ho hX hY qo qp HO E1 E2 hV hK hK' hO loc loc' hk1 hk2 h7 h6 hol hpl hd hd'
  go_enter Tryz.func15,Tryz.ntmps15
  go_wp2_with fail
  refine HC.out.mono ?_
  rintro rr w5 ⟨rfl,hb5⟩
  have HB5:=Lib.hid (bel_on HB0.out hb5)
  clear hb5
  go_wp2
  go_ret
  exact⟨rfl,HB5.out⟩
 have s3:(o.el==6)=false:=by simpa using h6
 obtain⟨T,hT⟩:=Int.eq_ofNat_of_zero_le (bitsI_mul o.el o.n qo.n.1).1
 obtain⟨N,hN⟩:=Int.eq_ofNat_of_zero_le (wordsI_lim o.el o.n qo.n.1 qo.n.2).1
 have hV:=eqT_datO E1.wd E2.wd hk2 (by omega) he.symm hn.symm qo.el.1 (by omega) qo.n.1 (located_lst E1.wd E1.m E1.f hol hk2 (by omega)) (located_lst E2.wd E2.m E2.f hpl (by omega) (by omega)) hK hK' hT hN
 rw [←hX,←hY] at hV
 have HC:=Lib.hid (Elst_any A c B c2 ms ns o p (eqT X Y) _ (E1.on HB0.out) (E2.on HB0.out) qo qp (by omega) hT hN hV)
 clear g1 g2 g3 g4 g5 g6 hk he hn ho hX hY qo qp HO E1 E2 hV hK hK' hO loc loc' hk1 hk2 h7 h6 hol hpl hT hN
 go_enter Tryz.func15,Tryz.ntmps15
 go_wp2_with fail
 refine HC.out.mono ?_
 rintro rr w5 ⟨rfl,hb5⟩
 have HB5:=Lib.hid (bel_on HB0.out hb5)
 clear hb5
 go_wp2
 go_ret
 exact⟨rfl,HB5.out⟩
theorem Eobj_any (A:Option Addr)(c:Nat)(B:Option Addr)(c2:Nat)(ms ns:List (List Int)):∀r,EqOC A c B c2 ms ns r
 | 0=>Eobj_step A c B c2 ms ns 0 (fun h=>absurd h (Nat.lt_irrefl _))
 | r+1=>Eobj_step A c B c2 ms ns (r+1) (fun _=>Eobj_any A c B c2 ms ns r)
end
section
attribute [local simp] AllK KnowsV look Is
theorem msg_obj {ls:List (List Int)}(hw:Wd2 ls)(hm:ls.length≤40)(hf:∀j,(seg ls j).length≤20000000){D X:Int}(h:(msgV ls D X).2=0):∃N,ObjOk ls D.toNat (objF ls 0 0).1 N∧(msgV ls D X).1=trimN N:=by
 unfold msgV at h ⊢
 by_cases h1:0<ls.length∧(seg ls 0).length=0
 ·rw [if_pos h1]
  refine⟨nd0,.inl ⟨?_,rfl⟩,trim_nd0.symm⟩
  have h2:hasB ls 0 0=false:=by unfold hasB;rw [decide_eq_false_iff_not];intro h;have h5:(0:Int)<((seg ls 0).length:Int):=h.2.2.2;omega
  have h3:(followF ls 0 0).e≠0:=by unfold followF;rw [if_pos h2];simp [folE]
  unfold objF
  rw [if_pos (.inl h3)]
 ·rw [if_neg h1] at h ⊢
  by_cases h2:(valV ls D.toNat (startI X) 0 0).e≠0
  ·rw [if_pos h2] at h;exact absurd h h2
  ·rw [if_neg h2]
   exact⟨_,okV_obj hw hm hf ⟨_,Classical.byContradiction h2,rfl⟩,rfl⟩
theorem Eobject_ob (A:Option Addr)(c n:Nat)(ls:List (List Int))(s a:Int)(o:Ob)(w:World)(E:EnvQ A ls w)(hn:ls.length=n)(h1:0≤s∧s≤40)(h2:0≤a∧a≤1000000000000)(hq:(objF ls s a).1=o):
  Calls Tryz.prog 16 #[.slice A n c,.int .i64 s,.int .i64 a] w fun r w'=>r=.returned (.agg #[.int .i64 o.k,.int .i64 o.sg,.int .i64 o.at',.int .i64 o.d,.int .i64 o.p,.int .i64 o.el,.int .i64 o.n,.int .i64 o.cost])∧Below w.heap.size w w':=by
 obtain⟨k,sg,at',d,p,el,m,cost⟩:=o
 exact Eobject_any A c n ls s a k sg at' d p el m cost (objF ls s a).2 w E hn h1 h2 (Prod.ext hq rfl)
set_option maxHeartbeats 4000000 in
theorem messages_any (A:Option Addr)(c:Nat)(B:Option Addr)(c2:Nat)(ms ns:List (List Int))(D X O:Int)(w:World)(E1:EnvQ A ms w)(E2:EnvQ B ns w)(hD:D≤900)(hX:X≤1000000):
  Calls Tryz.prog 7 #[.slice A ms.length c,.slice B ns.length c2,.agg #[.int .i64 D,.int .i64 X,.int .i64 O]] w fun r w'=>r=.returned (.tuple #[.bool (eqM ms ns D X).1,.int .i64 (eqM ms ns D X).2])∧Below w.heap.size w w':=by
 have HM1:=Lib.hid (fun w2 (a:EnvQ A ms w2)=>DMeasure_any A c ms D X O w2 a.tab a.sg a.wd a.m a.f hD hX)
 have HM2:=Lib.hid (fun w2 (a:EnvQ B ns w2)=>DMeasure_any B c2 ns D X O w2 a.tab a.sg a.wd a.m a.f hD hX)
 have hs1:=msg_same ms D X
 have hs2:=msg_same ns D X
 have HN1:=Lib.hid (fun (h:(measV ms D X).2=0)=>msg_obj E1.wd E1.m E1.f (hs1.trans h))
 have HN2:=Lib.hid (fun (h:(measV ns D X).2=0)=>msg_obj E2.wd E2.m E2.f (hs2.trans h))
 have HQ1:Hid ((measV ms D X).2≠0→eqM ms ns D X=(false,(measV ms D X).2)):=Lib.hid (fun h=>by unfold eqM eqQ;rw [hs1,if_pos h])
 have HQ2:Hid ((measV ms D X).2=0→(measV ns D X).2≠0→eqM ms ns D X=(false,(measV ns D X).2)):=Lib.hid (fun h h2=>by unfold eqM eqQ;rw [hs1,hs2,if_neg (fun g=>g h),if_pos h2])
 have HQ3:Hid ((measV ms D X).2=0→(measV ns D X).2=0→eqM ms ns D X=(eqN (msgV ms D X).1 (msgV ns D X).1,0)):=Lib.hid (fun h h2=>by unfold eqM eqQ;rw [hs1,hs2,if_neg (fun g=>g h),if_neg (fun g=>g h2)])
 have HOO:=Lib.hid (Eobj_any A c B c2 ms ns D.toNat)
 have HOX:=Lib.hid (fun w2 (a:EnvQ A ms w2)=>Eobject_ob A c ms.length ms 0 0 _ w2 a rfl (by omega) (by omega) rfl)
 have HOY:=Lib.hid (fun w2 (a:EnvQ B ns w2)=>Eobject_ob B c2 ns.length ns 0 0 _ w2 a rfl (by omega) (by omega) rfl)
 generalize (measV ms D X).2=e1 at *
 generalize (measV ns D X).2=e2 at *
 generalize (measV ms D X).1=u1 at *
 generalize (measV ns D X).1=u2 at *
 generalize (objF ms 0 0).1=ox at *
 generalize (objF ns 0 0).1=oy at *
 generalize eqM ms ns D X=res at *
 clear hs1 hs2
 have HB1:Hid (Below w.heap.size w ((w.alloc (.cells #[.int .i64 D,.int .i64 X,.int .i64 O] 24)).alloc (.cells #[.slice A ms.length c,.slice B ns.length c2] 22))):=Lib.hid (((Below.refl w.heap.size w).alloc (Nat.le_refl _) _).alloc (by simp) _)
 have HL1:Hid (Blk ((w.alloc (.cells #[.int .i64 D,.int .i64 X,.int .i64 O] 24)).alloc (.cells #[.slice A ms.length c,.slice B ns.length c2] 22)) w.heap.size #[.int .i64 D,.int .i64 X,.int .i64 O]):=Lib.hid ((Blk.fresh _ _ _).alloc _)
 have HR1:Hid (Blk ((w.alloc (.cells #[.int .i64 D,.int .i64 X,.int .i64 O] 24)).alloc (.cells #[.slice A ms.length c,.slice B ns.length c2] 22)) (w.heap.size+1) #[.slice A ms.length c,.slice B ns.length c2]):=Lib.hid (Blk.new (by simp))
 go_enter Tryz.func7,Tryz.ntmps7
 go_wp2_with fail
 refine abs_code10 (F:=fun W=>W=(w.alloc (.cells #[.int .i64 D,.int .i64 X,.int .i64 O] 24)).alloc (.cells #[.slice A ms.length c,.slice B ns.length c2] 22)) rfl ?_
 rintro W1 hW1
 rw [←hW1] at HB1 HL1 HR1
 clear hW1
 have HE1:=Lib.hid (E1.on HB1.out)
 have HE2:=Lib.hid (E2.on HB1.out)
 clear E1 E2
 go_loopw [17] (fun i wr=>∃j:Nat,j≤2∧i=.int .i64 j∧(1≤j→e1=0)∧(2≤j→e2=0)∧Below W1.heap.size W1 wr) (fun i _=>2-(intOf i).toNat)
 case atStart=>exact⟨0,by omega,rfl,fun h=>absurd h (by omega),fun h=>absurd h (by omega),Below.refl _ _⟩
 case round=>
  obtain⟨j,hj,rfl,h1,h2,hbr⟩:=hrel
  have HR:=Lib.hid hbr
  have HL2:=Lib.hid (HL1.out.below hbr)
  have HR2:=Lib.hid (HR1.out.below hbr)
  have HEA:=Lib.hid (HE1.out.on hbr)
  have HEB:=Lib.hid (HE2.out.on hbr)
  have H1:=Lib.hid h1
  have H2:=Lib.hid h2
  clear hbr h1 h2
  rcases(by omega:j=0∨j=1∨j=2) with rfl|rfl|rfl
  ·obtain⟨x1,y1,z1⟩:=HL2.out
   obtain⟨x2,y2,z2⟩:=HR2.out
   go_wp2_with fail
   refine(HM1.out _ HEA.out).mono ?_
   rintro r w3 ⟨rfl,hb3⟩
   have HB3:=Lib.hid (HR.out.trans (hb3.mono HR.out.size))
   clear hb3 x1 y1 z1 x2 y2 z2
   by_cases he:e1=0
   ·have t1:(e1 != 0)=false:=by simpa using he
    have HZ:=Lib.hid he
    clear he
    go_wp2
    go_roundw
    case rel=>exact⟨1,by omega,by go_num,fun _=>HZ.out,fun h=>absurd h (by omega),HB3.out⟩
    case measure=>simp [intOf]
   ·have t1:(e1 != 0)=true:=by simpa using he
    have HV:=Lib.hid (HQ1.out he)
    clear he
    go_wp2
    go_ret2
    exact⟨by rw [HV.out];rfl,bel_on HB1.out HB3.out⟩
  ·obtain⟨x1,y1,z1⟩:=HL2.out
   obtain⟨x2,y2,z2⟩:=HR2.out
   go_wp2_with fail
   refine(HM2.out _ HEB.out).mono ?_
   rintro r w3 ⟨rfl,hb3⟩
   have HB3:=Lib.hid (HR.out.trans (hb3.mono HR.out.size))
   clear hb3 x1 y1 z1 x2 y2 z2
   by_cases he:e2=0
   ·have t1:(e2 != 0)=false:=by simpa using he
    have HZ:=Lib.hid he
    clear he
    go_wp2
    go_roundw
    case rel=>exact⟨2,by omega,by go_num,fun _=>H1.out (by omega),fun _=>HZ.out,HB3.out⟩
    case measure=>simp [intOf]
   ·have t1:(e2 != 0)=true:=by simpa using he
    have HV:=Lib.hid (HQ2.out (H1.out (by omega)) he)
    clear he
    go_wp2
    go_ret2
    exact⟨by rw [HV.out];rfl,bel_on HB1.out HB3.out⟩
  ·have z1:=H1.out (by omega)
   have z2:=H2.out (by omega)
   obtain⟨N,hN,hN1⟩:=HN1.out z1
   obtain⟨M,hM,hM1⟩:=HN2.out z2
   have hV:=HQ3.out z1 z2
   rw [hN1,hM1] at hV
   have HV:Hid (res=(eqT N M,0)):=Lib.hid hV
   have HOC:=Lib.hid (fun w2 (a:EnvQ A ms w2) (b:EnvQ B ns w2)=>HOO.out ox oy N M w2 a b hN hM)
   have HB3:=Lib.hid ((bel_on HB1.out HR.out).alloc (bel_on HB1.out HR.out).size (.cells #[.slice A ms.length c,.slice B ns.length c2] 45))
   have HP3:=Lib.hid (Blk.fresh wr #[.slice A ms.length c,.slice B ns.length c2] 45)
   have HE3:=Lib.hid (HEA.out.on ((Below.refl _ _).alloc (Nat.le_refl _) (.cells #[.slice A ms.length c,.slice B ns.length c2] 45)))
   have HE4:=Lib.hid (HEB.out.on ((Below.refl _ _).alloc (Nat.le_refl _) (.cells #[.slice A ms.length c,.slice B ns.length c2] 45)))
   clear hN hN1 hM hM1 hV z1 z2 HM1 HM2 HQ1 HQ2 HQ3 HN1 HN2 HL1 HR1 HB1 HE1 HE2 HL2 HR2 HEA HEB H1 H2 HOO
   generalize eqT N M=b at *
   go_wp2_with fail
   refine abs_code10 (F:=fun W=>W=wr.alloc (.cells #[.slice A ms.length c,.slice B ns.length c2] 45)) rfl ?_
   rintro W2 hW2
   rw [←hW2] at HB3 HP3 HE3 HE4
   clear hW2
   rename_i KK hKK
   refine wp_region_chain (by kernel_rfl) (by kernel_rfl) ?_
   refine chain_val (u:=?_) [12] rfl (by kernel_rfl) trivial (fun ρ wc hbc hcn hq=>?_) ?_;rotate_left
   ·obtain⟨hcn,hfn⟩:=hcn
    simp at hq
    have x1:=(HP3.out.drew.below hbc).cell
    go_simp
    rfl
   refine chain_val (u:=?_) [0] rfl (by kernel_rfl) trivial (fun ρ wc hbc hcn hq=>?_) ?_;rotate_left
   ·obtain⟨hcn,hfn⟩:=hcn
    simp at hq
    go_simp
    rfl
   refine chain_call (T:=Is ?_) 16 [35] rfl (by kernel_rfl) trivial (stable_is _) (fun ρ wc hbc hcn hq=>?_) ?_;rotate_left
   ·obtain⟨hcn,hfn⟩:=hcn
    simp at hq
    refine⟨_,by go_simp;rfl,?_⟩
    refine(HOX.out _ (HE3.out.on (und hbc))).mono ?_
    rintro e w' ⟨rfl,hbq⟩
    refine⟨_,rfl,?_,hbq⟩
    unfold Is
    rfl
   refine chain_val (u:=?_) [1] rfl (by kernel_rfl) trivial (fun ρ wc hbc hcn hq=>?_) ?_;rotate_left
   ·obtain⟨hcn,hfn⟩:=hcn
    simp at hq
    go_simp
    rfl
   refine chain_call (T:=Is ?_) 16 [37] rfl (by kernel_rfl) trivial (stable_is _) (fun ρ wc hbc hcn hq=>?_) ?_;rotate_left
   ·obtain⟨hcn,hfn⟩:=hcn
    simp at hq
    refine⟨_,by go_simp;rfl,?_⟩
    refine(HOY.out _ (HE4.out.on (und hbc))).mono ?_
    rintro e w' ⟨rfl,hbq⟩
    refine⟨_,rfl,?_,hbq⟩
    unfold Is
    rfl
   refine chain_call (T:=Is ?_) 15 [34,36,38] rfl (by kernel_rfl) trivial (stable_is _) (fun ρ wc hbc hcn hq=>?_) ?_;rotate_left
   ·obtain⟨hcn,hfn⟩:=hcn
    simp at hq
    refine⟨_,by go_simp;rfl,?_⟩
    refine(HOC.out _ (HE3.out.on (und hbc)) (HE4.out.on (und hbc))).mono ?_
    rintro e w' ⟨rfl,hbq⟩
    refine⟨_,rfl,?_,hbq⟩
    unfold Is
    rfl
   refine chain_val (u:=?_) [39] rfl (by kernel_rfl) trivial (fun ρ wc hbc hcn hq=>?_) ?_;rotate_left
   ·obtain⟨hcn,hfn⟩:=hcn
    simp at hq
    go_simp
    rfl
   refine chain_val (u:=?_) [] rfl (by kernel_rfl) trivial (fun ρ wc hbc hcn hq=>?_) ?_;rotate_left
   ·obtain⟨hcn,hfn⟩:=hcn
    go_simp
    rfl
   refine chain_end_lit 40 rfl (fun ff w5 hb5 hk=>?_)
   have HB6:=Lib.hid (bel_on HB3.out (und hb5))
   simp [AllN] at hk
   simp only [frameL,hk]
   refine hKK _ _ ?_
   clear hk hb5
   go_wp2
   go_ret2
   exact⟨by rw [HV.out];rfl,HB6.out⟩
end
section
theorem EData_any (A:Option Addr)(c:Nat)(B:Option Addr)(c2:Nat)(a b:List Int)(w:World)(hT:TabOK w)(ha:Ri w .u64 A a)(hb:Ri w .u64 B b)(la:a.length≤1000000)(lb:b.length≤1000000)(hac:a.length≤c)(hbc:b.length≤c2)(hna:A=none→c=0)(hnb:B=none→c2=0)(hcm:c≤maxLen)(hcm2:c2≤maxLen):
  Calls Tryz.prog 9 #[.slice A a.length c,.slice B b.length c2] w fun r w'=>r=.returned (.bool (dataE a b))∧Below w.heap.size w w':=
 EDataB_any A c B c2 a b w ha hb la lb hac hbc hcm hcm2
theorem EMessages_any (A:Option Addr)(c:Nat)(B:Option Addr)(c2:Nat)(ms ns:List (List Int))(D X O:Int)(w:World)(hT:TabOK w)(ha:Sg w A ms)(hb:Sg w B ns)(wa:Wd2 ms)(wb:Wd2 ns)(ma:ms.length≤40)(mb:ns.length≤40)(fa:∀j,(seg ms j).length≤20000000)(fb:∀j,(seg ns j).length≤20000000)(hD:D≤900)(hX:X≤100000)
  (hac:ms.length≤c) (hbc:ns.length≤c2) (hcm:c≤maxLen) (hcm2:c2≤maxLen) :
  Calls Tryz.prog 7 #[.slice A ms.length c,.slice B ns.length c2,.agg #[.int .i64 D,.int .i64 X,.int .i64 O]] w fun r w'=>r=.returned (.tuple #[.bool (eqM ms ns D X).1,.int .i64 (eqM ms ns D X).2])∧Below w.heap.size w w':=
 messages_any A c B c2 ms ns D X O w ⟨ha,hT,wa,ma,fa⟩ ⟨hb,hT,wb,mb,fb⟩ hD (by omega)
set_option maxHeartbeats 2000000 in
theorem RefData17 (A:Option Addr)(c:Nat)(B:Option Addr)(c2:Nat)(a b:List Int)(w:World)(ha:Ri w .u64 A a)(hb:Ri w .u64 B b)(la:a.length≤1000000)(lb:b.length≤1000000):
  Calls Tryz.prog 10 #[.slice A a.length c,.slice B b.length c2] w fun r w'=>r=.returned (.bool (dataE a b))∧Below w.heap.size w w':=by
 obtain⟨N,hN⟩:∃N,max a.length b.length=N:=⟨_,rfl⟩
 have HY:Hid ((∀i,i<N→zat a i=zat b i)→dataE a b=true):=Lib.hid (fun h=>by unfold dataE;rw [hN];exact decide_eq_true h)
 have HNO:Hid (∀i,zat a i≠zat b i→dataE a b=false):=Lib.hid (fun i h=>dataE_no h)
 have HA:=Lib.hid ha
 have HB:=Lib.hid hb
 have HLT:Hid (∀i,i<N↔i<a.length∨i<b.length):=Lib.hid (fun i=>by omega)
 have HN1:=Lib.hid (show N≤1000000 by omega)
 clear ha hb hN
 go_enter Tryz.func10,Tryz.ntmps10
 go_wp2
 go_loopw [5] (fun i wr=>∃q:Nat,q≤N∧i=.int .i64 q∧(∀j,j<q→zat a j=zat b j)∧Below w.heap.size w wr) (fun i _=>N-(intOf i).toNat)
 case atStart=>exact⟨0,by omega,rfl,fun j hj=>absurd hj (Nat.not_lt_zero _),Below.refl _ _⟩
 case round=>
  obtain⟨q,hq,rfl,hall,hbr⟩:=hrel
  have HALL:=Lib.hid hall
  have HBR:=Lib.hid hbr
  clear hall hbr
  have hqb:(q:Int)≤1000000:=by have:=HN1.out;omega
  by_cases hlt:q<N
  ·have HNX:Hid (zat a q=zat b q→∀j,j<q+1→zat a j=zat b j):=Lib.hid (fun h j hj=>by
    by_cases e:j=q
    ·subst e;exact h
    ·exact HALL.out j (by omega))
   have hno:=HNO.out q
   have hor:=(HLT.out q).1 hlt
   by_cases h1:q<a.length
   ·have s1:decide ((q:Int)<(a.length:Int))=true:=decide_eq_true (by omega)
    have s1':decide (q<a.length)=true:=decide_eq_true h1
    obtain⟨ga,oa,rfl,hca⟩:=(HA.out.below HBR.out (Nat.le_refl _)).at h1
    have hc1:=hca q h1
    by_cases h2:q<b.length
    ·have s2:decide ((q:Int)<(b.length:Int))=true:=decide_eq_true (by omega)
     have s2':decide (q<b.length)=true:=decide_eq_true h2
     obtain⟨gb,ob,rfl,hcb⟩:=(HB.out.below HBR.out (Nat.le_refl _)).at h2
     have hc2:=hcb q h2
     by_cases heq:zat a q=zat b q
     ·have HN:=Lib.hid (HNX.out heq)
      have s3:(zat a q != zat b q)=false:=by simpa using heq
      clear hca hcb heq hno HNX hor
      generalize zat a q=y1 at *
      generalize zat b q=y2 at *
      go_wp2
      go_roundw
      case rel=>exact⟨q+1,by omega,by go_num,HN.out,HBR.out⟩
      case measure=>simp [intOf];omega
     ·have HV:=Lib.hid (hno heq)
      have s3:(zat a q != zat b q)=true:=by simpa using heq
      clear hca hcb heq hno HNX hor
      generalize zat a q=y1 at *
      generalize zat b q=y2 at *
      go_wp2
      go_ret
      exact⟨by rw [HV.out];rfl,HBR.out⟩
    ·have s2:decide ((q:Int)<(b.length:Int))=false:=decide_eq_false (by omega)
     have s2':decide (q<b.length)=false:=decide_eq_false h2
     have hz:zat b q=0:=zat_outE h2
     rw [hz] at hno HNX
     by_cases heq:zat a q=0
     ·have HN:=Lib.hid (HNX.out heq)
      have s3:(zat a q != 0)=false:=by simpa using heq
      clear hca heq hno HNX hor hz
      generalize zat a q=y1 at *
      go_wp2
      go_roundw
      case rel=>exact⟨q+1,by omega,by go_num,HN.out,HBR.out⟩
      case measure=>simp [intOf];omega
     ·have HV:=Lib.hid (hno heq)
      have s3:(zat a q != 0)=true:=by simpa using heq
      clear hca heq hno HNX hor hz
      generalize zat a q=y1 at *
      go_wp2
      go_ret
      exact⟨by rw [HV.out];rfl,HBR.out⟩
   ·have s1:decide ((q:Int)<(a.length:Int))=false:=decide_eq_false (by omega)
    have s1':decide (q<a.length)=false:=decide_eq_false h1
    have h2:q<b.length:=by omega
    have s2:decide ((q:Int)<(b.length:Int))=true:=decide_eq_true (by omega)
    have s2':decide (q<b.length)=true:=decide_eq_true h2
    obtain⟨gb,ob,rfl,hcb⟩:=(HB.out.below HBR.out (Nat.le_refl _)).at h2
    have hc2:=hcb q h2
    have hz:zat a q=0:=zat_outE h1
    rw [hz] at hno HNX
    by_cases heq:0=zat b q
    ·have HN:=Lib.hid (HNX.out heq)
     have s3:(0 != zat b q)=false:=by simpa using heq
     clear hcb heq hno HNX hor hz
     generalize zat b q=y2 at *
     go_wp2
     go_roundw
     case rel=>exact⟨q+1,by omega,by go_num,HN.out,HBR.out⟩
     case measure=>simp [intOf];omega
    ·have HV:=Lib.hid (hno heq)
     have s3:(0 != zat b q)=true:=by simpa using heq
     clear hcb heq hno HNX hor hz
     generalize zat b q=y2 at *
     go_wp2
     go_ret
     exact⟨by rw [HV.out];rfl,HBR.out⟩
  ·obtain rfl:q=N:=by omega
   have hno:¬(q<a.length∨q<b.length):=fun h=>hlt ((HLT.out q).2 h)
   have s1:decide ((q:Int)<(a.length:Int))=false:=decide_eq_false (by omega)
   have s1':decide (q<a.length)=false:=decide_eq_false (by omega)
   have s2:decide ((q:Int)<(b.length:Int))=false:=decide_eq_false (by omega)
   have s2':decide (q<b.length)=false:=decide_eq_false (by omega)
   have HV:=Lib.hid (HY.out HALL.out)
   clear hno
   go_wp2
   go_ret
   exact⟨by rw [HV.out];rfl,HBR.out⟩
theorem EData_w (A:Option Addr)(c n:Nat)(B:Option Addr)(c2 m:Nat)(a b:List Int)(v:Bool)(w:World)(hT:TabOK w)(hn:a.length=n)(hm:b.length=m)(ha:Ri w .u64 A a)(hb:Ri w .u64 B b)(la:n≤1000000)(lb:m≤1000000)(hac:n≤c)(hbc:m≤c2)(hna:A=none→c=0)(hnb:B=none→c2=0)(hcm:c≤9223372036854775807)(hcm2:c2≤9223372036854775807)(hv:dataE a b=v):
  Calls Tryz.prog 9 #[.slice A n c,.slice B m c2] w fun r w'=>r=.returned (.bool v)∧Below w.heap.size w w':=by
 subst hn hm hv
 exact EData_any A c B c2 a b w hT ha hb la lb hac hbc hna hnb hcm hcm2
theorem RefData17_w (A:Option Addr)(c n:Nat)(B:Option Addr)(c2 m:Nat)(a b:List Int)(v:Bool)(w:World)(hn:a.length=n)(hm:b.length=m)(ha:Ri w .u64 A a)(hb:Ri w .u64 B b)(la:n≤1000000)(lb:m≤1000000)(hv:dataE a b=v):
  Calls Tryz.prog 10 #[.slice A n c,.slice B m c2] w fun r w'=>r=.returned (.bool v)∧Below w.heap.size w w':=by
 subst hn hm hv
 exact RefData17 A c B c2 a b w ha hb la lb
theorem EMessages_w (A:Option Addr)(c n:Nat)(B:Option Addr)(c2 m:Nat)(ms ns:List (List Int))(D X O:Int)(v:Bool)(e:Int)(w:World)(hT:TabOK w)(hn:ms.length=n)(hm:ns.length=m)(ha:Sg w A ms)(hb:Sg w B ns)(wa:Wd2 ms)(wb:Wd2 ns)(ma:n≤40)(mb:m≤40)(fa:∀j,(seg ms j).length≤20000000)(fb:∀j,(seg ns j).length≤20000000)(hD:D≤900)(hX:X≤100000)
  (hac:n≤c) (hbc:m≤c2) (hcm:c≤9223372036854775807) (hcm2:c2≤9223372036854775807) (hv:eqM ms ns D X=(v,e)) :
  Calls Tryz.prog 7 #[.slice A n c,.slice B m c2,.agg #[.int .i64 D,.int .i64 X,.int .i64 O]] w fun r w'=>r=.returned (.tuple #[.bool v,.int .i64 e])∧Below w.heap.size w w':=by
 subst hn hm
 have h:=EMessages_any A c B c2 ms ns D X O w hT ha hb wa wb ma mb fa fb hD hX hac hbc hcm hcm2
 rw [hv] at h
 exact h
attribute [local irreducible] msgV eqN sizeN
set_option maxHeartbeats 2000000 in
theorem RefMessages17 (A:Option Addr)(c:Nat)(B:Option Addr)(c2:Nat)(ms ns:List (List Int))(D X O:Int)(w:World)(ha:Sg w A ms)(hb:Sg w B ns)(wa:Wd2 ms)(wb:Wd2 ns)(ma:ms.length≤40)(mb:ns.length≤40)(fa:∀j,(seg ms j).length≤20000000)(fb:∀j,(seg ns j).length≤20000000)(hD:D≤900)(hX:X≤100000):
  Calls Tryz.prog 8 #[.slice A ms.length c,.slice B ns.length c2,.agg #[.int .i64 D,.int .i64 X,.int .i64 O]] w fun r w'=>r=.returned (.tuple #[.bool (eqM ms ns D X).1,.int .i64 (eqM ms ns D X).2])∧Below w.heap.size w w':=by
 obtain⟨⟨x,e⟩,hq1⟩:∃q,msgV ms D X=q:=⟨_,rfl⟩
 obtain⟨⟨y,f⟩,hq2⟩:∃q,msgV ns D X=q:=⟨_,rfl⟩
 have HQ:=Lib.hid (eqQ_of hq1 hq2)
 have HM1:=Lib.hid (fun w2 (h2:Sg w2 A ms)=>(by
  have h:=RefMessage12 A c ms D X O w2 h2 wa ma fa hD (by omega)
  rw [hq1] at h
  exact h:Calls Tryz.prog 17 #[.slice A ms.length c,.agg #[.int .i64 D,.int .i64 X,.int .i64 O]] w2 fun r w'=>∃v,r=.returned (.tuple #[v,.int .i64 e])∧NodF w2.heap.size x v w'∧Below w2.heap.size w2 w'))
 have HM2:=Lib.hid (fun w2 (h2:Sg w2 B ns)=>(by
  have h:=RefMessage12 B c2 ns D X O w2 h2 wb mb fb hD (by omega)
  rw [hq2] at h
  exact h:Calls Tryz.prog 17 #[.slice B ns.length c2,.agg #[.int .i64 D,.int .i64 X,.int .i64 O]] w2 fun r w'=>∃v,r=.returned (.tuple #[v,.int .i64 f])∧NodF w2.heap.size y v w'∧Below w2.heap.size w2 w'))
 have HS1:=Lib.hid ha
 have HS2:=Lib.hid hb
 clear ha hb hq1 hq2 fa fb wa wb
 rw [HQ.out]
 go_enter Tryz.func8,Tryz.ntmps8
 go_wp2_with fail
 have HB0:=Lib.hid ((Below.refl w.heap.size w).alloc (Nat.le_refl _) (.cells #[.int .i64 D,.int .i64 X,.int .i64 O] 24))
 have HL0:=Lib.hid (Blk.fresh w #[.int .i64 D,.int .i64 X,.int .i64 O] 24)
 refine(HM1.out _ (HS1.out.below HB0.out (Nat.le_refl _))).mono ?_
 rintro r w1 ⟨v,rfl,⟨A1,c1,B1,e1,hi1,rfl,-,hno1⟩,hb1⟩
 have hn1:=hno1.nd
 have HB1:=Lib.hid (bel_on HB0.out hb1)
 have HL1:=Lib.hid (HL0.out.below hb1)
 have HX1:=Lib.hid hn1
 clear hb1 hno1 hn1 HB0 HL0
 by_cases he:e=0
 rotate_left
 ·have t1:(e != 0)=true:=by simpa using he
  have HE:Hid (eqQ x y e f=(false,e)):=Lib.hid (by unfold eqQ;rw [if_pos he])
  clear he
  obtain⟨xl,yl,zl⟩:=HL1.out
  go_wp2
  go_ret2
  exact⟨by rw [HE.out];rfl,HB1.out.alloc HB1.out.size _⟩
 have t1:(e != 0)=false:=by simpa using he
 have HX2:=Lib.hid (HX1.out.on ((Below.refl _ _).alloc (Nat.le_refl _) (.cells #[.int .i64 x.k,.int .i64 x.e,.int .i64 x.n,.slice A1 x.d.length c1,.slice B1 x.ks.length e1] 53)) (Nat.le_refl _))
 have HB2:=Lib.hid (HB1.out.alloc HB1.out.size (.cells #[.int .i64 x.k,.int .i64 x.e,.int .i64 x.n,.slice A1 x.d.length c1,.slice B1 x.ks.length e1] 53))
 have HN2:=Lib.hid (Blk.fresh w1 #[.int .i64 x.k,.int .i64 x.e,.int .i64 x.n,.slice A1 x.d.length c1,.slice B1 x.ks.length e1] 53)
 obtain⟨xl,yl,zl⟩:=(HL1.out.alloc (.cells #[.int .i64 x.k,.int .i64 x.e,.int .i64 x.n,.slice A1 x.d.length c1,.slice B1 x.ks.length e1] 53))
 go_wp2_with fail
 refine(HM2.out _ (HS2.out.below HB2.out (Nat.le_refl _))).mono ?_
 rintro r w3 ⟨v,rfl,⟨A3,c3,B3,e3,hi3,rfl,-,hno3⟩,hb3⟩
 have hn3:=hno3.nd
 have HB3:=Lib.hid (bel_on HB2.out hb3)
 have HN3:=Lib.hid (HN2.out.below hb3)
 have HX3:=Lib.hid (HX2.out.on hb3 (Nat.le_refl _))
 have HY3:=Lib.hid hn3
 clear hb3 hno3 hn3 HB2 HL1 HX1 HX2 HN2 xl yl zl
 by_cases hf:f=0
 rotate_left
 ·have t2:(f != 0)=true:=by simpa using hf
  have HE:Hid (eqQ x y e f=(false,f)):=Lib.hid (by unfold eqQ;rw [if_neg (fun h=>h he),if_pos hf])
  clear he hf
  go_wp2
  go_ret2
  exact⟨by rw [HE.out];rfl,HB3.out.alloc HB3.out.size _⟩
 have t2:(f != 0)=false:=by simpa using hf
 have HE:Hid (eqQ x y e f=(eqN x y,0)):=Lib.hid (by unfold eqQ;rw [if_neg (fun h=>h he),if_neg (fun h=>h hf)])
 have HB4:=Lib.hid (HB3.out.alloc HB3.out.size (.cells #[.int .i64 y.k,.int .i64 y.e,.int .i64 y.n,.slice A3 y.d.length c3,.slice B3 y.ks.length e3] 53))
 have HX4:=Lib.hid (HX3.out.on ((Below.refl _ _).alloc (Nat.le_refl _) (.cells #[.int .i64 y.k,.int .i64 y.e,.int .i64 y.n,.slice A3 y.d.length c3,.slice B3 y.ks.length e3] 53)) (Nat.le_refl _))
 have HY4:=Lib.hid (HY3.out.on ((Below.refl _ _).alloc (Nat.le_refl _) (.cells #[.int .i64 y.k,.int .i64 y.e,.int .i64 y.n,.slice A3 y.d.length c3,.slice B3 y.ks.length e3] 53)) (Nat.le_refl _))
 obtain⟨xn,yn,zn⟩:=(HN3.out.alloc (.cells #[.int .i64 y.k,.int .i64 y.e,.int .i64 y.n,.slice A3 y.d.length c3,.slice B3 y.ks.length e3] 53))
 clear he hf
 go_wp2_with fail
 refine(RefEqual_node x y A1 c1 B1 e1 A3 c3 B3 e3 _ HX4.out HY4.out).mono ?_
 rintro r w5 ⟨rfl,hb5⟩
 have HB5:=Lib.hid (bel_on HB4.out hb5)
 clear hb5 xn yn zn
 go_wp2
 go_ret2
 exact⟨by rw [HE.out];rfl,HB5.out⟩
theorem RefMessages17_w (A:Option Addr)(c n:Nat)(B:Option Addr)(c2 m:Nat)(ms ns:List (List Int))(D X O:Int)(v:Bool)(e:Int)(w:World)(hn:ms.length=n)(hm:ns.length=m)(ha:Sg w A ms)(hb:Sg w B ns)(wa:Wd2 ms)(wb:Wd2 ns)(ma:n≤40)(mb:m≤40)(fa:∀j,(seg ms j).length≤20000000)(fb:∀j,(seg ns j).length≤20000000)(hD:D≤900)(hX:X≤100000)(hv:eqM ms ns D X=(v,e)):
  Calls Tryz.prog 8 #[.slice A n c,.slice B m c2,.agg #[.int .i64 D,.int .i64 X,.int .i64 O]] w fun r w'=>r=.returned (.tuple #[.bool v,.int .i64 e])∧Below w.heap.size w w':=by
 subst hn hm
 have h:=RefMessages17 A c B c2 ms ns D X O w ha hb wa wb ma mb fa fb hD hX
 rw [hv] at h
 exact h
end
end Go.Proofs.YtfaflahfjgnphaaGreatDoor
