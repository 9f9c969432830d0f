/- The texts Ref14g (what is wanted of them), one after the other. -/
import Derived.Test.YtclpapddejgpnaaDoorMg23
namespace Go.Proofs.YtclpapddejgpnaaDoor
open Go.ChangeShapes Go.WideShapes Go.ChangeAt Go.RowKit
set_option linter.unusedVariables false
set_option linter.unusedSimpArgs false
set_option maxRecDepth 100000
theorem place_one (x:Nd):placeF [0] 0 x=writeF x:=by
 unfold placeF writeF
 rfl
theorem ri_new14 (W:World)(q:Nat)(y:Int)(hq:q=W.heap.size){T:TypeId}:Ri (W.alloc (.cells #[.int .u64 y] T)) .u64 (some ⟨q,0,none⟩) [y]:=hq ▸ Ri.lit W .u64 [y] T
set_option maxRecDepth 100000 in
theorem RefWrite14 (x:Nd)(A:Option Addr)(c:Nat)(B:Option Addr)(c2:Nat)(w:World)(hx:NdR w A c B c2 x)(hv:validN x=true)(hs:sizeN x≤1048576)(hC:canN x≤536870910):
  Calls Tryd.prog 15 #[.agg #[.int .i64 x.k,.int .i64 x.e,.int .i64 x.n,.slice A x.d.length c,.slice B x.ks.length c2]] w fun r w'=>∃v,r=.returned v∧Holds w' v (writeF x)∧Below w.heap.size w w':=by
 have HX:=Lib.hid hx
 have HB0:=Lib.hid (fun o1 o2=>((Below.refl w.heap.size w).alloc (Nat.le_refl _) o1).alloc (by simp) o2)
 have HP:=Lib.hid (fun w2 q (h2:NdR w2 A c B c2 x) (hr:Ri w2 .u64 (some ⟨q,0,none⟩) [0])=>RefPlace14 x [0] 0 (some ⟨q,0,none⟩) 1 A c B c2 w2 h2 hv hs hr (fun h=>by cases h) (by simp) (by unfold maxLen;omega) (by simp) rfl (by simp;omega))
 have HE:=Lib.hid (place_one x)
 clear hx hv
 go_enter Tryd.func15,Tryd.ntmps15
 go_wp2_with fail
 refine(HP.out _ (w.heap.size+1) (HX.out.on (HB0.out _ _) (Nat.le_refl _)) (ri_new14 _ _ 0 (by simp))).mono ?_
 rintro r w3 ⟨v,rfl,hh,hb⟩
 have HH:=Lib.hid hh
 have HB:=Lib.hid ((HB0.out (.cells #[.int .i64 x.k,.int .i64 x.e,.int .i64 x.n,.slice A x.d.length c,.slice B x.ks.length c2] 37) (.cells #[.int .u64 0] 32)).trans (hb.mono (by simp;omega)))
 clear hh hb
 go_wp2
 go_ret
 exact⟨_,rfl,by rw [←HE.out];exact HH.out,HB.out⟩
end Go.Proofs.YtclpapddejgpnaaDoor
