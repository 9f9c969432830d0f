/- The texts Byt0 (what is wanted of them), one after the other. -/
import Derived.Test.YtfaflahfjgnphaaDoorMg29
namespace Go.Proofs.YtfaflahfjgnphaaDoor
open Go.ChangeShapes Go.WideShapes Go.ChangeAt Go.RowKit
set_option linter.unusedVariables false
set_option linter.unusedSimpArgs false
set_option maxRecDepth 100000
theorem byt_mk {k e n:Int}{d:List Int}{ks:List Nd}(hd:Bts d)(hk:∀y∈ks,bytN y):bytN (.mk k e n d ks):=by
 simp only [bytN]
 exact⟨hd,bytK_of hk⟩
theorem byt_nd0:bytN nd0:=byt_mk (fun z hz=>by cases hz) (fun y hy=>by cases hy)
theorem byt_trim:∀x:Nd,bytN x→bytN (trimN x):=Nd.ind (by
 intro k e n d ks ih h
 have hd:Bts d:=bytN_d h
 have hk:∀y∈ks,bytN y:=bytN_ks h
 have hall:∀y∈trimK ks,bytN y:=by
  intro y hy
  rw [trimK_map,List.mem_map] at hy
  obtain⟨z,hz,rfl⟩:=hy
  exact ih z hz (hk z hz)
 simp only [trimN]
 by_cases h1:k=1
 ·rw [if_pos h1,if_pos h1]
  exact byt_mk (fun z hz=>hd z (List.mem_of_mem_take hz)) (fun y hy=>hall y (List.mem_of_mem_take hy))
 ·rw [if_neg h1,if_neg h1]
  exact byt_mk hd hall)
theorem structV_byt {val:Int→Int→Int→Val}(hv:∀m s a,bytN (val m s a).n)(ls:List (List Int))(m:Int)(o:Ob):bytN (structV val ls m o).n:=by
 unfold structV
 split
 ·exact byt_nd0
 ·exact byt_mk (bytesOf_bts _) (runK_all bytN _ fun m i _ _=>hv _ _ _)
theorem listV_byt {val:Int→Int→Int→Val}(hv:∀m s a,bytN (val m s a).n)(ls:List (List Int))(m:Int)(o:Ob):bytN (listV val ls m o).n:=by
 unfold listV
 split
 ·exact byt_nd0
 ·exact byt_mk (fun z hz=>by cases hz) (runK_all bytN _ fun m i _ _=>by
   unfold elemV
   split
   ·exact hv _ _ _
   ·exact structV_byt hv _ _ _)
theorem valV_byt (ls:List (List Int)):∀r m s a,bytN (valV ls r m s a).n
 | 0,m,s,a=>by
  unfold valV
  split<;>exact byt_nd0
 | r+1,m,s,a=>by
  have ih:=fun m s a=>valV_byt ls r m s a
  unfold valV
  split
  ·exact byt_nd0
  ·unfold bodyV
   generalize objF ls s a=q
   split
   ·exact byt_nd0
   ·split
    ·exact byt_nd0
    ·split
     ·exact structV_byt ih _ _ _
     ·split
      ·exact byt_mk (trimL_bts (bytesOf_bts _) _ _) (fun y hy=>by cases hy)
      ·exact listV_byt ih _ _ _
theorem msg_byt (ls:List (List Int))(D X:Int):bytN (msgV ls D X).1:=by
 unfold msgV
 split
 ·exact byt_nd0
 ·split
  ·exact byt_nd0
  ·exact byt_trim _ (valV_byt _ _ _ _ _)
end Go.Proofs.YtfaflahfjgnphaaDoor
