/- Texts of ours, joined: IntClone. -/
import Derived.Test.YtcidobpbepeakaaGreatB01
import Derived.Test.YtcidobpbepeakaaGreatB02
import Derived.Deep.DeepAppendRoom
set_option maxRecDepth 1000000
set_option maxHeartbeats 6400000
namespace Go.Proofs.YtcidobpbepeakaaGreat
open Go.RowKit
theorem wvClone_any (A:Option Addr) (n c:Nat) (V:Nat→Int) (w:World) (hn:n≤4194304) (ho:ItsR w A n c V):
    Calls Tryz.prog 86 #[.slice A n c] w fun e w'=>∃v,e=.returned v∧w'.ownsRow w.heap.size 3 1 v n (icells V n)∧Below w.heap.size w w':=by
 have HO:=Lib.hid ho
 rcases A with _ | ad
 · obtain ⟨rfl,rfl⟩:=ho.1 rfl
   have hnil:=fun W=>Lib.run_eql_slice_nil (P:=Tryz.prog) W 34 3 none 0 0 0 0 Tryz.underlying34
   clear ho
   go_enter Tryz.func86,Tryz.ntmps86
   go_wp2_with fail
   go_ret
   exact ⟨_,rfl,World.ownsRow_nil _ _ _ _,Below.refl _ _⟩
 · have hnil:=fun W=>Lib.run_eql_slice_nil (P:=Tryz.prog) W 34 3 (some ad) n c 0 0 Tryz.underlying34
   clear ho
   go_enter Tryz.func86,Tryz.ntmps86
   go_wp2_with (at_builtin;refine step_append_list_far rfl (.tmp 5) (.tmp 6) rfl rfl rfl (by omega) HO.out.1 HO.out.2.2.2 ?_;intro g cg w1 hown1 hb1)
   go_ret
   exact ⟨_,rfl,hown1.out,hb1⟩
end Go.Proofs.YtcidobpbepeakaaGreat
