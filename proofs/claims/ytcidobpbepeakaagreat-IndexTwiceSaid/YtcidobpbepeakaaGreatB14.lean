/- Texts of ours, joined: TalI. -/
import Derived.Test.YtcidobpbepeakaaGreatB02
import Derived.Test.YtcidobpbepeakaaGreatB01
import Derived.Deep.QuietTactic
import Derived.BigQuiet
set_option maxRecDepth 1000000
set_option maxHeartbeats 6400000
namespace Go.Proofs.YtcidobpbepeakaaGreat
open Go.RowKit
theorem below_up {lo:Nat} {w a b:World} (hlo:w.heap.size=lo) (h:Below lo w a) (hb:Below a.heap.size a b):Below lo w b:=h.trans (hb.mono (by have:=h.size;omega))
section
variable {At:Nat→World→Value→Nat→(Nat→Int)→(Nat→Int)→Prop}
end
end Go.Proofs.YtcidobpbepeakaaGreat
