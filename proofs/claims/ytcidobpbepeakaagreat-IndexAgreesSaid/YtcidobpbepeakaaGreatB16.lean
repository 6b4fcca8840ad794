/- Texts of ours, joined: ListRef. -/
import Derived.Test.YtcidobpbepeakaaGreatB02
import Derived.Test.YtcidobpbepeakaaGreatB01
import Derived.Deep.CutBlock
import Derived.Deep.CutRange
set_option maxRecDepth 1000000
set_option maxHeartbeats 6400000
namespace Go.Proofs.YtcidobpbepeakaaGreat
open Go.RowKit
def EnumR (w:World) (S:Int→Prop) (v:Value):Prop:=∃(A:Option Addr) (c m:Nat) (F:Nat→Int),v=.slice A m c∧EnumS S F m∧ItsR w A m c F
end Go.Proofs.YtcidobpbepeakaaGreat
