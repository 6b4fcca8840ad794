/- Texts of ours, joined: BwtI. -/
import Derived.Test.YtcidobpbepeakaaGreatB01
import Derived.Test.YtcidobpbepeakaaGreatB02
set_option maxRecDepth 1000000
set_option maxHeartbeats 6400000
namespace Go.Proofs.YtcidobpbepeakaaGreat
open Go.RowKit
def BMakePost (w:World) (n n':Nat) (V S:Nat→Int) (e:Ending) (w':World):Prop:=
 (n=n'∧IsPerm S n→∃(A2:Option Addr) (c2:Nat),e=.returned (.tuple #[.slice A2 n c2,.int .i64 0])∧ItsR w' A2 n c2 (turnI V n S))∧
 (¬(n=n'∧IsPerm S n)→∃(A2:Option Addr) (c2:Nat),e=.returned (.tuple #[.slice A2 0 c2,.int .i64 2]))∧Below w.heap.size w w'
def BCountsPost (w:World) (n:Nat) (V:Nat→Int) (al:Int) (e:Ending) (w':World):Prop:=
 (RightS V n al→∃(A2:Option Addr) (c2:Nat),e=.returned (.tuple #[.slice A2 (al.toNat+1) c2,.int .i64 0])∧ItsR w' A2 (al.toNat+1) c2 (fun x=>((belowI V n (x:Int):Nat):Int)))∧
 (¬RightS V n al→∃(A2:Option Addr) (c2:Nat),e=.returned (.tuple #[.slice A2 0 c2,.int .i64 2]))∧Below w.heap.size w w'
end Go.Proofs.YtcidobpbepeakaaGreat
