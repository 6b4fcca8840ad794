/- Texts of ours, joined: RmqI. -/
import Derived.Test.YtcidobpbepeakaaGreatB02
import Derived.Test.YtcidobpbepeakaaGreatB01
import Derived.Deep.QuietTactic
import Derived.BigQuiet
set_option maxRecDepth 1000000
set_option maxHeartbeats 6400000
namespace Go.Proofs.YtcidobpbepeakaaGreat
open Go.RowKit
structure RmqI (At:Nat→World→Value→Nat→(Nat→Int)→Prop):Prop where
 keep_:∀ {B:Nat} {w w':World} {v:Value} {n:Nat} {V:Nat→Int},At B w v n V→w.heap.size≤w'.heap.size→(∀k,B≤k→k < w.heap.size→w'.heap[k]?=w.heap[k]?)→At B w' v n V
 ptr:∀ {B:Nat} {w:World} {v:Value} {n:Nat} {V:Nat→Int},At B w v n V→∃a,v=.pointer (some a)
 new:∀(A:Option Addr) (n c:Nat) (V:Nat→Int) (w:World),n≤4194303→ItsR w A n c V→Calls Tryz.prog 91 #[.slice A n c] w fun e w'=>(∃v,e=.returned (.tuple #[v,.int .i64 0])∧At w.heap.size w' v n V)∧Below w.heap.size w w'
 len_:∀(B:Nat) (v:Value) (n:Nat) (V:Nat→Int) (w:World),At B w v n V→Calls Tryz.prog 147 #[v] w fun e w'=>e=.returned (.int .i64 (n:Int))∧Below w.heap.size w w'
 least:∀(B:Nat) (v:Value) (n:Nat) (V:Nat→Int) (a b:Int) (w:World),(Lit.int .i64 a).wf=true→(Lit.int .i64 b).wf=true→At B w v n V→Calls Tryz.prog 102 #[v,.int .i64 a,.int .i64 b] w fun e w'=>e=.returned (.int .i64 (lstR V a b n))∧Below w.heap.size w w'
section
variable {At:Nat→World→Value→Nat→(Nat→Int)→Prop}
theorem RmqI.keep (I:RmqI At) {B:Nat} {w w':World} {v:Value} {n:Nat} {V:Nat→Int} (h:At B w v n V) (hb:Below w.heap.size w w'):At B w' v n V:=I.keep_ h hb.size fun k _ hk=>hb.block k hk
end
end Go.Proofs.YtcidobpbepeakaaGreat
