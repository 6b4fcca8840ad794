/- Texts of ours, joined: Twos. -/
import Derived.Test.YtcidobpbepeakaaGreatB01
import Derived.Deep.SlicePairs
import Derived.Deep.AppendLies
import Derived.SizedLaws
set_option maxRecDepth 1000000
set_option maxHeartbeats 6400000
namespace Go.Proofs.YtcidobpbepeakaaGreat
open Go.ChangeShapes Go.WideShapes Go.ChangeAt Go.RowKit
section
variable {H:Type} {enc:TypeId×Value→H}
end
def dcells (X Y:Nat→Int):Nat→List Value
 | 0=>[]
 | n+1=>dcells X Y n++[.int .i64 (X n),.int .i64 (Y n)]
theorem dcells_length (X Y:Nat→Int):∀n,(dcells X Y n).length=n*2
 | 0=>rfl
 | n+1=>by
   unfold dcells
   rw [List.length_append,dcells_length X Y n]
   show n*2+2=(n+1)*2
   omega
theorem dcells_at (X Y:Nat→Int):∀n k,k < n→(dcells X Y n)[k*2]?=some (.int .i64 (X k))∧(dcells X Y n)[k*2+1]?=some (.int .i64 (Y k))
 | 0,_,h=>absurd h (Nat.not_lt_zero _)
 | n+1,k,h=>by
   unfold dcells
   by_cases e:k=n
   · subst e
     rw [List.getElem?_append_right (by rw [dcells_length];omega),List.getElem?_append_right (by rw [dcells_length];omega),dcells_length,Nat.sub_self,show k*2+1 - k*2=1 by omega]
     exact ⟨rfl,rfl⟩
   · rw [List.getElem?_append_left (by rw [dcells_length];omega),List.getElem?_append_left (by rw [dcells_length];omega)]
     exact dcells_at X Y n k (by omega)
theorem dcells_congr {X Y X' Y':Nat→Int}:∀ {n:Nat},(∀k,k < n→X k=X' k∧Y k=Y' k)→dcells X Y n=dcells X' Y' n
 | 0,_=>rfl
 | n+1,h=>by
   unfold dcells
   rw [dcells_congr fun k hk=>h k (by omega),(h n (by omega)).1,(h n (by omega)).2]
end Go.Proofs.YtcidobpbepeakaaGreat
