/- Texts of ours, joined: OffB. -/
import Derived.Test.YtcidobpbepeakaaGreatB01
set_option maxRecDepth 1000000
set_option maxHeartbeats 6400000
namespace Go.Proofs.YtcidobpbepeakaaGreat
open Go.RowKit
structure OffB (F:Nat→Prop) (w w':World):Prop where
 os:w'.os=w.os
 tape:w'.tape=w.tape
 output:w'.output=w.output
 size:w.heap.size≤w'.heap.size
 block:∀k,k < w.heap.size→¬F k→w'.heap[k]?=w.heap[k]?
theorem OffB.refl (F:Nat→Prop) (w:World):OffB F w w:=⟨rfl,rfl,rfl,Nat.le_refl _,fun _ _ _=>rfl⟩
theorem OffB.of_below {F:Nat→Prop} {w w':World} (h:Below w.heap.size w w'):OffB F w w':=⟨h.os,h.tape,h.output,h.size,fun k hk _=>h.block k hk⟩
theorem OffB.trans {F F':Nat→Prop} {w w1 w2:World} (h:OffB F w w1) (h':OffB F' w1 w2) (hF:∀k,F' k→F k∨w.heap.size≤k):OffB F w w2:=
 ⟨h'.os.trans h.os,h'.tape.trans h.tape,h'.output.trans h.output,Nat.le_trans h.size h'.size,fun k hk hn=>(h'.block k (Nat.lt_of_lt_of_le hk h.size) (fun g=>(hF k g).elim hn (fun q=>by omega))).trans (h.block k hk hn)⟩
theorem OffB.lies {F:Nat→Prop} {w w':World} {g:Nat} {t:TypeId} {cs:List Value} (h:OffB F w w') (hl:Lies w g t cs) (hF:¬F g):Lies w' g t cs:=hl.same (h.block g hl.lt hF)
theorem OffB.wider {F F':Nat→Prop} {w w':World} (h:OffB F w w') (hF:∀k,F k→F' k):OffB F' w w':=⟨h.os,h.tape,h.output,h.size,fun k hk hn=>h.block k hk fun g=>hn (hF k g)⟩
end Go.Proofs.YtcidobpbepeakaaGreat
