/- Nothing has turned but some blocks. -/
import Derived.Test.YthbnojhcmfhnhaaMem
namespace Go.Proofs.Ythbnojhcmfhnhaa
open Go.RowKit

/-- nothing has turned but blocks of F. -/
structure OffB (F : Nat → Prop) (w w' : World) : Prop where
  os : w'.os = w.os
  tape : w'.tape = w.tape
  output : w'.output = w.output
  size : w.heap.size ≤ w'.heap.size
  block : ∀ k, k < w.heap.size → ¬ F k → w'.heap[k]? = w.heap[k]?
theorem OffB.below {F : Nat → Prop} {H : Nat} {w0 w w' : World} (h : OffB F w w') (hb : Below H w0 w) (hs : H ≤ w.heap.size) (hF : ∀ k, F k → H ≤ k) : Below H w0 w' := hb.trans ⟨h.os, h.tape, h.output, h.size, fun k hk => h.block k (Nat.lt_of_lt_of_le hk hs) fun g => by have := hF k g; omega⟩
theorem OffB.refl (F : Nat → Prop) (w : World) : OffB F w w := ⟨rfl, rfl, rfl, Nat.le_refl _, fun _ _ _ => rfl⟩
theorem OffB.of_below {F : Nat → Prop} {w w' : World} (h : Below w.heap.size w w') : OffB F w w' := ⟨h.os, h.tape, h.output, h.size, fun k hk _ => h.block k hk⟩
theorem OffB.trans {F F' : Nat → Prop} {w w1 w2 : World} (h : OffB F w w1) (h' : OffB F' w1 w2) (hF : ∀ k, F' k → F k ∨ w.heap.size ≤ k) : OffB F w w2 :=
  ⟨h'.os.trans h.os, h'.tape.trans h.tape, h'.output.trans h.output, Nat.le_trans h.size h'.size, fun k hk hn => (h'.block k (Nat.lt_of_lt_of_le hk h.size) (fun g => (hF k g).elim hn (fun q => by omega))).trans (h.block k hk hn)⟩
theorem OffB.drewN {F : Nat → Prop} (w : World) (k : Nat) : OffB F w (w.drewN k) := OffB.of_below (below_drewN' (Below.refl _ _) k)
theorem OffB.lies {F : Nat → Prop} {w w' : World} {g : Nat} {t : TypeId} {cs : List Value} (h : OffB F w w') (hl : Lies w g t cs) (hF : ¬ F g) : Lies w' g t cs := hl.same (h.block g hl.lt hF)
theorem OffB.wider {F F' : Nat → Prop} {w w' : World} (h : OffB F w w') (hF : ∀ k, F k → F' k) : OffB F' w w' := ⟨h.os, h.tape, h.output, h.size, fun k hk hn => h.block k hk fun g => hn (hF k g)⟩
end Go.Proofs.Ythbnojhcmfhnhaa
