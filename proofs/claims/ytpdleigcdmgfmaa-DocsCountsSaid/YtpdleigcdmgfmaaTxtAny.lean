/- What package text answers, as one word: TextI of the developers' collections. -/
import Derived.Test.YtpdleigcdmgfmaaTxtDoc
import Derived.Test.YtpdleigcdmgfmaaTxtNew
namespace Go.Proofs.Ytpdleigcdmgfmaa
open Go.RowKit

/-- a collection of the documents S lies at v. -/
def TxtAt (B : Nat) (w : World) (v : Value) (S : List Sec) : Prop :=
  ∃ (g : Nat) (X : Option Addr) (cx y cy : Nat) (T : List Part), v = .pointer (some ⟨g, 0, none⟩) ∧ Txt B w g X cx y cy T S
theorem of_same {f : FuncId} {args : Array Value} {v : Value} {w : World} (h : Calls Try.prog f args w fun e w' => e = .returned v ∧ w = w') : Calls Try.prog f args w fun e w' => e = .returned v ∧ Below w.heap.size w w' :=
  h.mono fun e w' hh => ⟨hh.1, by rw [← hh.2]; exact Below.refl _ _⟩
theorem of_sameS {f : FuncId} {args : Array Value} {w : World} (h : Calls Try.prog f args w fun e w' => e = .returned (.slice none 0 0) ∧ w = w') : Calls Try.prog f args w fun e w' => (∃ (A : Option Addr) (c : Nat), e = .returned (.slice A 0 c)) ∧ Below w.heap.size w w' :=
  h.mono fun e w' hh => ⟨⟨none, 0, hh.1⟩, by rw [← hh.2]; exact Below.refl _ _⟩
end Go.Proofs.Ytpdleigcdmgfmaa
