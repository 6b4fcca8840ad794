/- What layer 6's laws ask of package image, as one word (ImgI), over any 'At' (an image lies at a pointer); the laws' opening and their reading of all sections, over it. -/
import Derived.Test.YtjmajminfmcjcaaDoorImgOpen
import Derived.Test.YtjmajminfmcjcaaDoorSecsArg
import Derived.Test.YtjmajminfmcjcaaDoorTurned
import Derived.Deep.CutBlock
import Derived.Deep.DeepCutAuto
namespace Go.Proofs.YtjmajminfmcjcaaDoor
open Go.RowKit

/-- how long a section is, and its first page: 0 if there is none. -/
def sizeI (L : List Sec) (s : Int) : Nat := if 0 ≤ s ∧ s < (L.length : Int) then lenAt L s.toNat else 0
def firstI (L : List Sec) (s : Int) : Nat := if 0 ≤ s ∧ s < (L.length : Int) then startAt L s.toNat else 0
theorem same_sp {L L' : List Part} (h : SameS (secsP L) (secsP L')) : SameP L L' := ⟨by have := h.1; rw [secsP_length, secsP_length] at this; exact this, fun i x y h1 h2 => by
  obtain ⟨e1, e2⟩ := h.2 i _ _ (secsP_at h1) (secsP_at h2)
  have e1 : x.n = y.n := e1
  rw [← e1]
  exact bstr_congr e2⟩
/-- sections that are the same as strings are the same. -/
theorem sp_same {w w' : World} {B B' : Nat} {P P' : Option Addr} {L L' : List Part} (h : Secs w B P L) (h' : Secs w' B' P' L') (hs : SameP L L') : SameS (secsP L) (secsP L') := ⟨by rw [secsP_length, secsP_length]; exact hs.1, fun i x y h1 h2 => by
  have hi := (List.getElem?_eq_some_iff.1 h1).1
  have hi' := (List.getElem?_eq_some_iff.1 h2).1
  rw [secsP_length] at hi hi'
  obtain ⟨p, hp⟩ : ∃ p, L[i]? = some p := ⟨_, List.getElem?_eq_getElem hi⟩
  obtain ⟨q, hq⟩ : ∃ q, L'[i]? = some q := ⟨_, List.getElem?_eq_getElem hi'⟩
  rw [secsP_at hp] at h1
  rw [secsP_at hq] at h2
  cases h1
  cases h2
  obtain ⟨_, _, _, _, _, _, _, b1⟩ := h i p hp
  obtain ⟨_, _, _, _, _, _, _, b2⟩ := h' i q hq
  exact bstr_same (fun k hk => (b1 k hk).elim fun _ h => h.2.2.2) (fun k hk => (b2 k hk).elim fun _ h => h.2.2.2) (hs.2 i p q hp hq)⟩

section
variable {T : World → Prop} {At : Nat → World → Value → List Sec → Prop}
end
end Go.Proofs.YtjmajminfmcjcaaDoor
