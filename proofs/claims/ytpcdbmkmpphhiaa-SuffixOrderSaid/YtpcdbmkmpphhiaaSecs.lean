/- Sections as they lie: a slice of slices of bytes; the document's Size and Same of them. -/
import Derived.Test.YtpcdbmkmpphhiaaImgMath
import Derived.Test.YtpcdbmkmpphhiaaCrcCut
import Derived.Deep.QuietTactic
import Derived.BigQuiet
namespace Go.Proofs.Ytpcdbmkmpphhiaa
open Go.RowKit

/-- a part of memory as a section. -/
def Part.sec (p : Part) : Sec := ⟨p.n, p.V⟩
/-- slices of bytes, side by side. -/
def Secs (w : World) (B : Nat) (P : Option Addr) (L : List Part) : Prop :=
  ∀ (j : Nat) (p : Part), L[j]? = some p → ∃ ad : Addr, P = some ad ∧ ad.block < B ∧ w.cell? (ad.add j) = some (.slice p.A p.n p.c) ∧ p.n ≤ p.c ∧ p.c ≤ maxLen ∧ (p.A = none → p.n = 0 ∧ p.c = 0) ∧ Bys w B p.A p.n p.V
theorem Secs.below {w w' : World} {B : Nat} {P : Option Addr} {L : List Part} (h : Secs w B P L) (hb : Below B w w') : Secs w' B P L := fun j p hj => by
  obtain ⟨ad, h1, h2, h3, h4, h5, h6, h7⟩ := h j p hj
  exact ⟨ad, h1, h2, (hb.cell (by rw [add_block]; exact h2)).trans h3, h4, h5, h6, h7.below hb⟩
theorem Secs.mono_ {w : World} {B B' : Nat} {P : Option Addr} {L : List Part} (h : Secs w B P L) (hB : B ≤ B') : Secs w B' P L := fun j p hj => by
  obtain ⟨ad, h1, h2, h3, h4, h5, h6, h7⟩ := h j p hj
  exact ⟨ad, h1, by omega, h3, h4, h5, h6, h7.mono_ hB⟩

/-- the document's size of sections, from a number on. -/
def sizeFrom (n : Nat) : List Part → Nat
  | [] => n
  | p :: L => if 2000000 < n ∨ 2000000 < p.n then 2000001 else sizeFrom (n + (p.n + 1)) L
theorem sizeFrom_step (n : Nat) (L : List Part) (i : Nat) (p : Part) (h : L[i]? = some p) (h1 : ¬ 2000000 < n) (h2 : ¬ 2000000 < p.n) : sizeFrom n (L.drop i) = sizeFrom (n + (p.n + 1)) (L.drop (i + 1)) := by
  rw [List.drop_eq_getElem?_toList_append, h]
  show (if 2000000 < n ∨ 2000000 < p.n then 2000001 else sizeFrom (n + (p.n + 1)) (L.drop (i + 1))) = _
  rw [if_neg (by omega)]
theorem sizeFrom_over (n : Nat) (L : List Part) (i : Nat) (p : Part) (h : L[i]? = some p) (h1 : 2000000 < n ∨ 2000000 < p.n) : sizeFrom n (L.drop i) = 2000001 := by
  rw [List.drop_eq_getElem?_toList_append, h]
  show sizeFrom n (p :: L.drop (i + 1)) = _
  unfold sizeFrom
  rw [if_pos h1]
theorem sizeFrom_is : ∀ (L : List Part) (n : Nat), sizeFrom n L ≤ 2000000 → sizeFrom n L = n + (L.map fun p => p.n + 1).sum
  | [], n, _ => by simp [sizeFrom]
  | p :: L, n, h => by
    unfold sizeFrom at h ⊢
    split at h
    · omega
    · rename_i h1
      rw [if_neg h1, sizeFrom_is L _ h]
      simp
      omega
theorem sum_mem : ∀ (L : List Part) (p : Part), p ∈ L → p.n + 1 ≤ (L.map fun p => p.n + 1).sum
  | [], p, h => by cases h
  | q :: L, p, h => by
    rcases List.mem_cons.1 h with rfl | h
    · simp
    · have := sum_mem L p h
      simp
      omega
theorem sum_length : ∀ L : List Part, L.length ≤ (L.map fun p => p.n + 1).sum
  | [] => by simp
  | q :: L => by
    have := sum_length L
    simp
    omega

/-- two lists of sections alike. -/
def SameP (L L' : List Part) : Prop := L.length = L'.length ∧ ∀ (i : Nat) (x y : Part), L[i]? = some x → L'[i]? = some y → bstr x.V x.n = bstr y.V y.n

end Go.Proofs.Ytpcdbmkmpphhiaa
