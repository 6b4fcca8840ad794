/- Sections as they lie: a slice of slices of bytes; the document's Size and Same of them. A collection of documents as one row of symbols: where each document's symbols begin, of which document each is, what it is. The document's functions of layer 8: which documents may be a collection, its symbols, of which document each is. -/
import Derived.Test.YthbnojhcmfhnhaaImgMath
import Derived.Test.YthbnojhcmfhnhaaCrc
import Derived.Deep.QuietTactic
import Derived.BigQuiet
import Derived.Test.YthbnojhcmfhnhaaIntPut
namespace Go.Proofs.Ythbnojhcmfhnhaa
open Go.RowKit

/-- a part of memory as a section. -/
def Part.sec (p : Part) : Sec := ⟨p.n, p.V⟩
/-- slices of bytes, side by side. -/
def Secs (w : World) (B : Nat) (P : Option Addr) (L : List Part) : Prop :=
  ∀ (j : Nat) (p : Part), L[j]? = some p → ∃ ad : Addr, P = some ad ∧ ad.block < B ∧ w.cell? (ad.add j) = some (.slice p.A p.n p.c) ∧ p.n ≤ p.c ∧ p.c ≤ maxLen ∧ (p.A = none → p.n = 0 ∧ p.c = 0) ∧ Bys w B p.A p.n p.V
theorem Secs.below {w w' : World} {B : Nat} {P : Option Addr} {L : List Part} (h : Secs w B P L) (hb : Below B w w') : Secs w' B P L := fun j p hj => by
  obtain ⟨ad, h1, h2, h3, h4, h5, h6, h7⟩ := h j p hj
  exact ⟨ad, h1, h2, (hb.cell (by rw [add_block]; exact h2)).trans h3, h4, h5, h6, h7.below hb⟩
theorem Secs.mono_ {w : World} {B B' : Nat} {P : Option Addr} {L : List Part} (h : Secs w B P L) (hB : B ≤ B') : Secs w B' P L := fun j p hj => by
  obtain ⟨ad, h1, h2, h3, h4, h5, h6, h7⟩ := h j p hj
  exact ⟨ad, h1, by omega, h3, h4, h5, h6, h7.mono_ hB⟩

/-- the document's size of sections, from a number on. -/
def sizeFrom (n : Nat) : List Part → Nat
  | [] => n
  | p :: L => if 2000000 < n ∨ 2000000 < p.n then 2000001 else sizeFrom (n + (p.n + 1)) L
theorem sizeFrom_step (n : Nat) (L : List Part) (i : Nat) (p : Part) (h : L[i]? = some p) (h1 : ¬ 2000000 < n) (h2 : ¬ 2000000 < p.n) : sizeFrom n (L.drop i) = sizeFrom (n + (p.n + 1)) (L.drop (i + 1)) := by
  rw [List.drop_eq_getElem?_toList_append, h]
  show (if 2000000 < n ∨ 2000000 < p.n then 2000001 else sizeFrom (n + (p.n + 1)) (L.drop (i + 1))) = _
  rw [if_neg (by omega)]
theorem sizeFrom_over (n : Nat) (L : List Part) (i : Nat) (p : Part) (h : L[i]? = some p) (h1 : 2000000 < n ∨ 2000000 < p.n) : sizeFrom n (L.drop i) = 2000001 := by
  rw [List.drop_eq_getElem?_toList_append, h]
  show sizeFrom n (p :: L.drop (i + 1)) = _
  unfold sizeFrom
  rw [if_pos h1]
theorem sizeFrom_is : ∀ (L : List Part) (n : Nat), sizeFrom n L ≤ 2000000 → sizeFrom n L = n + (L.map fun p => p.n + 1).sum
  | [], n, _ => by simp [sizeFrom]
  | p :: L, n, h => by
    unfold sizeFrom at h ⊢
    split at h
    · omega
    · rename_i h1
      rw [if_neg h1, sizeFrom_is L _ h]
      simp
      omega
theorem sum_mem : ∀ (L : List Part) (p : Part), p ∈ L → p.n + 1 ≤ (L.map fun p => p.n + 1).sum
  | [], p, h => by cases h
  | q :: L, p, h => by
    rcases List.mem_cons.1 h with rfl | h
    · simp
    · have := sum_mem L p h
      simp
      omega
theorem sum_length : ∀ L : List Part, L.length ≤ (L.map fun p => p.n + 1).sum
  | [] => by simp
  | q :: L => by
    have := sum_length L
    simp
    omega

/-- two lists of sections alike. -/
def SameP (L L' : List Part) : Prop := L.length = L'.length ∧ ∀ (i : Nat) (x y : Part), L[i]? = some x → L'[i]? = some y → bstr x.V x.n = bstr y.V y.n

end Go.Proofs.Ythbnojhcmfhnhaa

namespace Go.Proofs.Ythbnojhcmfhnhaa

/-- documents that lie, as lists of bytes. -/
def docsP (L : List Part) : List Sec := L.map Part.sec
theorem docsP_length (L : List Part) : (docsP L).length = L.length := by unfold docsP; simp
theorem docsP_at {L : List Part} {i : Nat} {p : Part} (h : L[i]? = some p) : (docsP L)[i]? = some p.sec := by unfold docsP; rw [List.getElem?_map, h]; rfl
/-- how many bytes, of the first d documents. -/
def bytesT (S : List Sec) : Nat := (S.map Sec.n).sum
/-- where document d's symbols begin. -/
def offT (S : List Sec) (d : Nat) : Nat := ((S.take d).map fun x => x.n + 1).sum
/-- how many symbols. -/
def lenT (S : List Sec) : Nat := offT S S.length
theorem offT_zero (S : List Sec) : offT S 0 = 0 := rfl
theorem offT_succ {S : List Sec} {d : Nat} {x : Sec} (h : S[d]? = some x) : offT S (d + 1) = offT S d + (x.n + 1) := by
  unfold offT
  rw [List.take_add_one, h]
  simp
theorem offT_cons (x : Sec) (S : List Sec) (d : Nat) : offT (x :: S) (d + 1) = x.n + 1 + offT S d := by
  unfold offT
  simp
theorem offT_mono {S : List Sec} : ∀ {e d : Nat}, d ≤ e → e ≤ S.length → offT S d ≤ offT S e
  | 0, d, h, _ => by
    obtain rfl : d = 0 := by omega
    exact Nat.le_refl _
  | e + 1, d, h, hl => by
    by_cases hd : d = e + 1
    · subst hd; exact Nat.le_refl _
    · obtain ⟨x, hx⟩ : ∃ x, S[e]? = some x := ⟨_, List.getElem?_eq_getElem (by omega)⟩
      rw [offT_succ hx]
      have := offT_mono (S := S) (e := e) (d := d) (by omega) (by omega)
      omega
theorem offT_in {S : List Sec} {d : Nat} {x : Sec} (h : S[d]? = some x) : offT S d + (x.n + 1) ≤ lenT S := by
  rw [← offT_succ h]
  exact offT_mono (by have := (List.getElem?_eq_some_iff.1 h).1; omega) (Nat.le_refl _)
theorem lenT_is : ∀ S : List Sec, lenT S = bytesT S + S.length
  | [] => rfl
  | x :: S => by
    have h := lenT_is S
    unfold lenT at h ⊢
    rw [List.length_cons, offT_cons, h]
    unfold bytesT
    simp
    omega
theorem bytesT_take {S : List Sec} {d : Nat} {x : Sec} (h : S[d]? = some x) : bytesT (S.take (d + 1)) = bytesT (S.take d) + x.n := by
  unfold bytesT
  rw [List.take_add_one, h]
  simp
theorem bytesT_le {S : List Sec} : ∀ (d : Nat), bytesT (S.take d) ≤ bytesT S := fun d => by
  have h := List.take_append_drop d S
  have e : bytesT S = bytesT (S.take d) + bytesT (S.drop d) := by
    unfold bytesT
    rw [← List.sum_append, ← List.map_append, h]
  omega
/-- of which document the symbol at p is, and how far it stands in it. -/
def locT : List Sec → Nat → Option (Nat × Nat)
  | [], _ => none
  | x :: S, p => if p ≤ x.n then some (0, p) else (locT S (p - (x.n + 1))).map fun (d, o) => (d + 1, o)
theorem locT_at : ∀ {S : List Sec} {d o : Nat} {x : Sec}, S[d]? = some x → o ≤ x.n → locT S (offT S d + o) = some (d, o)
  | [], d, o, x, h, _ => by simp at h
  | y :: S, 0, o, x, h, ho => by
    simp at h
    subst h
    rw [offT_zero, Nat.zero_add]
    unfold locT
    rw [if_pos ho]
  | y :: S, d + 1, o, x, h, ho => by
    rw [offT_cons]
    unfold locT
    rw [if_neg (by omega), show y.n + 1 + offT S d + o - (y.n + 1) = offT S d + o by omega, locT_at (S := S) (by simpa using h) ho]
    rfl
theorem locT_some : ∀ {S : List Sec} {p : Nat}, p < lenT S → ∃ d o x, S[d]? = some x ∧ o ≤ x.n ∧ p = offT S d + o
  | [], p, h => by simp [lenT, offT] at h
  | y :: S, p, h => by
    by_cases hp : p ≤ y.n
    · exact ⟨0, p, y, rfl, hp, by rw [offT_zero]; omega⟩
    · unfold lenT at h
      rw [List.length_cons, offT_cons] at h
      obtain ⟨d, o, x, h1, h2, h3⟩ := locT_some (S := S) (p := p - (y.n + 1)) (by unfold lenT; omega)
      exact ⟨d + 1, o, x, by simpa using h1, h2, by rw [offT_cons]; omega⟩
theorem locT_none : ∀ {S : List Sec} {p : Nat}, lenT S ≤ p → locT S p = none
  | [], _, _ => rfl
  | y :: S, p, h => by
    unfold lenT at h
    rw [List.length_cons, offT_cons] at h
    unfold locT
    rw [if_neg (by omega), locT_none (S := S) (by unfold lenT; omega)]
    rfl
/-- the symbol at p. -/
def symT (S : List Sec) (p : Nat) : Nat := match locT S p with
  | some (d, o) => match S[d]? with
    | some x => if o < x.n then S.length + x.V o else d
    | none => 0
  | none => 0
theorem sym_byte {S : List Sec} {d o : Nat} {x : Sec} (h : S[d]? = some x) (ho : o < x.n) : symT S (offT S d + o) = S.length + x.V o := by
  unfold symT
  rw [locT_at h (by omega)]
  dsimp only
  rw [h]
  dsimp only
  rw [if_pos ho]
theorem sym_end {S : List Sec} {d : Nat} {x : Sec} (h : S[d]? = some x) : symT S (offT S d + x.n) = d := by
  unfold symT
  rw [locT_at h (Nat.le_refl _)]
  dsimp only
  rw [h]
  dsimp only
  rw [if_neg (by omega)]
/-- what Doc answers. -/
def docI (S : List Sec) (p : Int) : Int × Int := if p < 0 then (-1, -1) else match locT S p.toNat with
  | some (d, o) => ((d : Int), (o : Int))
  | none => (-1, -1)
theorem sym_lt {S : List Sec} (hS : ∀ x ∈ S, ∀ k, k < x.n → x.V k < 256) {p : Nat} (hp : p < lenT S) : symT S p < S.length + 256 := by
  obtain ⟨d, o, x, h1, h2, rfl⟩ := locT_some hp
  have hd := (List.getElem?_eq_some_iff.1 h1).1
  by_cases ho : o < x.n
  · rw [sym_byte h1 ho]
    have := hS x (List.mem_of_getElem? h1) o ho
    omega
  · obtain rfl : o = x.n := by omega
    rw [sym_end h1]
    omega
end Go.Proofs.Ythbnojhcmfhnhaa

namespace Go.Proofs.Ythbnojhcmfhnhaa
open Go.RowKit

theorem docs_len {L : List Part} {i : Nat} {p : Part} (h : L[i]? = some p) : bytesT ((docsP L).take (i + 1)) = bytesT ((docsP L).take i) + p.n := bytesT_take (docsP_at h)
theorem locT_drop {S : List Sec} {i q : Nat} {x : Sec} (h : S[i]? = some x) : locT (S.drop i) q = if q ≤ x.n then some (0, q) else (locT (S.drop (i + 1)) (q - (x.n + 1))).map fun (d, o) => (d + 1, o) := by
  rw [List.drop_eq_getElem?_toList_append, h]
  rfl
/-- what Doc answers from document i on. -/
def docJ (S : List Sec) (i q : Nat) : Int × Int := match locT (S.drop i) q with
  | some (d, o) => (((d + i : Nat) : Int), (o : Int))
  | none => (-1, -1)
theorem docJ_here {S : List Sec} {i q : Nat} {x : Sec} (h : S[i]? = some x) (hq : q ≤ x.n) : docJ S i q = ((i : Int), (q : Int)) := by
  unfold docJ
  rw [locT_drop h, if_pos hq]
  simp
theorem docJ_on {S : List Sec} {i q : Nat} {x : Sec} (h : S[i]? = some x) (hq : ¬ q ≤ x.n) : docJ S i q = docJ S (i + 1) (q - (x.n + 1)) := by
  unfold docJ
  rw [locT_drop h, if_neg hq]
  rcases locT (S.drop (i + 1)) (q - (x.n + 1)) with _ | ⟨d, o⟩
  · rfl
  · show (((d + 1 + i : Nat) : Int), (o : Int)) = (((d + (i + 1) : Nat) : Int), (o : Int))
    rw [show d + 1 + i = d + (i + 1) by omega]
theorem docJ_end {S : List Sec} {i q : Nat} (h : S.length ≤ i) : docJ S i q = (-1, -1) := by
  unfold docJ
  rw [List.drop_of_length_le h]
  rfl
theorem docI_nat {S : List Sec} (q : Nat) : docI S (q : Int) = docJ S 0 q := by
  unfold docI docJ
  rw [if_neg (by omega), Int.toNat_natCast, List.drop_zero]
  rcases locT S q with _ | ⟨d, o⟩
  · rfl
  · rfl
/-- a collection's symbols, as ints. -/
def symI (S : List Sec) (p : Nat) : Int := ((symT S p : Nat) : Int)
/-- of which document each place of an order is. -/
def docAt (S : List Sec) (V : Nat → Int) (i : Nat) : Int := (docI S (V i)).1
theorem docAt_room {S : List Sec} {p : Int} : -1 ≤ (docI S p).1 ∧ (docI S p).1 ≤ (S.length : Int) := by
  unfold docI
  split
  · exact ⟨by omega, by show (-1 : Int) ≤ _; omega⟩
  · split
    · rename_i d o h
      have : d ≤ S.length := by
        have h2 : ∀ (S : List Sec) (q d o : Nat), locT S q = some (d, o) → d ≤ S.length := by
          intro S
          induction S with
          | nil => intro q d o h; cases h
          | cons x S ih =>
            intro q d o h
            unfold locT at h
            split at h
            · cases h
              exact Nat.zero_le _
            · rcases e : locT S (q - (x.n + 1)) with _ | ⟨d', o'⟩
              · rw [e] at h; cases h
              · rw [e] at h
                cases h
                have := ih _ _ _ e
                show d' + 1 ≤ S.length + 1
                omega
        exact h2 S _ d o h
      show (-1 : Int) ≤ (d : Int) ∧ (d : Int) ≤ _
      omega
    · exact ⟨by omega, by show (-1 : Int) ≤ _; omega⟩
end Go.Proofs.Ythbnojhcmfhnhaa
