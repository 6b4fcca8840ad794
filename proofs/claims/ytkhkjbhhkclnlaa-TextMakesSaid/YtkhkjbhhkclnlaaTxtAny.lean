/- What package text answers, as one word: TextI of the developers' collections. -/
import Derived.Test.YtkhkjbhhkclnlaaTxtDoc
import Derived.Test.YtkhkjbhhkclnlaaTxtNew
namespace Go.Proofs.Ytkhkjbhhkclnlaa
open Go.RowKit

/-- a collection of the documents S lies at v. -/
def TxtAt (B : Nat) (w : World) (v : Value) (S : List Sec) : Prop :=
  ∃ (g : Nat) (X : Option Addr) (cx y cy : Nat) (T : List Part), v = .pointer (some ⟨g, 0, none⟩) ∧ Txt B w g X cx y cy T S
theorem of_same {f : FuncId} {args : Array Value} {v : Value} {w : World} (h : Calls Try.prog f args w fun e w' => e = .returned v ∧ w = w') : Calls Try.prog f args w fun e w' => e = .returned v ∧ Below w.heap.size w w' :=
  h.mono fun e w' hh => ⟨hh.1, by rw [← hh.2]; exact Below.refl _ _⟩
theorem of_sameS {f : FuncId} {args : Array Value} {w : World} (h : Calls Try.prog f args w fun e w' => e = .returned (.slice none 0 0) ∧ w = w') : Calls Try.prog f args w fun e w' => (∃ (A : Option Addr) (c : Nat), e = .returned (.slice A 0 c)) ∧ Below w.heap.size w w' :=
  h.mono fun e w' hh => ⟨⟨none, 0, hh.1⟩, by rw [← hh.2]; exact Below.refl _ _⟩
theorem text_any : TextI TxtAt where
  keep_ := fun ⟨g, X, cx, y, cy, T, h1, h2⟩ _ hb => ⟨g, X, cx, y, cy, T, h1, h2.keep_ hb⟩
  ptr := fun ⟨g, _, _, _, _, _, h1, _⟩ => ⟨_, h1⟩
  right := fun ⟨_, _, _, _, _, _, _, h2⟩ => ⟨h2.right, h2.small⟩
  new := fun P c L w hl hcm _ ho => (tnew_any P c L w hl hcm ho).mono fun e w' ⟨h1, h2, h3⟩ => ⟨fun hr => by
    obtain ⟨g, y, cx, cy, X, T, e1, e2⟩ := h1 hr
    exact ⟨_, e1, g, X, cx, y, cy, T, rfl, e2⟩, h2, h3⟩
  docs := fun B v S w ⟨g, X, cx, y, cy, T, h1, h2⟩ => by subst h1; exact of_same (tdocs_any h2)
  len_ := fun B v S w ⟨g, X, cx, y, cy, T, h1, h2⟩ => by
    subst h1
    refine (tlen_any h2).mono fun e w' hh => ⟨hh.1, ?_⟩
    obtain ⟨q, hq⟩ := hh.2
    rw [hq]
    exact below_drewN' (Below.refl _ _) q
  alphabet := fun B v S w ⟨g, X, cx, y, cy, T, h1, h2⟩ => by subst h1; exact of_same (talphabet_any h2)
  symbols := fun B v S w ⟨g, X, cx, y, cy, T, h1, h2⟩ => by subst h1; exact tsymbols_any h2
  doc := fun B v S p w hp ⟨g, X, cx, y, cy, T, h1, h2⟩ => by subst h1; exact tdoc_any h2 p hp
  start := fun B v S d w hd ⟨g, X, cx, y, cy, T, h1, h2⟩ => by subst h1; exact of_same (tstart_any h2 d hd)
  bytes := fun B v S d w hd ⟨g, X, cx, y, cy, T, h1, h2⟩ => by
    subst h1
    by_cases hin : 0 ≤ d ∧ d < (S.length : Int)
    · obtain ⟨m, rfl⟩ : ∃ m : Nat, d = (m : Int) := ⟨d.toNat, by omega⟩
      exact (tbytes_in h2 m (by omega)).mono fun e w' hh => ⟨fun x _ hx => hh.1 x (by rwa [Int.toNat_natCast] at hx), fun hn => absurd hin hn, hh.2⟩
    · exact (tbytes_out h2 d hin).mono fun e w' hh => ⟨fun x h0 hx => absurd ⟨h0, by have := (List.getElem?_eq_some_iff.1 hx).1; omega⟩ hin, fun _ => ⟨none, 0, hh.1⟩, by rw [← hh.2]; exact Below.refl _ _⟩
  pattern := fun B v S A n c V w ⟨g, X, cx, y, cy, T, h1, h2⟩ hn hA ho => by subst h1; exact tpattern_any h2 A n c V hn hA ho
  nilDocs := fun w => of_same (tdocs_nil w)
  nilLen := fun w => of_same (tlen_nil w)
  nilAlphabet := fun w => of_same (talphabet_nil w)
  nilSymbols := fun w => of_sameS (tsymbols_nil w)
  nilDoc := fun p w => tdoc_nil p w
  nilStart := fun d w => of_same (tstart_nil d w)
  nilBytes := fun d w => of_sameS (tbytes_nil d w)
  nilPattern := fun A n c V w _ _ _ => of_sameS (tpattern_nil A n c w)
end Go.Proofs.Ytkhkjbhhkclnlaa
