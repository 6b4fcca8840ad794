/- The walk of colophonlaw08.TextPlaces, over what package text answers (TextI). -/
import Derived.Test.YtpdleigcdmgfmaaTxtI
namespace Go.Proofs.Ytpdleigcdmgfmaa
open Go.RowKit

theorem docI_at {S : List Sec} {d o : Nat} {x : Sec} (h : S[d]? = some x) (ho : o ≤ x.n) : docI S ((offT S d + o : Nat) : Int) = ((d : Int), (o : Int)) := by
  unfold docI
  rw [if_neg (by omega), Int.toNat_natCast, locT_at h ho]
theorem startI_at {S : List Sec} {d : Nat} (h : d ≤ S.length) : startI S (d : Int) = ((offT S d : Nat) : Int) := by
  unfold startI
  rw [if_pos ⟨by omega, by omega⟩, Int.toNat_natCast]
theorem wf_nat {n : Nat} (h : n ≤ 4194304) : (Lit.int .i64 (n : Int)).wf = true := by simp [Lit.wf, IntKind.min, IntKind.max, IntKind.bits, IntKind.signed]; omega
/-- what a cell of documents is, in any world behind. -/
theorem doc_cell {w W : World} {P : Option Addr} {L : List Part} (h : Secs w w.heap.size P L) (hb : Below w.heap.size w W) {d : Nat} {p : Part} (hp : L[d]? = some p) : ∃ ad : Addr, P = some ad ∧ ad.block < w.heap.size ∧ W.cell? (ad.add d) = some (.slice p.A p.n p.c) ∧ p.n ≤ p.c ∧ p.c ≤ maxLen := by
  obtain ⟨ad, h1, h2, h3, h4, h5, _, _⟩ := (h.below hb) d p hp
  exact ⟨ad, h1, h2, h3, h4, h5⟩

section
variable {At : Nat → World → Value → List Sec → Prop}
end
end Go.Proofs.Ytpdleigcdmgfmaa
