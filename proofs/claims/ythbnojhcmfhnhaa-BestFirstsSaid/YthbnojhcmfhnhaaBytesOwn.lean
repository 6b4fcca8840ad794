/- A slice of bytes that came in. Bytes that the call itself collects: append of one, append of all bytes of a slice, as steps of the walk. -/
import Derived.Test.YthbnojhcmfhnhaaLaw
import Derived.Test.YthbnojhcmfhnhaaMake
import Derived.Laws.AppendOwnNone
namespace Go.Proofs.Ythbnojhcmfhnhaa
open Go.ChangeShapes Go.WideShapes Go.ChangeAt Go.RowKit

theorem u8_nat {a : Int} (h : (Lit.int .u8 a).wf = true) : ∃ x : Nat, x < 256 ∧ a = (x : Int) := by
  simp [Lit.wf, IntKind.min, IntKind.max, IntKind.bits, IntKind.signed] at h
  exact ⟨a.toNat, by omega, by omega⟩

/-- a slice of bytes, as it lies. -/
def Bys (w : World) (B : Nat) (A : Option Addr) (n : Nat) (V : Nat → Nat) : Prop :=
  ∀ k, k < n → ∃ ad : Addr, A = some ad ∧ ad.block < B ∧ w.cell? (ad.add k) = some (.int .u8 ((V k : Nat) : Int)) ∧ V k < 256
theorem Bys.below {w w' : World} {B : Nat} {A : Option Addr} {n : Nat} {V : Nat → Nat} (h : Bys w B A n V) (hb : Below B w w') : Bys w' B A n V := fun k hk => by
  obtain ⟨ad, e, h1, h2, h3⟩ := h k hk
  exact ⟨ad, e, h1, (hb.cell (by rw [add_block]; exact h1)).trans h2, h3⟩
theorem Bys.mono_ {w : World} {B B' : Nat} {A : Option Addr} {n : Nat} {V : Nat → Nat} (h : Bys w B A n V) (hB : B ≤ B') : Bys w B' A n V := fun k hk => by
  obtain ⟨ad, e, h1, h2, h3⟩ := h k hk
  exact ⟨ad, e, Nat.lt_of_lt_of_le h1 hB, h2, h3⟩

theorem cells_u8 : Try.prog.cellsOf 5 = 1 := by kernel_rfl

section
variable {H : Type} {enc : TypeId × Value → H}
end
end Go.Proofs.Ythbnojhcmfhnhaa

namespace Go.Proofs.Ythbnojhcmfhnhaa
open Go.RowKit

theorem info_u8 : (Try.prog.info? 5).map (fun i => (i.zero, i.size, i.bytes)) = some (some (.int .u8 0), 1, 1) := by kernel_rfl

/-- bytes as cells. -/
def ycells (V : Nat → Nat) (n : Nat) : List Value := (List.range n).map fun (j : Nat) => Value.int .u8 ((V j : Nat) : Int)
theorem ycells_length (V : Nat → Nat) (n : Nat) : (ycells V n).length = n := by unfold ycells; simp
theorem ycells_at (V : Nat → Nat) (n k : Nat) (h : k < n) : (ycells V n)[k]? = some (.int .u8 ((V k : Nat) : Int)) := by
  unfold ycells
  rw [List.getElem?_map, List.getElem?_range h]
  rfl
theorem ycells_snoc (V : Nat → Nat) (n : Nat) : ycells V (n + 1) = ycells V n ++ [.int .u8 ((V n : Nat) : Int)] := by
  unfold ycells
  rw [List.range_succ]
  simp
theorem ycells_one (V : Nat → Nat) (n : Nat) : ∀ v ∈ ycells V n, v.oneCell' = true := by
  intro v hv
  unfold ycells at hv
  obtain ⟨x, _, rfl⟩ := List.mem_map.1 hv
  rfl
/-- one list behind the other. -/
def both (V U : Nat → Nat) (n : Nat) : Nat → Nat := fun j => if j < n then V j else U (j - n)
theorem ycells_both (V U : Nat → Nat) (n m : Nat) : ycells V n ++ ycells U m = ycells (both V U n) (n + m) := by
  apply List.ext_getElem?
  intro k
  by_cases h : k < n
  · rw [List.getElem?_append_left (by rw [ycells_length]; exact h), ycells_at _ _ _ h, ycells_at _ _ _ (by omega)]
    unfold both
    rw [if_pos h]
  · rw [List.getElem?_append_right (by rw [ycells_length]; omega), ycells_length]
    by_cases h2 : k < n + m
    · rw [ycells_at _ _ _ (by omega), ycells_at _ _ _ h2]
      unfold both
      rw [if_neg h]
    · rw [List.getElem?_eq_none (by rw [ycells_length]; omega), List.getElem?_eq_none (by rw [ycells_length]; omega)]

/-- a row of the call's own, as a slice of bytes. -/
theorem bys_of_row {w : World} {base n : Nat} {v : Value} {V : Nat → Nat} (h : w.ownsRow base 5 1 v n (ycells V n)) (hV : ∀ j, j < n → V j < 256) :
    ∃ (A : Option Addr) (c : Nat), v = .slice A n c ∧ (A = none → n = 0 ∧ c = 0) ∧ Bys w w.heap.size A n V := by
  have hc := h
  rcases h.2 with ⟨rfl, rfl⟩ | ⟨g, cap, cur, rfl, hb, hg, rest⟩
  · exact ⟨none, 0, rfl, fun _ => ⟨rfl, rfl⟩, fun k hk => absurd hk (by omega)⟩
  · refine ⟨some ⟨g, 0, none⟩, cap, rfl, fun e => (by cases e), fun k hk => ⟨⟨g, 0, none⟩, rfl, (hc.lt g rfl).2, ?_, hV k hk⟩⟩
    exact hc.cells rfl k _ (ycells_at V n k hk)

end Go.Proofs.Ythbnojhcmfhnhaa
