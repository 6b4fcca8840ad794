/- The contract of crc.Cut. -/
import Derived.Test.YtpcdbmkmpphhiaaCrc
import Derived.Deep.RegionHeld3
import Derived.Deep.CutBlock
import Derived.Deep.DeepCutAuto
import Derived.Stop.BytesEq
namespace Go.Proofs.Ytpcdbmkmpphhiaa
open Go.RowKit

theorem below_drew' {B : Nat} {a w : World} (h : Below B a w) : Below B a w.drew := ⟨h.os, h.tape, h.output, h.size, h.block⟩
theorem ownsRow_lower {w : World} {B B' n : Nat} {t : TypeId} {v : Value} {cs : List Value} (h : w.ownsRow B t 1 v n cs) (hB : B' ≤ B) : w.ownsRow B' t 1 v n cs := by
  refine ⟨h.1, ?_⟩
  rcases h.2 with h' | ⟨g, cap, cur, e, hb, rest⟩
  · exact .inl h'
  · exact .inr ⟨g, cap, cur, e, Nat.le_trans hB hb, rest⟩
/-- what Cut leaves: too short, another sum, or the bytes ahead of the sum. -/
def CutPost (w : World) (n : Nat) (V : Nat → Nat) (e : Ending) (w' : World) : Prop :=
  (n < 4 → e = .returned (.tuple #[.slice none 0 0, .int .i64 50])) ∧
  (∀ m, n = m + 4 → ¬ Pl.Ends V m → e = .returned (.tuple #[.slice none 0 0, .int .i64 40])) ∧
  (∀ m, n = m + 4 → Pl.Ends V m → ∃ v, e = .returned (.tuple #[v, .int .i64 0]) ∧ w'.ownsRow w.heap.size 5 1 v m (ycells V m)) ∧ Below w.heap.size w w'

/-- bytes as the model's own. -/
theorem u8_list (a b c d : Nat) (ha : a < 256) (hb : b < 256) (hc : c < 256) (hd : d < 256) :
    (#[.int .u8 (a : Int), .int .u8 (b : Int), .int .u8 (c : Int), .int .u8 (d : Int)] : Array Value) = ([UInt8.ofNat a, UInt8.ofNat b, UInt8.ofNat c, UInt8.ofNat d].map Extern.Stop.cell).toArray := by
  simp [Extern.Stop.cell]
  omega
theorem size_u8 (w : World) : (sizeOf 5).run Try.prog w = .ok 1 w := by
  obtain ⟨i, hi, hz, hs, hb⟩ := info_parts info_u8
  simp [sizeOf, typeInfo, hi, hs]
/-- a row of the call's own, as a slice of bytes. -/
theorem row_bys {w : World} {base n : Nat} {v : Value} {V : Nat → Nat} (h : w.ownsRow base 5 1 v n (ycells V n)) (hV : ∀ j, j < n → V j < 256) :
    ∃ (A : Option Addr) (c : Nat), v = .slice A n c ∧ (A = none → n = 0 ∧ c = 0) ∧ n ≤ c ∧ Bys w w.heap.size A n V := by
  have hc := h
  rcases h.2 with ⟨rfl, rfl⟩ | ⟨g, cap, cur, rfl, hb, hg, hcap, rest⟩
  · exact ⟨none, 0, rfl, fun _ => ⟨rfl, rfl⟩, Nat.le_refl _, fun k hk => absurd hk (by omega)⟩
  · refine ⟨some ⟨g, 0, none⟩, cap, rfl, fun e => (by cases e), hcap, fun k hk => ⟨⟨g, 0, none⟩, rfl, (hc.lt g rfl).2, ?_, hV k hk⟩⟩
    exact hc.cells rfl k _ (ycells_at V n k hk)
theorem sumN_congr {V U : Nat → Nat} {n : Nat} (h : ∀ k, k < n → V k = U k) : Pl.sumN V n = Pl.sumN U n := by
  unfold Pl.sumN
  exact congrArg (· ^^^ Pl.allOnes) (Pl.more_congr Pl.allOnes h)
theorem behind_old (V : Nat → Nat) (n k : Nat) (h : k < n) : behind V n k = V k := by unfold behind both; rw [if_pos h]
theorem behind_new (V : Nat → Nat) (n i : Nat) : behind V n (n + i) = byteOf (Pl.sumN V n) i := by
  unfold behind both
  rw [if_neg (by omega), show n + i - n = i by omega]
theorem behind_ends (V : Nat → Nat) (n : Nat) : Pl.Ends (behind V n) n := fun i _ => by
  rw [behind_new, sumN_congr (fun k hk => behind_old V n k hk)]
  rfl
theorem ycells_congr {V U : Nat → Nat} {n : Nat} (h : ∀ k, k < n → V k = U k) : ycells V n = ycells U n := by
  unfold ycells
  apply List.map_congr_left
  intro k hk
  rw [h k (List.mem_range.1 hk)]
/-- a row of the call's own, as a string. -/
theorem row_conv {w : World} {B n : Nat} {v : Value} {V : Nat → Nat} (h : w.ownsRow B 5 1 v n (ycells V n)) (hV : ∀ k, k < n → V k < 256) : (convert 30 9 v).run Try.prog w = .ok (.string (bstr V n)) w := by
  obtain ⟨A, c, rfl, _, _, ho⟩ := row_bys h hV
  exact ho.conv c
end Go.Proofs.Ytpcdbmkmpphhiaa
