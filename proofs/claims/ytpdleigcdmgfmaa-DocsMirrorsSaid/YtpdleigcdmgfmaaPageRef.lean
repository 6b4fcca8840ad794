/- The contracts of the document's own answers for layer 5: Put and Get. -/
import Derived.Test.YtpdleigcdmgfmaaPage
import Derived.Test.YtpdleigcdmgfmaaCrcFirst
import Derived.Test.YtpdleigcdmgfmaaHeld
import Derived.Deep.CutBlock
import Derived.Deep.DeepCutAuto
namespace Go.Proofs.Ytpdleigcdmgfmaa
open Go.RowKit

theorem padded_nought (V : Nat → Nat) (n k : Nat) (h : n ≤ k) : padded V n k = 0 := by unfold padded; rw [if_neg (by omega)]
theorem padded_self (V : Nat → Nat) (n : Nat) : ycells (padded V n) n = ycells V n := ycells_congr fun k hk => by unfold padded; rw [if_pos hk]
theorem body_cells (V : Nat → Nat) (n t : Nat) : ycells (padded V n) 256 ++ ycells (byteOf t) 4 = ycells (bodyOf V n t) 260 := ycells_both (padded V n) (byteOf t) 256 4
/-- the number's bytes, as the document lays them. -/
theorem four_num (t : Nat) (h : t ≤ 4095) (W : World) : Bys (W.alloc (.cells #[.int .u8 ((t % 256 : Nat) : Int), .int .u8 ((t / 256 : Nat) : Int), .int .u8 0, .int .u8 0] 5)) (W.heap.size + 1) (some ⟨W.heap.size, 0, none⟩) 4 (byteOf t) := by
  have hl := lies_new W 5 (quad t)
  have hq := quad_bys hl
  rw [size_alloc] at hq
  have e : quad t = [.int .u8 ((t % 256 : Nat) : Int), .int .u8 ((t / 256 : Nat) : Int), .int .u8 0, .int .u8 0] := by
    unfold quad
    rw [byteOf_0, byteOf_1 t (by omega), byteOf_2 t (by omega), byteOf_3 t (by omega)]
    rfl
  rw [e] at hq
  exact hq

/-- a slice's length. -/
def lenOf : Value → Nat
  | .slice _ n _ => n
  | _ => 0
theorem tmod_nat (t m : Nat) : (t : Int).tmod (m : Int) = ((t % m : Nat) : Int) := by rw [Int.tmod_eq_emod_of_nonneg (by omega)]; omega
theorem tdiv_nat (t m : Nat) : (t : Int).tdiv (m : Int) = ((t / m : Nat) : Int) := by rw [Int.tdiv_eq_ediv_of_nonneg (by omega)]; omega

/-- what the document's Get leaves. -/
def RefGetPost (w : World) (A : Option Addr) (n c : Nat) (V : Nat → Nat) (e : Ending) (w' : World) : Prop :=
  (n < 264 → e = .returned (.tuple #[.int .i64 0, .slice none 0 0, .int .i64 50])) ∧
  (264 < n → e = .returned (.tuple #[.int .i64 0, .slice none 0 0, .int .i64 51])) ∧
  (n = 264 → ¬ Pl.Ends V 260 → e = .returned (.tuple #[.int .i64 0, .slice none 0 0, .int .i64 40])) ∧
  (n = 264 → Pl.Ends V 260 → 4096 ≤ numberOf V → e = .returned (.tuple #[.int .i64 0, .slice none 0 0, .int .i64 10])) ∧
  (n = 264 → Pl.Ends V 260 → numberOf V < 4096 → e = .returned (.tuple #[.int .i64 ((numberOf V : Nat) : Int), .slice A 256 c, .int .i64 0])) ∧ Below w.heap.size w w'
theorem ends_same {V : Nat → Nat} (h : Pl.Ends V 260) : bstr (behind V 260) 264 = bstr V 264 := bstr_congr fun k hk => by
  by_cases h2 : k < 260
  · exact behind_old V 260 k h2
  · have e := behind_new V 260 (k - 260)
    have e2 := h (k - 260) (by omega)
    rw [show 260 + (k - 260) = k by omega] at e e2
    rw [e, e2]
    rfl
theorem ends_unlike {V : Nat → Nat} (hV : ∀ k, k < 264 → V k < 256) (h : ¬ Pl.Ends V 260) : bstr (behind V 260) 264 ≠ bstr V 264 := fun e => h fun i hi => by
  have e1 := (bstr_same (fun k hk => behind_lt (fun j hj => hV j (by omega)) k) hV e).2 (260 + i) (by omega)
  rw [behind_new] at e1
  rw [← e1]
  rfl

end Go.Proofs.Ytpdleigcdmgfmaa
