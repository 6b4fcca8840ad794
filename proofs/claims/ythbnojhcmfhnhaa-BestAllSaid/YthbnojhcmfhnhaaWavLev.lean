/- The document's levels of a row: by putting the numbers in order by one bit after the other. -/
import Derived.Test.YthbnojhcmfhnhaaWavRef
import Derived.Test.YthbnojhcmfhnhaaWavNar
import Derived.Test.YthbnojhcmfhnhaaOwnParts
import Derived.Test.YthbnojhcmfhnhaaIntApp
namespace Go.Proofs.Ythbnojhcmfhnhaa
open Go.RowKit

theorem ofInt_n (x : Nat) (h : x < 2 ^ 64) : (BitVec.ofInt 64 (x : Int)).toNat = x := by
  rw [BitVec.toNat_ofInt]
  omega
theorem bit_low {x : Int} {b : Nat} (h0 : 0 ≤ x) (h1 : x ≤ 4194304) (_ : b ≤ 64) : bits .and .i64 (x / 2 ^ b) 1 % 256 = ((bitN x b : Nat) : Int) := by
  obtain ⟨y, rfl⟩ : ∃ y : Nat, x = (y : Int) := ⟨x.toNat, by omega⟩
  rw [bitN_int]
  unfold bitZ
  rw [shr_u]
  have hy : y / 2 ^ b ≤ 4194304 := Nat.le_trans (Nat.div_le_self _ _) (by omega)
  generalize y / 2 ^ b = u at hy
  have e : bits .and .i64 (u : Int) 1 = ((u % 2 : Nat) : Int) := by
    show IntKind.i64.wrap ((BitVec.ofInt 64 (u : Int) &&& BitVec.ofInt 64 ((1 : Nat) : Int)).toNat : Int) = _
    rw [BitVec.toNat_and, ofInt_n u (by omega), ofInt_n 1 (by omega), Nat.and_one_is_mod]
    exact IntWalk.i64_in _ (by omega)
  rw [e]
  omega
theorem icells_put1 (U : Nat → Int) (m : Nat) (x : Int) : icells (fun p => if p = m then x else U p) (m + 1) = icells U m ++ [.int .i64 x] := by
  rw [icells_snoc, if_pos rfl, icells_congr (U := fun p => if p = m then x else U p) (U' := U) (fun j hj => if_neg (by omega))]
/-- the first k levels, as slices of bytes of the call's own. -/
structure LevP (w : World) (B : Nat) (V : Nat → Int) (n W k : Nat) (L : List Part) : Prop where
  len : L.length = k
  own : ∀ (q : Nat) (p : Part), L[q]? = some p → OwnPart w B p
  bits : ∀ (q : Nat) (p : Part), L[q]? = some p → p.n = n ∧ ∀ i, i < n → p.V i = bitN (levRow V n W q i) (W - 1 - q)

theorem owns_low {w w' : World} {B n : Nat} {t : TypeId} {v : Value} {cs : List Value} (h : w.ownsRow B t 1 v n cs) (hb : Below w.heap.size w w') : w'.ownsRow B t 1 v n cs := by
  refine ⟨h.1, ?_⟩
  rcases h.2 with h0 | ⟨g, cap, cur, e, h1, h2, h3⟩
  · exact .inl h0
  · exact .inr ⟨g, cap, cur, e, h1, (hb.block g (Array.getElem?_eq_some_iff.1 h2).1).trans h2, h3⟩
theorem LevP.below {w w' : World} {B : Nat} {V : Nat → Int} {n W k : Nat} {L : List Part} (h : LevP w B V n W k L) (hb : Below w.heap.size w w') : LevP w' B V n W k L := ⟨h.len, fun q p hq => (h.own q p hq).below hb, h.bits⟩
end Go.Proofs.Ythbnojhcmfhnhaa
