/- A slice of bytes that came in, its room too; parts of it; a number below another out of any int. -/
import Derived.Test.YtpcdbmkmpphhiaaBytesOwn
import Derived.Test.YtpcdbmkmpphhiaaLaw
namespace Go.Proofs.Ytpcdbmkmpphhiaa
open Go.ChangeShapes Go.WideShapes Go.ChangeAt Go.RowKit

section
variable {H : Type} {enc : TypeId × Value → H}
set_option maxRecDepth 100000 in
theorem open_bytesc {W : World} {v : Value} {d : DataW H} {p : List MemPlace} {b : Nat} {r : Reach} (hv : Value.okWide Try.prog W r b 30 v) (h : DataW.Trod enc Try.prog W 0 (fun _ => true) true 30 v d p) :
    ∃ (A : Option Addr) (n c : Nat) (V : Nat → Nat), v = .slice A n c ∧ c ≤ maxLen ∧ (A = none → n = 0 ∧ c = 0) ∧ n ≤ c ∧ Bys W W.heap.size A n V := by
  obtain ⟨a0, len, cap, rfl⟩ := okWide_slice Try.underlying30 hv
  obtain ⟨fuel, hf⟩ := h
  rcases open_ints Try.underlying30 Try.underlying5 cells_u8 hf with ⟨hcs, _⟩ | ⟨a, n, c, zs, hcs, _, hl, hm, hz, _, hcell, hwz⟩
  · simp [Value.cells] at hcs
    obtain ⟨rfl, rfl, rfl⟩ := hcs
    exact ⟨none, 0, 0, fun _ => 0, rfl, Nat.zero_le _, fun _ => ⟨rfl, rfl⟩, Nat.le_refl _, fun k hk => absurd hk (by omega)⟩
  · simp [Value.cells] at hcs
    obtain ⟨rfl, rfl, rfl⟩ := hcs
    have hnm : len ≤ zs.length := by rw [hz]; split <;> omega
    refine ⟨some a, len, cap, fun k => (zs.getD k 0).toNat, rfl, hm, fun e => (by cases e), hl, fun k hk => ?_⟩
    have e0 := hcell k (by omega)
    have hlt := cell_in e0
    rw [add_block] at hlt
    have hmem : zs.getD k 0 ∈ zs := by
      rw [List.getD_eq_getElem?_getD, List.getElem?_eq_getElem (by omega)]
      exact List.getElem_mem _
    obtain ⟨x, hx, hxz⟩ := u8_nat (hwz _ hmem)
    refine ⟨a, rfl, hlt, ?_, ?_⟩
    · show W.cell? (a.add k) = some (.int .u8 (((zs.getD k 0).toNat : Nat) : Int))
      rw [e0, hxz, Int.toNat_natCast]
    · show (zs.getD k 0).toNat < 256
      rw [hxz]
      exact hx
end
theorem Bys.take {w : World} {B n m : Nat} {A : Option Addr} {V : Nat → Nat} (h : Bys w B A n V) (hm : m ≤ n) : Bys w B A m V := fun k hk => h k (by omega)
theorem Bys.lt {w : World} {B n : Nat} {A : Option Addr} {V : Nat → Nat} (h : Bys w B A n V) : ∀ k, k < n → V k < 256 := fun k hk => (h k hk).elim fun _ h => h.2.2.2
/-- a number below t out of any int. -/
theorem turn_num (a : Int) (t : Nat) (ht : 0 < t) (hs : t ≤ 4194304) : ∃ j : Nat, wrap64 ((IntKind.u64.wrap a).tmod (t : Int)) = (j : Int) ∧ j < t := by
  have hw : 0 ≤ IntKind.u64.wrap a := by rw [IntKind.wrap_u64]; omega
  generalize IntKind.u64.wrap a = x at hw
  have e1 : x.tmod (t : Int) = x % (t : Int) := Int.tmod_eq_emod_of_nonneg hw
  have h1 := Int.emod_nonneg x (show (t : Int) ≠ 0 by omega)
  have h2 := Int.emod_lt_of_pos x (show (0 : Int) < (t : Int) by omega)
  rw [e1]
  refine ⟨(x % (t : Int)).toNat, ?_, by omega⟩
  unfold wrap64
  omega
/-- the bytes behind the k-th. -/
theorem Bys.from {w : World} {B m k : Nat} {A : Option Addr} {V : Nat → Nat} (h : Bys w B A m V) (hk : k ≤ m) : Bys w B (A.map (·.add k)) (m - k) (fun j => V (k + j)) := fun j hj => by
  obtain ⟨ad, rfl, hb, hc, hv⟩ := h (k + j) (by omega)
  refine ⟨ad.add k, rfl, by rw [add_block]; exact hb, ?_, hv⟩
  rw [Addr.add_add]
  exact hc
end Go.Proofs.Ytpcdbmkmpphhiaa
