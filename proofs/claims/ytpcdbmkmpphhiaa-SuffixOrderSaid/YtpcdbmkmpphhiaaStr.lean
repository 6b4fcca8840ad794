/- Strings out of slices of bytes. -/
import Derived.Test.YtpcdbmkmpphhiaaBytes
import Derived.Laws.BytesArg
namespace Go.Proofs.Ytpcdbmkmpphhiaa
open Go.RowKit

/-- n bytes as a string. -/
def bstr (V : Nat → Nat) (n : Nat) : ByteArray := ⟨((List.range n).map fun k => UInt8.ofNat (V k)).toArray⟩
theorem bstr_size (V : Nat → Nat) (n : Nat) : (bstr V n).size = n := by simp [bstr, ByteArray.size]
theorem bstr_congr {V U : Nat → Nat} {n : Nat} (h : ∀ k, k < n → V k = U k) : bstr V n = bstr U n := by
  unfold bstr
  congr 2
  apply List.map_congr_left
  intro k hk
  rw [h k (List.mem_range.1 hk)]
theorem u8_same {x y : Nat} (hx : x < 256) (hy : y < 256) (h : UInt8.ofNat x = UInt8.ofNat y) : x = y := by
  have e := congrArg UInt8.toNat h
  rw [UInt8.toNat_ofNat', UInt8.toNat_ofNat'] at e
  omega
theorem bstr_same {V U : Nat → Nat} {n m : Nat} (hV : ∀ k, k < n → V k < 256) (hU : ∀ k, k < m → U k < 256) (h : bstr V n = bstr U m) : n = m ∧ ∀ k, k < n → V k = U k := by
  have hs := congrArg ByteArray.size h
  rw [bstr_size, bstr_size] at hs
  subst hs
  refine ⟨rfl, fun k hk => ?_⟩
  have hd := congrArg (fun b : ByteArray => b.data.toList[k]?) h
  simp only [bstr, List.getElem?_map, List.getElem?_range hk, Option.map_some, Option.some.injEq] at hd
  exact u8_same (hV k hk) (hU k hk) hd

/-- how the walk holds two strings against each other. -/
theorem str_eq (a b : ByteArray) : (a.toList == b.toList) = decide (a = b) := by
  rw [Bool.eq_iff_iff, beq_iff_eq, decide_eq_true_eq, ByteArray.toList_eq, ByteArray.toList_eq]
  exact ⟨fun h => ByteArray.ext (Array.toList_inj.1 h), fun h => by rw [h]⟩
theorem str_same {a b : ByteArray} (h : a = b) : (a.toList == b.toList) = true := by rw [str_eq]; simpa using h
theorem str_unlike {a b : ByteArray} (h : a ≠ b) : (a.toList == b.toList) = false := by rw [str_eq]; simpa using h

/-- a slice of bytes, as a string. -/
theorem conv_bytes (A : Option Addr) (n c : Nat) (V : Nat → Nat) (w : World) (h : ∀ k, k < n → ∃ ad : Addr, A = some ad ∧ w.cell? (ad.add k) = some (.int .u8 ((V k : Nat) : Int))) :
    (convert 30 9 (.slice A n c)).run Try.prog w = .ok (.string (bstr V n)) w := by
  rw [run_convert_bytes_string w 30 9 5 A n c Try.underlying30 Try.underlying5 Try.underlying9]
  rcases A with _ | ad
  · have h0 : n = 0 := by
      apply Classical.byContradiction
      intro hne
      obtain ⟨_, e, _⟩ := h 0 (by omega)
      cases e
    subst h0
    simp [Conv.bytesToString]
    rfl
  · have hl : (loadCells ad n).run Try.prog w = .ok ((((List.range n).map fun k => ((V k : Nat) : Int))).map (Value.int .u8)).toArray w := by
      have := run_loadCells_list (P := Try.prog) w ad ((((List.range n).map fun k => ((V k : Nat) : Int))).map (Value.int .u8)) (fun j v hj => by
        have hjn : j < n := by
          have := (List.getElem?_eq_some_iff.1 hj).1
          simpa using this
        obtain ⟨ad', e, hc⟩ := h j hjn
        cases e
        rw [hc, ← hj]
        simp [hjn])
      simpa using this
    rw [run_bytesToString w ad n c _ hl, foldl_push_bytes]
    congr 2
    simp [bstr, ByteArray.empty, ByteArray.emptyWithCapacity]
    show List.map _ _ = _
    apply List.map_congr_left
    intro k _
    simp
theorem Bys.conv {w : World} {B : Nat} {A : Option Addr} {n : Nat} {V : Nat → Nat} (h : Bys w B A n V) (c : Nat) : (convert 30 9 (.slice A n c)).run Try.prog w = .ok (.string (bstr V n)) w :=
  conv_bytes A n c V w fun k hk => by
    obtain ⟨ad, e, _, hc, _⟩ := h k hk
    exact ⟨ad, e, hc⟩
end Go.Proofs.Ytpcdbmkmpphhiaa
