/- The contract of the document's Build for layer 6: an image of sections. -/
import Derived.Test.YtpdleigcdmgfmaaTxtRef
import Derived.Test.YtpdleigcdmgfmaaPageRef
import Derived.Laws.OwnMore
namespace Go.Proofs.Ytpdleigcdmgfmaa
open Go.RowKit

/-- sections out of memory. -/
def secsP (L : List Part) : List Sec := L.map Part.sec
theorem secsP_length (L : List Part) : (secsP L).length = L.length := by unfold secsP; simp
theorem secsP_at {L : List Part} {i : Nat} {p : Part} (h : L[i]? = some p) : (secsP L)[i]? = some p.sec := by unfold secsP; rw [List.getElem?_map, h]; rfl
theorem Secs.bytes {w : World} {B : Nat} {P : Option Addr} {L : List Part} (h : Secs w B P L) : ∀ s ∈ secsP L, ∀ k, k < s.n → s.V k < 256 := fun s hs k hk => by
  unfold secsP at hs
  obtain ⟨p, hp, rfl⟩ := List.mem_map.1 hs
  obtain ⟨i, hi, rfl⟩ := List.getElem_of_mem hp
  obtain ⟨_, _, _, _, _, _, _, hb⟩ := h i _ (List.getElem?_eq_getElem hi)
  exact (hb k hk).elim fun _ h => h.2.2.2
/-- what Build leaves. -/
def BuildPost (w : World) (L : List Part) (e : Ending) (w' : World) : Prop :=
  (60 < L.length → e = .returned (.tuple #[.slice none 0 0, .int .i64 80])) ∧
  (L.length ≤ 60 → 4096 < allPages (secsP L) → e = .returned (.tuple #[.slice none 0 0, .int .i64 80])) ∧
  (L.length ≤ 60 → allPages (secsP L) ≤ 4096 → ∃ v, e = .returned (.tuple #[v, .int .i64 0]) ∧ w'.ownsRow w.heap.size 5 1 v (264 * allPages (secsP L)) (ycells (imageOf (secsP L)) (264 * allPages (secsP L)))) ∧ Below w.heap.size w w'
theorem pgs_split (n : Nat) : pgs n = n / 256 + (if 0 < n % 256 then 1 else 0) := by
  unfold pgs
  split <;> omega
theorem startAt_le (L : List Sec) (i : Nat) (hi : i ≤ L.length) : startAt L i ≤ allPages L := by
  by_cases h : i = L.length
  · subst h; exact Nat.le_refl _
  · obtain ⟨x, hx⟩ : ∃ x, L[i]? = some x := ⟨_, List.getElem?_eq_getElem (by omega)⟩
    have := ahead_le L i x hx
    unfold allPages startAt
    omega
/-- the head's first six bytes. -/
theorem head_six (S : List Sec) : ([.int .u8 99, .int .u8 111, .int .u8 108, .int .u8 111, .int .u8 ((S.length : Nat) : Int), .int .u8 0] : List Value) = ycells (headV S) 6 := rfl
theorem head_next (S : List Sec) (i b n : Nat) (hn : lenAt S i = n) (hb : b < 4) : ycells (headV S) (6 + 4 * i + b) ++ [.int .u8 ((n / 256 ^ b % 256 : Nat) : Int)] = ycells (headV S) (6 + 4 * i + (b + 1)) := by
  rw [← Nat.add_assoc, ycells_snoc, headV_len S i b hb, hn]
  rfl

theorem img_head (S : List Sec) (k : Nat) (h : S.length = k) : ycells (pageOf (headV S) (6 + 4 * k) 0) 264 = ycells (imageOf S) 264 := ycells_congr fun j hj => by
  have e := image_at S 0 j (headOf S) (body_head S) hj
  rw [Nat.mul_zero, Nat.zero_add] at e
  rw [e, ← h]
  rfl
theorem img_next (S : List Sec) (p : Nat) (c : Sec) (h : (body S)[p]? = some c) : ycells (imageOf S) (264 * p) ++ ycells (pageOf c.V c.n p) 264 = ycells (imageOf S) (264 * p + 264) := by
  rw [ycells_both]
  refine ycells_congr fun k hk => ?_
  unfold both
  split
  · rfl
  · have e := image_at S p (k - 264 * p) c h (by omega)
    rw [show 264 * p + (k - 264 * p) = k by omega] at e
    exact e.symm

theorem Bys.cut_ {w : World} {B n m e : Nat} {ad : Addr} {V : Nat → Nat} (h : Bys w B (some ad) n V) (he : m + e ≤ n) : Bys w B (some (ad.add m)) e (fun k => V (m + k)) := fun k hk => by
  obtain ⟨ad', e1, hb, hc, hv⟩ := h (m + k) (by omega)
  cases e1
  refine ⟨ad.add m, rfl, by rw [add_block]; exact hb, ?_, hv⟩
  rw [Addr.add_add]
  exact hc

end Go.Proofs.Ytpdleigcdmgfmaa
